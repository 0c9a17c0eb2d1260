/- What is proved: what Spread tells of any text and any places. -/
import Derived.Test.YtenlbeagmaehlaaText
import Derived.Laws.OwnMore
import Derived.WalkSmall
namespace Go.Proofs.Ytenlbeagmaehlaa
open Go.RowKit Go.Shelf

/-- A slice value whose elements are these numbers. -/
def Ints (W : World) (v : Value) (ps : List Int) : Prop :=
  ∃ ad cap, v = .slice ad ps.length cap ∧ ps.length ≤ cap ∧ cap ≤ maxLen ∧ ∀ i p, ps[i]? = some p → ∃ g o, ad = some ⟨g, o, none⟩ ∧ W.cell? ⟨g, o + i, none⟩ = some (.int .i64 p)

theorem Ints.below {W W' : World} {v : Value} {ps : List Int} (h : Ints W v ps) (hb : Below W.heap.size W W') : Ints W' v ps := by
  obtain ⟨ad, cap, rfl, h1, h2, h3⟩ := h
  refine ⟨ad, cap, rfl, h1, h2, fun i x hx => ?_⟩
  obtain ⟨g, o, e, c0⟩ := h3 i x hx
  exact ⟨g, o, e, (hb.cell (p := ⟨g, o + i, none⟩) (lt_of_cell c0)).trans c0⟩

theorem Ints.cells {W : World} {ad : Option Addr} {n cap : Nat} {ps : List Int} (h : Ints W (.slice ad n cap) ps) (hl : 0 < ps.length) :
    ∃ g o, ad = some ⟨g, o, none⟩ ∧ n = ps.length ∧ ps.length ≤ cap ∧ cap ≤ maxLen ∧ g < W.heap.size ∧ ∀ i p, ps[i]? = some p → W.cell? ⟨g, o + i, none⟩ = some (.int .i64 p) := by
  obtain ⟨ad', cap', e, h1, h2, h3⟩ := h
  injection e with e1 e2 e3
  subst e1 e2 e3
  obtain ⟨g, o, rfl, c0⟩ := h3 0 _ (List.getElem?_eq_getElem hl)
  refine ⟨g, o, rfl, rfl, h1, h2, lt_of_cell c0, fun i x hx => ?_⟩
  obtain ⟨g', o', e, d0⟩ := h3 i x hx
  injection e with e
  injection e with e4 e5
  subst e4 e5
  exact d0

/-- A row of numbers that the call made: how many pairs go ahead of each byte. -/
def Ahead (W : World) (h N : Nat) (f : Nat → Nat) : Prop := W.ownsRow h 3 1 (.slice (some ⟨h, 0, none⟩) N N) N ((List.range N).map fun i => Value.int .i64 (f i))

theorem Ahead.cell {W : World} {h N : Nat} {f : Nat → Nat} (a : Ahead W h N f) (i : Nat) (hi : i < N) : W.cell? ⟨h, i, none⟩ = some (.int .i64 (f i)) := by
  rw [World.ownsRow.cellAt a i (by omega)]
  simp [hi]
theorem Ahead.frozen {W : World} {h N : Nat} {f : Nat → Nat} (a : Ahead W h N f) (i : Nat) : W.frozen? ⟨h, i, none⟩ = false := World.ownsRow.frozenAt a i
theorem Ahead.set {W : World} {h N : Nat} {f f' : Nat → Nat} (a : Ahead W h N f) (i : Nat) (hf : ∀ j, f' j = f j + if i = j then 1 else 0) :
    Ahead (W.setCell ⟨h, i, none⟩ (.int .i64 ((f i : Int) + 1))) h N f' := by
  have := (World.ownsRow.stored a i (.int .i64 ((f i : Int) + 1))).1
  have e : ((List.range N).map fun j => Value.int .i64 (f j)).set i (.int .i64 ((f i : Int) + 1)) = (List.range N).map fun j => Value.int .i64 (f' j) := by
    apply List.ext_getElem?
    intro j
    rw [List.getElem?_set]
    by_cases hij : i = j
    · subst hij
      by_cases hj : i < N
      · simp [hj, hf]
      · simp [hj]
    · rw [if_neg hij]
      by_cases hj : j < N
      · simp [hj, hf, hij]
      · simp [hj]
  rw [e] at this
  exact this
theorem Ahead.keep {W W' : World} {h N : Nat} {f : Nat → Nat} (a : Ahead W h N f) (e : W'.heap[h]? = W.heap[h]?) : Ahead W' h N f := by
  refine ⟨a.1, ?_⟩
  rcases a.2 with ⟨h', _⟩ | ⟨g, cap, cur, h', h1, h2, h3⟩
  · simp at h'
  · have hg : g = h := by simp at h'; exact h'.1.symm
    refine .inr ⟨g, cap, cur, h', h1, ?_, h3⟩
    rw [hg] at h2 ⊢
    rw [e]; exact h2
theorem Ahead.lt {W : World} {h N : Nat} {f : Nat → Nat} (a : Ahead W h N f) : h < W.heap.size := (World.ownsRow.lt a h rfl).2

theorem info3 : (Try.prog.info? 3).map (fun i => (i.zero, i.size, i.bytes)) = some (some (.int .i64 0), 1, 8) := by kernel_rfl

theorem spr_room (t : List UInt8) (f : Nat → Nat) (k : Nat) (hk : k ≤ 1000001) (hf : ∀ i, f i ≤ 10000) (j : Nat) (hj : j ≤ f k) : (Sp.spr t f k ++ Sp.prs j).length ≤ 50000000000 := by
  have h1 := Sp.spr_length t f 10000 hf k
  have h2 : k * (2 * 10000 + 1) ≤ 1000001 * 20001 := Nat.mul_le_mul hk (by omega)
  have h3 := hf k
  rw [List.length_append, Sp.prs_length]
  omega

set_option maxRecDepth 100000 in
set_option maxHeartbeats 4000000 in
theorem spread_any (s : ByteArray) (hs : s.size ≤ 1000000) (v : Value) (ps : List Int) (w : World) (hv : Ints w v ps) (hl : ps.length ≤ 10000) :
    Calls Try.prog 17 #[.string s, v] w fun e w' => e = .returned (.string ⟨(Sp.spread (Sp.cnt ps ps.length) 0 s.data.toList).toArray⟩) ∧ Below w.heap.size w w' := by
  obtain ⟨i0, hi, hz0, hz1, hz2⟩ := info_parts info3
  rw [← Sp.spread_spr, size_list]
  obtain ⟨w1, hmk, hrow1, hg1⟩ := run_make_full (P := Try.prog) w w.heap.size 33 3 i0 (.int .i64 0) 1 Try.underlying33 hi hz0 hz1 .i64 .i64 (s.size + 1) (by rw [hz2]; omega) (by unfold maxLen; omega) (Nat.le_refl _)
  have hA0 : Ahead w1 w.heap.size (s.size + 1) (Sp.cnt ps 0) := by
    unfold Ahead
    have e : (madeCells (Value.int IntKind.i64 0).cells ((s.size + 1) * 1)).toList = (List.range (s.size + 1)).map fun i => Value.int .i64 (Sp.cnt ps 0 i : Nat) := by
      rw [show (Value.int IntKind.i64 0).cells = #[Value.int .i64 0] from rfl, toList_madeCells_one, Nat.mul_one]
      apply List.ext_getElem?
      intro j
      by_cases hj : j < s.size + 1
      · simp [hj, Sp.cnt_zero]
      · simp [hj]
    rw [← e]; exact hrow1
  have hB0 : Below w.heap.size w w1 := (Below.refl _ w).grown hg1 (Nat.le_refl _) (fun _ e => by cases e)
  rw [show (((s.size + 1 : Nat) : Int)) = (s.size : Int) + 1 by omega] at hmk
  clear hrow1 hg1 hz0 hz1 hz2 hi
  obtain ⟨ad, cap, rfl, -⟩ := id hv
  obtain ⟨n, hn⟩ : ∃ n, n = ps.length := ⟨_, rfl⟩
  have HC : Hid (∀ k p W, ps[k]? = some p → Below w.heap.size w W → ∃ g o, ad = some ⟨g, o, none⟩ ∧ n ≤ cap ∧ W.cell? ⟨g, o + k, none⟩ = some (.int .i64 p)) := Lib.hid (by
    intro k p W hp hB
    obtain ⟨g, o, rfl, _, h1, _, hg, hc⟩ := hv.cells (by have := (List.getElem?_eq_some_iff.1 hp).1; omega)
    exact ⟨g, o, rfl, by omega, (hB.cell (p := ⟨g, o + k, none⟩) hg).trans (hc k p hp)⟩)
  have hcap : cap ≤ maxLen := by obtain ⟨_, _, e, _, h2, _⟩ := hv; injection e with _ _ e3; omega
  unfold maxLen at hcap
  rw [← hn] at hl ⊢
  have Hn := Lib.hid hn
  have hcn : ∀ k i, Sp.cnt ps k i ≤ 10000 := fun k i => Nat.le_trans (Sp.cnt_le ps k i) (by rw [← hn]; exact hl)
  have HN := Lib.hid hcn
  clear hn hv hcn
  go_enter Try.func17, Try.ntmps17
  go_wp2_with fail
  go_loopw [17] (fun i wr => ∃ k : Nat, i = .int .i64 k ∧ k ≤ n ∧ Ahead wr w.heap.size (s.size + 1) (Sp.cnt ps k) ∧ Below w.heap.size w wr) (fun i _ => n - (intOf i).toNat)
  case atStart => exact ⟨0, rfl, Nat.zero_le _, hA0, hB0⟩
  case round =>
    obtain ⟨k, rfl, hk, hA, hB⟩ := hrel
    clear hmk hA0 hB0
    have hsB := hB.size
    by_cases hlt : k < n
    · have hkp : k < ps.length := by rw [← Hn.out]; exact hlt
      obtain ⟨g, o, rfl, hnc, hcell⟩ := HC.out k _ wr (List.getElem?_eq_getElem hkp) hB
      have hcs := fun i => Sp.cnt_succ ps k i hkp
      obtain ⟨p, hp⟩ : ∃ p, ps[k] = p := ⟨_, rfl⟩
      rw [hp] at hcell
      have HS : Hid (∀ i, Sp.cnt ps (k + 1) i = Sp.cnt ps k i + if p = (i : Int) then 1 else 0) := by rw [← hp]; exact Lib.hid hcs
      clear hcs hp hkp
      have z1 : (0 : Int) ≤ k := by omega
      have z2 : (k : Int) < n := by omega
      by_cases hin : 0 ≤ p ∧ p ≤ s.size
      · obtain ⟨hp0, hp1⟩ := hin
        obtain ⟨j, rfl⟩ := Int.eq_ofNat_of_zero_le hp0
        have hj : j < s.size + 1 := by omega
        have c1 := hA.cell j hj
        have f1 := hA.frozen j
        have hb := HN.out k j
        go_wp2_with fail
        go_roundw
        case rel =>
          refine ⟨k + 1, by go_num, by omega, hA.set j (fun i => ?_), hB.setCell (p := ⟨w.heap.size, j, none⟩) (Nat.le_refl _) _⟩
          rw [HS.out i]
          by_cases e : j = i
          · subst e; simp
          · rw [if_neg e, if_neg (by omega)]
        case measure => simp [intOf]; omega
      · have hskip : ∀ i, i < s.size + 1 → Sp.cnt ps (k + 1) i = Sp.cnt ps k i := fun i hi => by rw [HS.out i, if_neg (by omega)]; rfl
        have hA' : Ahead wr w.heap.size (s.size + 1) (Sp.cnt ps (k + 1)) := by
          unfold Ahead at hA ⊢
          rw [show ((List.range (s.size + 1)).map fun i => Value.int .i64 (Sp.cnt ps (k + 1) i : Nat)) = (List.range (s.size + 1)).map fun i => Value.int .i64 (Sp.cnt ps k i : Nat) from List.map_congr_left fun i hi => by rw [hskip i (List.mem_range.1 hi)]]
          exact hA
        clear hskip
        have hcase : p < 0 ∨ (0 ≤ p ∧ (s.size : Int) < p) := by omega
        clear hin
        rcases hcase with h1 | ⟨h1, h2⟩
        all_goals
          go_wp2_with fail
          go_roundw
          case rel => exact ⟨k + 1, by go_num, by omega, hA', hB⟩
          case measure => simp [intOf]; omega
    · obtain rfl : k = n := by omega
      clear HC hlt hk
      obtain ⟨f, hf⟩ : ∃ f, Sp.cnt ps k = f := ⟨_, rfl⟩
      have HF : Hid (∀ i, f i ≤ 10000) := by rw [← hf]; exact Lib.hid (HN.out k)
      rw [hf] at hA
      have Hf := Lib.hid hf
      clear hf HN
      obtain ⟨V, rfl⟩ : ∃ V, V = wr := ⟨_, rfl⟩
      have hAV := hA.lt
      have hV1 : Bld V.heap.size [] (V.alloc (.cells #[.pointer none, .slice none 0 0] 45)) := Bld.new V
      have hV2 : Ahead (V.alloc (.cells #[.pointer none, .slice none 0 0] 45)) w.heap.size (s.size + 1) f := hA.keep (Below.heap_alloc V _ _ hAV)
      have hV3 : Below w.heap.size w (V.alloc (.cells #[.pointer none, .slice none 0 0] 45)) := hB.alloc hsB _
      have H1 := Lib.hid hV1
      have H2 := Lib.hid hV2
      have H3 := Lib.hid hV3
      clear hV1 hV2 hV3
      go_wp2_with fail
      go_loopw [38] (fun i wr => ∃ k : Nat, i = .int .i64 k ∧ k ≤ s.size + 1 ∧ Bld V.heap.size (Sp.spr s.data.toList f k) wr ∧ Ahead wr w.heap.size (s.size + 1) f ∧ Below w.heap.size w wr) (fun i _ => s.size + 1 - (intOf i).toNat)
      case atStart => exact ⟨0, rfl, Nat.zero_le _, H1.out, H2.out, H3.out⟩
      case round =>
        obtain ⟨i, rfl, hi, hb, hA1, hB1⟩ := hrel
        clear H1 H2 H3 hA hB
        have hsB1 := hB1.size
        by_cases hlt : i < s.size + 1
        · have c1 := hA1.cell i hlt
          have z1 : (0 : Int) ≤ i := by omega
          have z2 : (i : Int) < (s.size : Int) + 1 := by omega
          obtain ⟨U, rfl⟩ : ∃ U, U = wr := ⟨_, rfl⟩
          have hfi := HF.out i
          have Hb := Lib.hid hb
          have HA1 := Lib.hid hA1
          have HB1 := Lib.hid hB1
          clear hb hA1 hB1
          have hroom := fun j (hj : j ≤ f i) => spr_room s.data.toList f i (by omega) HF.out j hj
          have HR := Lib.hid hroom
          clear hroom
          go_wp2_with fail
          go_loopw [44] (fun x wr => ∃ j : Nat, x = .int .i64 j ∧ j ≤ f i ∧ Bld V.heap.size (Sp.spr s.data.toList f i ++ Sp.prs j) wr ∧ Ahead wr w.heap.size (s.size + 1) f ∧ Below w.heap.size w wr) (fun x _ => f i - (intOf x).toNat)
          case atStart => exact ⟨0, rfl, Nat.zero_le _, by simpa [Sp.prs] using Hb.out, HA1.out, HB1.out⟩
          case round =>
            obtain ⟨j, rfl, hj, hb, hA1, hB1⟩ := hrel
            clear Hb HA1 HB1 c1
            have hlen := HR.out j hj
            by_cases hjl : j < f i
            · have z3 : (0 : Int) ≤ j := by omega
              go_wp2_with fail
              refine (wstring_any V.heap.size _ ⟨#[92, 10]⟩ _ hb (by omega) (by decide)).mono ?_
              rintro e W1 ⟨rfl, b1, hB2⟩
              go_wp2_with fail
              go_roundw
              case rel =>
                refine ⟨j + 1, by go_num, by omega, ?_, hA1.keep (hB2.block _ hAV), hB1.trans (hB2.mono (by omega))⟩
                rw [← Sp.prs_snoc, ← List.append_assoc]
                exact b1
              case measure => simp [intOf]; omega
            · obtain rfl : j = f i := by omega
              by_cases his : i < s.size
              · have hsi : s.data.toList[i]? = some s[i] := by rw [List.getElem?_eq_getElem (by rw [size_list]; exact his)]; rfl
                have HSI := Lib.hid hsi
                clear hsi
                go_wp2_with fail
                refine (wbyte_any V.heap.size _ s[i] _ hb (by omega)).mono ?_
                rintro e W1 ⟨rfl, b1, hB2⟩
                go_wp2_with fail
                go_roundw
                case rel =>
                  refine ⟨i + 1, by go_num, by omega, ?_, hA1.keep (hB2.block _ hAV), hB1.trans (hB2.mono (by omega))⟩
                  rw [Sp.spr, HSI.out, ← List.append_assoc]
                  exact b1
                case measure => simp [intOf]; omega
              · have hsi : s.data.toList[i]? = none := List.getElem?_eq_none (by rw [size_list]; omega)
                have HSI := Lib.hid hsi
                clear hsi
                go_wp2_with fail
                go_roundw
                case rel =>
                  refine ⟨i + 1, by go_num, by omega, ?_, hA1, hB1⟩
                  rw [Sp.spr, HSI.out, Option.toList_none, List.append_nil]
                  exact hb
                case measure => simp [intOf]; omega
        · obtain rfl : i = s.size + 1 := by omega
          go_wp2_with fail
          refine (bstring_any V.heap.size V.heap.size _ _ hb (by have := hb.lt; omega)).mono ?_
          rintro e W1 ⟨rfl, b1⟩
          go_wp2_with fail
          go_ret
          refine ⟨?_, hB1.trans (b1.mono (by omega))⟩
          rw [Hf.out]
          rfl
end Go.Proofs.Ytenlbeagmaehlaa
