/- What is proved: what the document's own Text, of tokens, tells. -/
import Derived.Test.YtlkcmegjbdibcaaDoorV1
namespace Go.Proofs.YtlkcmegjbdibcaaDoor
open Go.RowKit Go.Shelf

namespace Gl
/-- The number of the last token that was written, by what is there. -/
def LastIs (x : St) (last : Int) (i : Nat) : Prop := (x.seen = false ∧ last = -1) ∨ (x.seen = true ∧ 0 ≤ last ∧ last < i ∧ x.gap = decide (last < (i : Int) - 1))
theorem LastIs.nl {q : Bool} {x : St} {last : Int} {i : Nat} {t : K} (h : LastIs x last i) (h7 : t.kind = 7) : LastIs (step q x t) last (i + 1) := by
  rw [step_nl h7]
  rcases h with ⟨h1, h2⟩ | ⟨h1, h2, h3, h4⟩
  · exact .inl ⟨h1, h2⟩
  · refine .inr ⟨h1, h2, by omega, ?_⟩
    show true = _
    rw [decide_eq_true (by omega)]
theorem LastIs.tok {q : Bool} {x : St} (i : Nat) {t : K} (h7 : t.kind ≠ 7) : LastIs (step q x t) (i : Int) (i + 1) := by
  rw [step_tok h7]
  refine .inr ⟨rfl, by omega, by omega, ?_⟩
  show false = _
  rw [decide_eq_false (by omega)]
end Gl

set_option maxRecDepth 100000 in
set_option maxHeartbeats 4000000 in
theorem rtext_any (v : Value) (q : Bool) (l : List K) (w : World) (hv : Ks w v l) (hl : l.length ≤ 1000000000) (hx : ∀ t ∈ l, t.text.size ≤ 400000000) (ht : (Gl.txt q false false l).length ≤ 1000000000) :
    Calls Tryd.prog 11 #[v, .bool q] w fun e w' => e = .returned (.string ⟨(Gl.txt q false false l).toArray⟩) ∧ Below w.heap.size w w' := by
  obtain ⟨ad, cap, rfl, h1, h2, -⟩ := id hv
  obtain ⟨n, hn⟩ : ∃ n, n = l.length := ⟨_, rfl⟩
  rw [← hn] at hv h1 hl ⊢
  have HV := Lib.hid hv
  have Hn := Lib.hid hn
  have HX := Lib.hid hx
  have HT := Lib.hid ht
  clear hv hn hx ht h1 h2
  go_enter Tryd.func11, Tryd.ntmps11
  go_wp2_with fail
  go_loopw [5, 6, 7] (fun s a i wr => ∃ (k : Nat) (last : Int) (acc : List UInt8), i = .int .i64 k ∧ k ≤ n ∧ a = .int .i64 last ∧ s = .string ⟨acc.toArray⟩ ∧ acc = (Gl.run q (l.take k)).s ∧ Gl.LastIs (Gl.run q (l.take k)) last k ∧ Below w.heap.size w wr) (fun _ _ i _ => n - (intOf i).toNat)
  case atStart => exact ⟨0, -1, [], rfl, Nat.zero_le _, rfl, rfl, rfl, .inl ⟨rfl, rfl⟩, Below.refl _ _⟩
  case round =>
    obtain ⟨k, last, acc, rfl, hk, rfl, rfl, ha, hla, hB⟩ := hrel
    have HB := Lib.hid hB
    have HA := Lib.hid ha
    have HLA := Lib.hid hla
    have hks := HV.out.below hB
    have hlo : (-1 : Int) ≤ last ∧ last < n + 1 := by rcases hla with ⟨_, h⟩ | ⟨_, h1, h2, _⟩ <;> omega
    obtain ⟨hlo1, hlo2⟩ := hlo
    clear hB ha hla
    by_cases hlt : k < n
    · obtain ⟨t, ht⟩ : ∃ t, l[k]? = some t := ⟨_, List.getElem?_eq_getElem (by rw [← Hn.out]; exact hlt)⟩
      obtain ⟨g, o, rfl, d0, d1, d2, d3, d4, d5⟩ := (show ∃ g o, ad = some ⟨g, o, none⟩ ∧ KAt wr g (o + k * 6) t by
        obtain ⟨ad', cap', e, -, -, h3⟩ := hks
        injection e with e1 e2 e3
        subst e1
        exact h3 k t ht)
      have hgl := lt_of_cell d0
      have y1 : (0 : Int) ≤ k := by omega
      have y2 : (k : Int) < n := by omega
      have hst := Gl.run_take q l k t ht
      have hle := Gl.run_le q l (k + 1)
      have hts := HX.out t (List.mem_of_getElem? ht)
      obtain ⟨x, hxe⟩ : ∃ x, x = Gl.run q (l.take k) := ⟨_, rfl⟩
      rw [← hxe] at hst
      have hla := HLA.out
      rw [← hxe] at hla
      have hacc : acc = x.s := by rw [hxe]; exact HA.out
      have htl := HT.out
      by_cases h7 : t.kind = 7
      · have t7 : (t.kind == 7) = true := by simpa using h7
        have HNX := Lib.hid (show acc = (Gl.run q (l.take (k + 1))).s ∧ Gl.LastIs (Gl.run q (l.take (k + 1))) last (k + 1) by
          rw [hst]; exact ⟨by rw [Gl.step_nl h7]; exact hacc, hla.nl h7⟩)
        clear h7 hst hle hla hacc htl hks d1 d2 d3 d4 hxe hts ht
        go_wp2_with fail
        go_roundw
        case rel => exact ⟨k + 1, last, acc, by go_num, by omega, rfl, rfl, HNX.out.1, HNX.out.2, HB.out⟩
        case measure => simp [intOf]; omega
      · have t7 : (t.kind == 7) = false := by simpa using h7
        obtain ⟨sp, hsp⟩ : ∃ sp, sp = (x.seen && (t.bl || x.gap)) := ⟨_, rfl⟩
        have hstep := Gl.step_tok (q := q) (x := x) h7
        rw [← hsp, ← hacc] at hstep
        obtain ⟨A2, hA2⟩ : ∃ A2, A2 = acc ++ (if sp then [32] else []) := ⟨_, rfl⟩
        obtain ⟨E, hE⟩ : ∃ E, E = Gl.wr q t := ⟨_, rfl⟩
        have hfin : (Gl.run q (l.take (k + 1))).s = A2 ++ E := by rw [hst, hstep, hA2, hE, List.append_assoc]
        have hfl : A2.length + E.length ≤ 1000000000 := by
          have := congrArg List.length hfin
          rw [List.length_append] at this
          omega
        obtain ⟨Fi, hFi⟩ : ∃ Fi, Fi = A2 ++ E := ⟨_, rfl⟩
        have hA2l : acc.length ≤ A2.length := by rw [hA2]; simp
        have HNX := Lib.hid (show Fi = (Gl.run q (l.take (k + 1))).s ∧ Gl.LastIs (Gl.run q (l.take (k + 1))) (k : Int) (k + 1) from ⟨by rw [hFi]; exact hfin.symm, by rw [hst]; exact Gl.LastIs.tok k h7⟩)
        have hcase : (sp = false ∧ decide (0 ≤ last) = false) ∨ (sp = true ∧ decide (0 ≤ last) = true ∧ t.bl = true) ∨ (sp = true ∧ decide (0 ≤ last) = true ∧ t.bl = false ∧ decide (last < (k : Int) - 1) = true) ∨ (sp = false ∧ decide (0 ≤ last) = true ∧ t.bl = false ∧ decide (last < (k : Int) - 1) = false) := by
          rcases hla with ⟨h1, h2⟩ | ⟨h1, h2, h3, h4⟩
          · exact .inl ⟨by rw [hsp, h1]; rfl, decide_eq_false (by omega)⟩
          · rw [h1, h4] at hsp
            have h5 : decide (0 ≤ last) = true := decide_eq_true h2
            cases hb : t.bl with
            | true => exact .inr (.inl ⟨by rw [hsp, hb]; rfl, h5, rfl⟩)
            | false =>
              cases hg : decide (last < (k : Int) - 1) with
              | true => exact .inr (.inr (.inl ⟨by rw [hsp, hb, hg]; rfl, h5, rfl, rfl⟩))
              | false => exact .inr (.inr (.inr ⟨by rw [hsp, hb, hg]; rfl, h5, rfl, rfl⟩))
        have hads : sp = true → ∀ W, (Op.stringOp .add ⟨acc.toArray⟩ ⟨#[32]⟩).run Tryd.prog W = .ok (.string ⟨A2.toArray⟩) W := fun e W => by
          rw [hA2, e]; exact add_run acc [32] (by simp; omega) W
        have hsame : sp = false → A2 = acc := fun e => by rw [hA2, e]; simp
        have hadE : ∀ W, (Op.stringOp .add ⟨A2.toArray⟩ ⟨E.toArray⟩).run Tryd.prog W = .ok (.string ⟨Fi.toArray⟩) W := fun W => by rw [hFi]; exact add_run A2 _ (by omega) W
        have htx : q = false → t.text = ⟨E.toArray⟩ := fun e => by
          rw [hE, e]
          simp [Gl.wr]
        have hesc : q = true → ∀ w', Calls Tryd.prog 24 #[kAgg t] w' fun e w'' => e = .returned (.string ⟨E.toArray⟩) ∧ Below w'.heap.size w' w'' := fun e w' => by
          rw [hE, e]; exact resc_any t w' hts
        have HTX := Lib.hid htx
        have HESC := Lib.hid hesc
        have HADS := Lib.hid hads
        have HSAME := Lib.hid hsame
        have hnl : k ≤ 1000000000 := by omega
        clear hst hle hacc htl hks hxe ht hstep hfin hfl hA2 hla htx hsp h7 HA HLA hesc hads hsame hE hFi hts
        obtain ⟨kind, tx, tf, tfr, ten, tbl⟩ := t
        dsimp only at d0 d1 d2 d3 d4 d5 t7 hcase HTX
        unfold kAgg at HESC
        rcases hcase with ⟨rfl, c1⟩ | ⟨rfl, c1, rfl⟩ | ⟨rfl, c1, rfl, c3⟩ | ⟨rfl, c1, rfl, c3⟩
        · obtain rfl := HSAME.out rfl
          cases q
          · have htx := HTX.out rfl
            subst htx
            go_wp2_with fail
            go_roundw
            case rel => exact ⟨k + 1, k, Fi, by go_num, by omega, rfl, rfl, HNX.out.1, HNX.out.2, HB.out⟩
            case measure => simp [intOf]; omega
          · go_wp2_with fail
            refine (HESC.out (by trivial) _).mono ?_
            rintro e w1 ⟨rfl, hB1⟩
            have HB1 := Lib.hid (Below.then HB.out hB1)
            clear hB1
            go_wp2_with fail
            go_roundw
            case rel => exact ⟨k + 1, k, Fi, by go_num, by omega, rfl, rfl, HNX.out.1, HNX.out.2, HB1.out⟩
            case measure => simp [intOf]; omega
        · have hads := HADS.out rfl
          cases q
          · have htx := HTX.out rfl
            subst htx
            go_wp2_with fail
            go_roundw
            case rel => exact ⟨k + 1, k, Fi, by go_num, by omega, rfl, rfl, HNX.out.1, HNX.out.2, HB.out⟩
            case measure => simp [intOf]; omega
          · go_wp2_with fail
            refine (HESC.out (by trivial) _).mono ?_
            rintro e w1 ⟨rfl, hB1⟩
            have HB1 := Lib.hid (Below.then HB.out hB1)
            clear hB1
            go_wp2_with fail
            go_roundw
            case rel => exact ⟨k + 1, k, Fi, by go_num, by omega, rfl, rfl, HNX.out.1, HNX.out.2, HB1.out⟩
            case measure => simp [intOf]; omega
        · have hads := HADS.out rfl
          cases q
          · have htx := HTX.out rfl
            subst htx
            go_wp2_with fail
            go_roundw
            case rel => exact ⟨k + 1, k, Fi, by go_num, by omega, rfl, rfl, HNX.out.1, HNX.out.2, HB.out⟩
            case measure => simp [intOf]; omega
          · go_wp2_with fail
            refine (HESC.out (by trivial) _).mono ?_
            rintro e w1 ⟨rfl, hB1⟩
            have HB1 := Lib.hid (Below.then HB.out hB1)
            clear hB1
            go_wp2_with fail
            go_roundw
            case rel => exact ⟨k + 1, k, Fi, by go_num, by omega, rfl, rfl, HNX.out.1, HNX.out.2, HB1.out⟩
            case measure => simp [intOf]; omega
        · obtain rfl := HSAME.out rfl
          cases q
          · have htx := HTX.out rfl
            subst htx
            go_wp2_with fail
            go_roundw
            case rel => exact ⟨k + 1, k, Fi, by go_num, by omega, rfl, rfl, HNX.out.1, HNX.out.2, HB.out⟩
            case measure => simp [intOf]; omega
          · go_wp2_with fail
            refine (HESC.out (by trivial) _).mono ?_
            rintro e w1 ⟨rfl, hB1⟩
            have HB1 := Lib.hid (Below.then HB.out hB1)
            clear hB1
            go_wp2_with fail
            go_roundw
            case rel => exact ⟨k + 1, k, Fi, by go_num, by omega, rfl, rfl, HNX.out.1, HNX.out.2, HB1.out⟩
            case measure => simp [intOf]; omega
    · have hkn : k = n := by omega
      have HF := Lib.hid (show acc = Gl.txt q false false l by rw [HA.out, List.take_of_length_le (by rw [← Hn.out]; omega), Gl.run_txt])
      have y2 : ¬ (k : Int) < n := by omega
      clear hks
      go_wp2_with fail
      go_ret
      exact ⟨by rw [HF.out]; rfl, HB.out⟩
end Go.Proofs.YtlkcmegjbdibcaaDoor
