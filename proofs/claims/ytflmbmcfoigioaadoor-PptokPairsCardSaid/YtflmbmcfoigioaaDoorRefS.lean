/- What is proved: what the document's own Spread tells of any text and any places. -/
import Derived.Test.YtflmbmcfoigioaaDoorInts
import Derived.Test.YtflmbmcfoigioaaDoorRefT
namespace Go.Proofs.YtflmbmcfoigioaaDoor
open Go.RowKit Go.Shelf

theorem conv_two (w : World) : (convert 48 9 (.slice (some ⟨w.heap.size, 0, none⟩) 2 2)).run Tryd.prog (w.alloc (.cells #[.int .u8 92, .int .u8 10] 5)) = .ok (.string ⟨#[92, 10]⟩) (w.alloc (.cells #[.int .u8 92, .int .u8 10] 5)) := by
  refine run_convert_bytes_back _ 48 9 5 ⟨w.heap.size, 0, none⟩ 2 [92, 10] Tryd.underlying48 Tryd.underlying5 Tryd.underlying9 ?_
  intro j hj
  match j, hj with
  | 0, _ => simp [Addr.add]
  | 1, _ => simp [Addr.add]

set_option maxRecDepth 100000 in
set_option maxHeartbeats 4000000 in
theorem refspread_any (s : ByteArray) (hs : s.size ≤ 1000000) (v : Value) (ps : List Int) (w : World) (hv : Ints w v ps) (hl : ps.length ≤ 10000) :
    Calls Tryd.prog 20 #[.string s, v] w fun e w' => e = .returned (.string ⟨(Sp.spread (Sp.cnt ps ps.length) 0 s.data.toList).toArray⟩) ∧ Below w.heap.size w w' := by
  rw [← Sp.spread_spr, size_list]
  obtain ⟨ad, cap, rfl, -⟩ := id hv
  obtain ⟨n, hn⟩ : ∃ n, n = ps.length := ⟨_, rfl⟩
  have HC : Hid (∀ k p W, ps[k]? = some p → Below w.heap.size w W → ∃ g o, ad = some ⟨g, o, none⟩ ∧ n ≤ cap ∧ W.cell? ⟨g, o + k, none⟩ = some (.int .i64 p)) := Lib.hid (by
    intro k p W hp hB
    obtain ⟨g, o, rfl, _, h1, _, hg, hc⟩ := hv.cells (by have := (List.getElem?_eq_some_iff.1 hp).1; omega)
    exact ⟨g, o, rfl, by omega, (hB.cell (p := ⟨g, o + k, none⟩) hg).trans (hc k p hp)⟩)
  have hcap : cap ≤ maxLen := by obtain ⟨_, _, e, _, h2, _⟩ := hv; injection e with _ _ e3; omega
  unfold maxLen at hcap
  have hcn : ∀ i, Sp.cnt ps n i ≤ 10000 := fun i => Nat.le_trans (Sp.cnt_le ps n i) hl
  rw [← hn] at hl ⊢
  have Hn := Lib.hid hn
  obtain ⟨f, hf⟩ : ∃ f, Sp.cnt ps n = f := ⟨_, rfl⟩
  have HF : Hid (∀ i, f i ≤ 10000) := by rw [← hf]; exact Lib.hid hcn
  have HE : Hid (∀ k i, k ≤ n → Sp.cnt ps k i ≤ f i) := Lib.hid (by
    intro k i hk
    rw [← hf]
    exact List.Sublist.count_le _ (List.take_sublist_take_left hk))
  rw [hf]
  have Hf := Lib.hid hf
  clear hn hv hcn hf
  go_enter Tryd.func20, Tryd.ntmps20
  go_wp2_with fail
  go_loopw [5, 6] (fun t x wr => ∃ (i : Nat) (acc : List UInt8), x = .int .i64 i ∧ t = .string ⟨acc.toArray⟩ ∧ acc = Sp.spr s.data.toList f i ∧ i ≤ s.size + 1 ∧ Below w.heap.size w wr) (fun _ x _ => s.size + 1 - (intOf x).toNat)
  case atStart => exact ⟨0, [], rfl, rfl, rfl, Nat.zero_le _, Below.refl _ _⟩
  case round =>
    obtain ⟨i, acc, rfl, rfl, ha, hi, hB⟩ := hrel
    have HA := Lib.hid ha
    clear ha
    by_cases hlt : i < s.size + 1
    · have hle : i ≤ s.size := by omega
      have hroom := fun j (hj : j ≤ f i) => spr_room s.data.toList f i (by omega) HF.out j hj
      have HR := Lib.hid hroom
      clear hroom
      obtain ⟨U, rfl⟩ : ∃ U, U = wr := ⟨_, rfl⟩
      have HB := Lib.hid hB
      clear hB
      go_wp2_with fail
      go_loopw [5, 7] (fun t x wr => ∃ (k : Nat) (acc : List UInt8), x = .int .i64 k ∧ t = .string ⟨acc.toArray⟩ ∧ acc = Sp.spr s.data.toList f i ++ Sp.prs (Sp.cnt ps k i) ∧ k ≤ n ∧ Below w.heap.size w wr) (fun _ x _ => n - (intOf x).toNat)
      case atStart => exact ⟨0, acc, rfl, rfl, by rw [HA.out, Sp.cnt_zero]; simp [Sp.prs], Nat.zero_le _, HB.out⟩
      case round =>
        obtain ⟨k, a2, rfl, rfl, ha2, hk, hB⟩ := hrel
        have hsB := hB.size
        have hlen := HR.out _ (HE.out k i hk)
        rw [← ha2] at hlen
        have HA2 := Lib.hid ha2
        clear ha2
        by_cases hkl : k < n
        · have hkp : k < ps.length := by rw [← Hn.out]; exact hkl
          obtain ⟨g, o, rfl, hnc, hcell⟩ := HC.out k _ wr (List.getElem?_eq_getElem hkp) hB
          have hcs := Sp.cnt_succ ps k i hkp
          obtain ⟨p, hp⟩ : ∃ p, ps[k] = p := ⟨_, rfl⟩
          rw [hp] at hcell hcs
          have z1 : (0 : Int) ≤ k := by omega
          have z2 : (k : Int) < n := by omega
          clear hp hkp
          by_cases hpi : p = (i : Int)
          · rw [if_pos hpi] at hcs
            have HS := Lib.hid hcs
            clear hcs
            have hq : (p == (i : Int)) = true := by rw [hpi]; simp
            have hcv := conv_two wr
            have had : ∀ W, (Op.stringOp .add ⟨a2.toArray⟩ ⟨#[92, 10]⟩).run Tryd.prog W = .ok (.string ⟨(a2 ++ [92, 10]).toArray⟩) W := fun W => add_run a2 [92, 10] (by simp; omega) W
            clear hpi
            go_wp2_with fail
            go_roundw
            case rel =>
              refine ⟨k + 1, a2 ++ [92, 10], by go_num, by simp, ?_, by omega, hB.alloc hsB _⟩
              rw [HS.out, ← Sp.prs_snoc, HA2.out, List.append_assoc]
            case measure => simp [intOf]; omega
          · rw [if_neg hpi, Nat.add_zero] at hcs
            have HS := Lib.hid hcs
            clear hcs
            have hq : (p == (i : Int)) = false := beq_eq_false_iff_ne.2 hpi
            clear hpi
            go_wp2_with fail
            go_roundw
            case rel => exact ⟨k + 1, a2, by go_num, rfl, by rw [HS.out]; exact HA2.out, by omega, hB⟩
            case measure => simp [intOf]; omega
        · obtain rfl : k = n := by omega
          by_cases his : i < s.size
          · have hsi : s.data.toList[i]? = some s[i] := by rw [List.getElem?_eq_getElem (by rw [size_list]; exact his)]; rfl
            have HSI := Lib.hid hsi
            clear hsi
            have hx : s.extract i (i + 1) = ⟨#[s[i]]⟩ := by
              apply ByteArray.ext
              apply Array.toList_inj.1
              rw [Lib.extract_data, List.drop_eq_getElem_cons (by rw [size_list]; exact his), show i + 1 - i = 1 by omega]
              rfl
            have had : ∀ W, (Op.stringOp .add ⟨a2.toArray⟩ (s.extract i (i + 1))).run Tryd.prog W = .ok (.string ⟨(a2 ++ [s[i]]).toArray⟩) W := fun W => by rw [hx]; exact add_run a2 [s[i]] (by simp; omega) W
            clear hx
            have z1 : (0 : Int) ≤ i := by omega
            go_wp2_with fail
            go_roundw
            case rel =>
              refine ⟨i + 1, a2 ++ [s[i]], by go_num, by simp, ?_, by omega, hB⟩
              rw [Sp.spr, HSI.out, HA2.out, Hf.out]
              simp
            case measure => simp [intOf]; omega
          · have hsi : s.data.toList[i]? = none := List.getElem?_eq_none (by rw [size_list]; omega)
            have HSI := Lib.hid hsi
            clear hsi
            go_wp2_with fail
            go_roundw
            case rel =>
              refine ⟨i + 1, a2, by go_num, rfl, ?_, by omega, hB⟩
              rw [Sp.spr, HSI.out, HA2.out, Hf.out]
              simp
            case measure => simp [intOf]; omega
    · obtain rfl : i = s.size + 1 := by omega
      go_wp2_with fail
      go_ret
      refine ⟨?_, hB⟩
      rw [← HA.out]
      rfl
end Go.Proofs.YtflmbmcfoigioaaDoor
