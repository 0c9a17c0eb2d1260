/- What is proved: what strings.Replace, strings.ReplaceAll tell where one byte becomes two; what guarded tells. -/
import Derived.Test.YtlkcmegjbdibcaaDoorZ3
import Derived.Test.YtlkcmegjbdibcaaDoorW5
namespace Go.Proofs.YtlkcmegjbdibcaaDoor
open Go.RowKit Go.Shelf

theorem count_one (s : ByteArray) (c : UInt8) (w : World) :
    Calls Tryd.prog 57 #[.string s, .string ⟨#[c]⟩] w fun e w' => e = .returned (.int .i64 ((s.data.toList.count c : Nat) : Int)) ∧ w = w' :=
  (Any.strings_Count_one lays138 s c w).mono fun _ _ h => ⟨h.1, h.2.symm⟩
theorem index_one (s : ByteArray) (c : UInt8) (w : World) (hG : Glob w) (hs : s.size ≤ 4000000000) :
    Calls Tryd.prog 55 #[.string s, .string ⟨#[c]⟩] w fun e w' => e = .returned (.int .i64 (Lib.index s.data.toList [c])) ∧ w = w' := by
  obtain ⟨⟨m, hm⟩, _⟩ := hG
  exact (Any.strings_Index lays143 s ⟨#[c]⟩ m w (by omega) hm).mono fun _ _ h => ⟨h.1, h.2.symm⟩

set_option maxRecDepth 100000 in
set_option maxHeartbeats 4000000 in
theorem sreplace_any (s : ByteArray) (c : UInt8) (w : World) (hG : Glob w) (hs : s.size ≤ 1000000000) :
    Calls Tryd.prog 45 #[.string s, .string ⟨#[c]⟩, .string ⟨#[92, c]⟩, .int .i64 (-1)] w fun e w' => e = .returned (.string ⟨(Gl.dbl c s.data.toList).toArray⟩) ∧ Below w.heap.size w w' := by
  obtain ⟨cn, hcn⟩ : ∃ cn, cn = s.data.toList.count c := ⟨_, rfl⟩
  have hC := count_one s c
  rw [← hcn] at hC
  have hlen : s.data.toList.length = s.size := size_list s
  have hcs : cn ≤ s.size := by rw [hcn, ← hlen]; exact List.count_le_length
  have hIx := fun (t : ByteArray) (w : World) (h : Glob w) (ht : t.size ≤ 4000000000) => index_one t c w h ht
  obtain ⟨od, hod⟩ : ∃ od : ByteArray, od = ⟨#[c]⟩ := ⟨_, rfl⟩
  obtain ⟨nw, hnw⟩ : ∃ nw : ByteArray, nw = ⟨#[92, c]⟩ := ⟨_, rfl⟩
  rw [← hod] at hC hIx
  rw [← hod, ← hnw]
  have so : od.size = 1 := by rw [hod]; rfl
  have sn : nw.size = 2 := by rw [hnw]; rfl
  have hnl : nw.data.toList = [92, c] := by rw [hnw]
  have hbeq : (od.toList == nw.toList) = false := by
    rw [beq_eq_false_iff_ne]
    intro e
    have := congrArg List.length e
    rw [Lib.toList_data, Lib.toList_data, size_list, size_list] at this
    omega
  have HC := Lib.hid hC
  have HIX := Lib.hid hIx
  have HCN := Lib.hid hcn
  have HNL := Lib.hid hnl
  have HG := Lib.hid hG
  have HSO := Lib.hid so
  have HSN := Lib.hid sn
  have HLEN := Lib.hid hlen
  by_cases h0 : cn = 0
  · have hz : ((cn : Int) == 0) = true := by rw [beq_iff_eq]; omega
    have hres : (⟨(Gl.dbl c s.data.toList).toArray⟩ : ByteArray) = s := by rw [Gl.dbl_none (by rw [← hcn]; exact h0), Lib.mk_data]
    rw [hres]
    clear hC hIx hcn hod hnw hnl hG hlen h0 so sn hres
    go_enter Tryd.func45, Tryd.ntmps45
    go_wp2_with fail
    refine (HC.out _).mono ?_
    rintro e w1 ⟨rfl, rfl⟩
    go_wp2_with fail
    go_ret
    exact ⟨rfl, Below.refl _ _⟩
  · have hz : ((cn : Int) == 0) = false := by rw [beq_eq_false_iff_ne]; omega
    have hdec : decide (0 < od.size) = true := decide_eq_true (by omega)
    have hga := Lib.grow_arg s.size cn nw.size od.size (by omega) (by rw [so]; omega) (by rw [sn]; omega)
    have hgn : s.size + cn * nw.size - cn * od.size = s.size + cn := by rw [so, sn]; omega
    rw [hgn] at hga
    clear hgn hC hIx hcn hod hnw hnl hG hlen so sn
    obtain ⟨R, hR⟩ : ∃ R, R = Gl.dbl c s.data.toList := ⟨_, rfl⟩
    rw [← hR]
    have HR := Lib.hid hR
    clear hR
    go_enter Tryd.func45, Tryd.ntmps45
    go_wp2_with fail
    refine (HC.out _).mono ?_
    rintro e w1 ⟨rfl, rfl⟩
    go_wp2_with fail
    have e1 : ((s.size : Int) + (cn : Int)) = ((s.size + cn : Nat) : Int) := by omega
    rw [e1]
    refine (bGrow_any w.heap.size (s.size + cn) _ (heap_alloc_new w _) (by omega)).mono ?_
    rintro e w1 ⟨rfl, hb1, hB1⟩
    replace hB1 := ((Below.refl w.heap.size w).alloc (Nat.le_refl _) _).trans hB1
    clear e1 hga
    go_wp2_with fail
    go_loopw [11, 53] (fun s11 s53 wr => ∃ (i start : Nat) (acc : List UInt8), s53 = .int .i64 i ∧ s11 = .int .i64 start ∧ start ≤ s.size ∧ i ≤ cn ∧ Bld w.heap.size acc wr ∧ Below w.heap.size w wr ∧ acc ++ Gl.dbl c (s.data.toList.drop start) = R ∧ (s.data.toList.drop start).count c + i = cn ∧ acc.length ≤ start + i) (fun _ i _ => cn - (intOf i).toNat)
    case atStart => exact ⟨0, 0, [], rfl, rfl, Nat.zero_le _, Nat.zero_le _, hb1, hB1, by simpa using HR.out.symm, by simpa using HCN.out.symm, by simp⟩
    case round =>
      obtain ⟨i, start, acc, rfl, rfl, hst, hi, hb, hB, hacc, hct, hal⟩ := hrel
      have HACC := Lib.hid hacc
      have HCT := Lib.hid hct
      have HBL := Lib.hid hb
      have HB := Lib.hid hB
      have HAL := Lib.hid hal
      have z1 : (0 : Int) ≤ start := by omega
      have z2 : (start : Int) ≤ s.size := by omega
      have ex : (s.extract start s.size).data.toList = s.data.toList.drop start := by
        rw [extract_list]
        show ((s.data.toList.drop start).take (s.size - start)) = _
        rw [List.take_of_length_le (by rw [List.length_drop, HLEN.out]; omega)]
      have exs : (s.extract start s.size).size = s.size - start := by rw [← size_list, ex, List.length_drop, HLEN.out]
      have HEX := Lib.hid ex
      have HEXS := Lib.hid exs
      clear hacc hct hb hB hal ex exs hB1 hb1
      by_cases hlt : i < cn
      · obtain ⟨j, hj1, hj2, hj3, hj4⟩ := Gl.idx_one c (s.data.toList.drop start) (by have := HCT.out; omega)
        have y1 : (i : Int) < cn := by omega
        rw [List.length_drop, HLEN.out] at hj2
        have y2 : (start : Int) + j ≤ s.size := by omega
        have y3 : (start : Int) ≤ (start : Int) + j := by omega
        have hI := HIX.out (s.extract start s.size) wr (HG.out.later HB.out) (by rw [HEXS.out]; omega)
        rw [HEX.out, hj1] at hI
        have hE1 : (s.extract start (start + j)).data.toList = (s.data.toList.drop start).take j := by
          rw [extract_list, show start + j - start = j by omega]
        have hE2 : (s.extract start (start + j)).size = j := by rw [← size_list, hE1, List.length_take, List.length_drop, HLEN.out]; omega
        rw [List.drop_drop] at hj3 hj4
        have HJ3 := Lib.hid hj3
        have HJ4 := Lib.hid hj4
        have HE1 := Lib.hid hE1
        have HE2 := Lib.hid hE2
        clear hj1 hj3 hj4 hE1 hE2
        go_wp2_with fail
        refine hI.mono ?_
        rintro e w2 ⟨rfl, rfl⟩
        clear hI
        go_wp2_with fail
        refine (wstring_any w.heap.size acc (s.extract start (start + j)) _ HBL.out (by have := HAL.out; omega) (by rw [HE2.out]; omega)).mono ?_
        rintro e W3 ⟨rfl, b3, hB3⟩
        rw [HE1.out] at b3
        have B3 := Lib.hid b3
        have HB3 := Lib.hid (HB.out.trans hB3)
        clear b3 hB3
        go_wp2_with fail
        refine (wstring_any w.heap.size _ nw _ B3.out (by have := HAL.out; rw [List.length_append, List.length_take]; omega) (by rw [HSN.out]; omega)).mono ?_
        rintro e W4 ⟨rfl, b4, hB4⟩
        rw [HNL.out] at b4
        have B4 := Lib.hid b4
        have HB4 := Lib.hid (HB3.out.trans hB4)
        clear b4 hB4
        go_wp2_with fail
        go_roundw
        case measure => simp [intOf]; omega
        case rel => exact ⟨i + 1, start + (j + 1), _, by go_num, by rw [HSO.out]; exact congrArg (Value.int .i64) (by rw [IntWalk.wrap64_in _ ⟨by omega, by omega⟩]; omega), by omega, by omega, B4.out, HB4.out, by rw [← HACC.out, HJ3.out]; simp, by have := HJ4.out; have := HCT.out; omega, by have := HAL.out; simp only [List.length_append, List.length_take, List.length_cons, List.length_nil]; omega⟩
      · have y1 : ¬ (i : Int) < cn := by omega
        have hfin : acc ++ s.data.toList.drop start = R := by
          have := HACC.out
          rwa [Gl.dbl_none (by have := HCT.out; omega)] at this
        have HFIN := Lib.hid hfin
        clear hfin
        go_wp2_with fail
        refine (wstring_any w.heap.size acc (s.extract start s.size) _ HBL.out (by have := HAL.out; omega) (by rw [HEXS.out]; omega)).mono ?_
        rintro e W3 ⟨rfl, b3, hB3⟩
        rw [HEX.out, HFIN.out] at b3
        have B3 := Lib.hid b3
        have HB3 := Lib.hid (HB.out.trans hB3)
        clear b3 hB3
        go_wp2_with fail
        refine (bstring_any w.heap.size w.heap.size R _ B3.out HB3.out.size).mono ?_
        rintro e W4 ⟨rfl, hB4⟩
        go_wp2_with fail
        go_ret
        exact ⟨rfl, HB3.out.trans hB4⟩

set_option maxHeartbeats 1000000 in
theorem sreplaceall_any (s : ByteArray) (c : UInt8) (w : World) (hG : Glob w) (hs : s.size ≤ 1000000000) :
    Calls Tryd.prog 33 #[.string s, .string ⟨#[c]⟩, .string ⟨#[92, c]⟩] w fun e w' => e = .returned (.string ⟨(Gl.dbl c s.data.toList).toArray⟩) ∧ Below w.heap.size w w' := by
  have key := sreplace_any s c w hG hs
  go_enter Tryd.func33, Tryd.ntmps33
  go_wp2_with fail
  refine key.mono ?_
  rintro e w1 ⟨rfl, hB⟩
  go_wp2_with fail
  go_ret
  exact ⟨rfl, hB⟩

set_option maxHeartbeats 1000000 in
theorem guarded_any (s : ByteArray) (w : World) (hG : Glob w) (hs : s.size ≤ 400000000) :
    Calls Tryd.prog 23 #[.string s] w fun e w' => e = .returned (.string ⟨(Gl.esc s.data.toList).toArray⟩) ∧ Below w.heap.size w w' := by
  obtain ⟨A, hA⟩ : ∃ A : ByteArray, A = ⟨(Gl.dbl 92 s.data.toList).toArray⟩ := ⟨_, rfl⟩
  have hAl : A.data.toList = Gl.dbl 92 s.data.toList := by rw [hA]
  have hAs : A.size ≤ 1000000000 := by
    have h1 := size_list s
    have h2 : s.data.toList.count 92 ≤ s.data.toList.length := List.count_le_length
    rw [← size_list, hAl, Gl.dbl_length]
    omega
  have k1 := sreplaceall_any s 92 w hG (by omega)
  have k2 := fun w (h : Glob w) => sreplaceall_any A 34 w h hAs
  rw [← hA] at k1
  rw [hAl, Gl.dbl_esc] at k2
  clear hA hAl
  go_enter Tryd.func23, Tryd.ntmps23
  go_wp2_with fail
  refine k1.mono ?_
  rintro e w1 ⟨rfl, hB1⟩
  go_wp2_with fail
  refine (k2 _ (hG.later hB1)).mono ?_
  rintro e w2 ⟨rfl, hB2⟩
  go_wp2_with fail
  go_ret
  exact ⟨rfl, Below.then hB1 hB2⟩
end Go.Proofs.YtlkcmegjbdibcaaDoor
