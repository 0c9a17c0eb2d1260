/- What is proved: what each does with the closures of Text and of String; what Text and String tell. -/
import Derived.Test.YtlkcmegjbdibcaaDoorZ5
import Derived.Test.YtlkcmegjbdibcaaDoorV3
namespace Go.Proofs.YtlkcmegjbdibcaaDoor
open Go.RowKit Go.Shelf

set_option maxRecDepth 100000 in
set_option maxHeartbeats 4000000 in
theorem eachtext_any (b : Nat) (l : List K) (v : Value) (w0 w : World) (hv : Ks w0 v l) (hl : l.length ≤ 1000000000) (hB0 : Below w0.heap.size w0 w) (hr : RowB w0.heap.size b [] w) :
    Calls Tryd.prog 19 #[v, .func (.func 20) #[] #[.pointer (some ⟨b, 0, none⟩)]] w fun e w' => e = .returned (.tuple #[]) ∧ RowB w0.heap.size b (Gl.ln false false false l) w' ∧ Below w0.heap.size w0 w' := by
  obtain ⟨ad, cap, rfl, h1, h2, -⟩ := id hv
  obtain ⟨n, hn⟩ : ∃ n, n = l.length := ⟨_, rfl⟩
  obtain ⟨L, hL⟩ : ∃ L, L = Gl.ln false false false l := ⟨_, rfl⟩
  rw [← hn] at hv h1 hl ⊢
  rw [← hL]
  have HV := Lib.hid hv
  have Hn := Lib.hid hn
  have HL := Lib.hid hL
  clear hv hn hL h1 h2 
  go_enter Tryd.func19, Tryd.ntmps19
  go_wp2_with fail
  go_loopw [4, 5, 10] (fun s4 s5 s10 wr => ∃ (k : Nat) (seen gap : Bool) (acc : List K), s4 = .bool seen ∧ s5 = .bool gap ∧ s10 = .int .i64 k ∧ k ≤ n ∧ acc.length ≤ k ∧ RowB w0.heap.size b acc wr ∧ Below w0.heap.size w0 wr ∧ acc ++ Gl.ln false seen gap (l.drop k) = L) (fun _ _ i _ => n - (intOf i).toNat)
  case atStart => exact ⟨0, false, false, [], rfl, rfl, rfl, Nat.zero_le _, Nat.le_refl _, hr, hB0, by simpa using HL.out.symm⟩
  case round =>
    obtain ⟨k, seen, gap, acc, rfl, rfl, rfl, hk, hal, hrow, hB, hacc⟩ := hrel
    have HAL := Lib.hid hal
    have HROW := Lib.hid hrow
    have HB := Lib.hid hB
    have HACC := Lib.hid hacc
    have hbs := hB.size
    clear hal hrow hB hacc hr hB0
    by_cases hlt : k < n
    · obtain ⟨t, ht⟩ : ∃ t, l[k]? = some t := ⟨_, List.getElem?_eq_getElem (by rw [← Hn.out]; exact hlt)⟩
      obtain ⟨g, o, rfl, d0, d1, d2, d3, d4, d5⟩ := (show ∃ g o, ad = some ⟨g, o, none⟩ ∧ KAt wr g (o + k * 6) t by
        obtain ⟨ad', cap', e, -, -, h3⟩ := HV.out.below HB.out
        injection e with e1 e2 e3
        subst e1
        exact h3 k t ht)
      have y1 : (0 : Int) ≤ k := by omega
      have y2 : (k : Int) < n := by omega
      have hdr : l.drop k = t :: l.drop (k + 1) := by
        obtain ⟨hk', e⟩ := List.getElem?_eq_some_iff.1 ht
        rw [← e]; exact List.drop_eq_getElem_cons hk'
      have hstep := HACC.out
      rw [hdr, Gl.ln] at hstep
      have HT := Lib.hid ht
      clear ht hdr
      by_cases h7 : t.kind = 7
      · have t7 : (t.kind == 7) = true := by simpa using h7
        rw [if_pos h7] at hstep
        have HS := Lib.hid hstep
        clear hstep h7
        go_wp2_with fail
        go_roundw
        case rel => exact ⟨k + 1, seen, true, acc, rfl, rfl, by go_num, by omega, by have := HAL.out; omega, HROW.out.alloc _, HB.out.alloc hbs _, HS.out⟩
        case measure => simp [intOf]; omega
      · have t7 : (t.kind == 7) = false := by simpa using h7
        rw [if_neg h7] at hstep
        have HS := Lib.hid hstep
        have hA := fun nb : Bool => (Below.refl wr.heap.size wr).alloc (Nat.le_refl _) (.cells #[.int .i64 t.kind, .string t.text, .int .i64 t.file, .int .i64 t.fr, .int .i64 t.en, .bool nb] 26)
        clear hstep h7
        have hone : ∀ seen gap, Gl.one false seen gap t = ⟨t.kind, t.text, t.file, t.fr, t.en, seen && (gap || t.bl)⟩ := fun seen gap => by simp [Gl.one, Gl.wr]
        have HO := Lib.hid hone
        clear hone
        have hc : seen = false ∨ (seen = true ∧ gap = true) ∨ (seen = true ∧ gap = false) := by cases seen <;> cases gap <;> simp
        rcases hc with rfl | ⟨rfl, rfl⟩ | ⟨rfl, rfl⟩
        · have HA := Lib.hid (hA false)
          clear hA
          go_wp2_with fail
          refine (gtext1_any w0.heap.size b acc ⟨t.kind, t.text, t.file, t.fr, t.en, false⟩ _ (HROW.out.below HA.out (Nat.le_refl _)) (by have := HAL.out; omega)).mono ?_
          rintro e W2 ⟨rfl, hr2, hB2⟩
          have HR2 := Lib.hid hr2
          have HB2 := Lib.hid ((HB.out.trans (HA.out.mono hbs)).trans hB2)
          clear hr2 hB2
          go_wp2_with fail
          go_roundw
          case rel => exact ⟨k + 1, true, false, _, rfl, rfl, by go_num, by omega, by have := HAL.out; simp; omega, HR2.out, HB2.out, by have := HS.out; rw [HO.out] at this; simpa using this⟩
          case measure => simp [intOf]; omega
        · have HA := Lib.hid (hA true)
          clear hA
          go_wp2_with fail
          refine (gtext1_any w0.heap.size b acc ⟨t.kind, t.text, t.file, t.fr, t.en, true⟩ _ (HROW.out.below HA.out (Nat.le_refl _)) (by have := HAL.out; omega)).mono ?_
          rintro e W2 ⟨rfl, hr2, hB2⟩
          have HR2 := Lib.hid hr2
          have HB2 := Lib.hid ((HB.out.trans (HA.out.mono hbs)).trans hB2)
          clear hr2 hB2
          go_wp2_with fail
          go_roundw
          case rel => exact ⟨k + 1, true, false, _, rfl, rfl, by go_num, by omega, by have := HAL.out; simp; omega, HR2.out, HB2.out, by have := HS.out; rw [HO.out] at this; simpa using this⟩
          case measure => simp [intOf]; omega
        · have HA := Lib.hid (hA t.bl)
          clear hA
          go_wp2_with fail
          refine (gtext1_any w0.heap.size b acc ⟨t.kind, t.text, t.file, t.fr, t.en, t.bl⟩ _ (HROW.out.below HA.out (Nat.le_refl _)) (by have := HAL.out; omega)).mono ?_
          rintro e W2 ⟨rfl, hr2, hB2⟩
          have HR2 := Lib.hid hr2
          have HB2 := Lib.hid ((HB.out.trans (HA.out.mono hbs)).trans hB2)
          clear hr2 hB2
          go_wp2_with fail
          go_roundw
          case rel => exact ⟨k + 1, true, false, _, rfl, rfl, by go_num, by omega, by have := HAL.out; simp; omega, HR2.out, HB2.out, by have := HS.out; rw [HO.out] at this; simpa using this⟩
          case measure => simp [intOf]; omega
    · have y2 : ¬ (k : Int) < n := by omega
      have hfin : acc = L := by
        have := HACC.out
        rw [List.drop_of_length_le (by rw [← Hn.out]; omega)] at this
        simpa [Gl.ln] using this
      rw [hfin] at HROW
      clear hfin
      go_wp2_with fail
      go_end0
      exact ⟨rfl, HROW.out, HB.out⟩

set_option maxRecDepth 100000 in
set_option maxHeartbeats 4000000 in
theorem eachstring_any (b : Nat) (l : List K) (v : Value) (w0 w : World) (hv : Ks w0 v l) (hl : l.length ≤ 1000000000) (hG : Glob w0) (hx : ∀ t ∈ l, t.text.size ≤ 400000000) (hB0 : Below w0.heap.size w0 w) (hr : RowB w0.heap.size b [] w) :
    Calls Tryd.prog 19 #[v, .func (.func 22) #[] #[.pointer (some ⟨b, 0, none⟩)]] w fun e w' => e = .returned (.tuple #[]) ∧ RowB w0.heap.size b (Gl.ln true false false l) w' ∧ Below w0.heap.size w0 w' := by
  obtain ⟨ad, cap, rfl, h1, h2, -⟩ := id hv
  obtain ⟨n, hn⟩ : ∃ n, n = l.length := ⟨_, rfl⟩
  obtain ⟨L, hL⟩ : ∃ L, L = Gl.ln true false false l := ⟨_, rfl⟩
  rw [← hn] at hv h1 hl ⊢
  rw [← hL]
  have HV := Lib.hid hv
  have Hn := Lib.hid hn
  have HL := Lib.hid hL
  have HG := Lib.hid hG
  have HX := Lib.hid hx
  clear hv hn hL h1 h2 hG hx 
  go_enter Tryd.func19, Tryd.ntmps19
  go_wp2_with fail
  go_loopw [4, 5, 10] (fun s4 s5 s10 wr => ∃ (k : Nat) (seen gap : Bool) (acc : List K), s4 = .bool seen ∧ s5 = .bool gap ∧ s10 = .int .i64 k ∧ k ≤ n ∧ acc.length ≤ k ∧ RowB w0.heap.size b acc wr ∧ Below w0.heap.size w0 wr ∧ acc ++ Gl.ln true seen gap (l.drop k) = L) (fun _ _ i _ => n - (intOf i).toNat)
  case atStart => exact ⟨0, false, false, [], rfl, rfl, rfl, Nat.zero_le _, Nat.le_refl _, hr, hB0, by simpa using HL.out.symm⟩
  case round =>
    obtain ⟨k, seen, gap, acc, rfl, rfl, rfl, hk, hal, hrow, hB, hacc⟩ := hrel
    have HAL := Lib.hid hal
    have HROW := Lib.hid hrow
    have HB := Lib.hid hB
    have HACC := Lib.hid hacc
    have hbs := hB.size
    clear hal hrow hB hacc hr hB0
    by_cases hlt : k < n
    · obtain ⟨t, ht⟩ : ∃ t, l[k]? = some t := ⟨_, List.getElem?_eq_getElem (by rw [← Hn.out]; exact hlt)⟩
      obtain ⟨g, o, rfl, d0, d1, d2, d3, d4, d5⟩ := (show ∃ g o, ad = some ⟨g, o, none⟩ ∧ KAt wr g (o + k * 6) t by
        obtain ⟨ad', cap', e, -, -, h3⟩ := HV.out.below HB.out
        injection e with e1 e2 e3
        subst e1
        exact h3 k t ht)
      have y1 : (0 : Int) ≤ k := by omega
      have y2 : (k : Int) < n := by omega
      have hdr : l.drop k = t :: l.drop (k + 1) := by
        obtain ⟨hk', e⟩ := List.getElem?_eq_some_iff.1 ht
        rw [← e]; exact List.drop_eq_getElem_cons hk'
      have hstep := HACC.out
      rw [hdr, Gl.ln] at hstep
      have HT := Lib.hid ht
      clear ht hdr
      by_cases h7 : t.kind = 7
      · have t7 : (t.kind == 7) = true := by simpa using h7
        rw [if_pos h7] at hstep
        have HS := Lib.hid hstep
        clear hstep h7
        go_wp2_with fail
        go_roundw
        case rel => exact ⟨k + 1, seen, true, acc, rfl, rfl, by go_num, by omega, by have := HAL.out; omega, HROW.out.alloc _, HB.out.alloc hbs _, HS.out⟩
        case measure => simp [intOf]; omega
      · have t7 : (t.kind == 7) = false := by simpa using h7
        rw [if_neg h7] at hstep
        have HS := Lib.hid hstep
        have hA := fun nb : Bool => (Below.refl wr.heap.size wr).alloc (Nat.le_refl _) (.cells #[.int .i64 t.kind, .string t.text, .int .i64 t.file, .int .i64 t.fr, .int .i64 t.en, .bool nb] 26)
        clear hstep h7
        have hone : ∀ seen gap, Gl.one true seen gap t = escK ⟨t.kind, t.text, t.file, t.fr, t.en, seen && (gap || t.bl)⟩ := fun seen gap => rfl
        have HO := Lib.hid hone
        clear hone
        have hc : seen = false ∨ (seen = true ∧ gap = true) ∨ (seen = true ∧ gap = false) := by cases seen <;> cases gap <;> simp
        rcases hc with rfl | ⟨rfl, rfl⟩ | ⟨rfl, rfl⟩
        · have HA := Lib.hid (hA false)
          clear hA
          go_wp2_with fail
          refine (gstring1_any w0.heap.size b acc ⟨t.kind, t.text, t.file, t.fr, t.en, false⟩ _ (HROW.out.below HA.out (Nat.le_refl _)) (by have := HAL.out; omega) (HG.out.later (HB.out.trans (HA.out.mono hbs))) (HX.out t (List.mem_of_getElem? HT.out))).mono ?_
          rintro e W2 ⟨rfl, hr2, hB2⟩
          have HR2 := Lib.hid hr2
          have HB2 := Lib.hid ((HB.out.trans (HA.out.mono hbs)).trans hB2)
          clear hr2 hB2
          go_wp2_with fail
          go_roundw
          case rel => exact ⟨k + 1, true, false, _, rfl, rfl, by go_num, by omega, by have := HAL.out; simp; omega, HR2.out, HB2.out, by have := HS.out; rw [HO.out] at this; simpa using this⟩
          case measure => simp [intOf]; omega
        · have HA := Lib.hid (hA true)
          clear hA
          go_wp2_with fail
          refine (gstring1_any w0.heap.size b acc ⟨t.kind, t.text, t.file, t.fr, t.en, true⟩ _ (HROW.out.below HA.out (Nat.le_refl _)) (by have := HAL.out; omega) (HG.out.later (HB.out.trans (HA.out.mono hbs))) (HX.out t (List.mem_of_getElem? HT.out))).mono ?_
          rintro e W2 ⟨rfl, hr2, hB2⟩
          have HR2 := Lib.hid hr2
          have HB2 := Lib.hid ((HB.out.trans (HA.out.mono hbs)).trans hB2)
          clear hr2 hB2
          go_wp2_with fail
          go_roundw
          case rel => exact ⟨k + 1, true, false, _, rfl, rfl, by go_num, by omega, by have := HAL.out; simp; omega, HR2.out, HB2.out, by have := HS.out; rw [HO.out] at this; simpa using this⟩
          case measure => simp [intOf]; omega
        · have HA := Lib.hid (hA t.bl)
          clear hA
          go_wp2_with fail
          refine (gstring1_any w0.heap.size b acc ⟨t.kind, t.text, t.file, t.fr, t.en, t.bl⟩ _ (HROW.out.below HA.out (Nat.le_refl _)) (by have := HAL.out; omega) (HG.out.later (HB.out.trans (HA.out.mono hbs))) (HX.out t (List.mem_of_getElem? HT.out))).mono ?_
          rintro e W2 ⟨rfl, hr2, hB2⟩
          have HR2 := Lib.hid hr2
          have HB2 := Lib.hid ((HB.out.trans (HA.out.mono hbs)).trans hB2)
          clear hr2 hB2
          go_wp2_with fail
          go_roundw
          case rel => exact ⟨k + 1, true, false, _, rfl, rfl, by go_num, by omega, by have := HAL.out; simp; omega, HR2.out, HB2.out, by have := HS.out; rw [HO.out] at this; simpa using this⟩
          case measure => simp [intOf]; omega
    · have y2 : ¬ (k : Int) < n := by omega
      have hfin : acc = L := by
        have := HACC.out
        rw [List.drop_of_length_le (by rw [← Hn.out]; omega)] at this
        simpa [Gl.ln] using this
      rw [hfin] at HROW
      clear hfin
      go_wp2_with fail
      go_end0
      exact ⟨rfl, HROW.out, HB.out⟩

set_option maxRecDepth 100000 in
set_option maxHeartbeats 4000000 in
theorem gtext_any (l : List K) (v : Value) (w : World) (hv : Ks w v l) (hl : l.length ≤ 1000000000) (hp : (Gl.txt false false false l).length ≤ 1000000000) :
    Calls Tryd.prog 9 #[v] w fun e w' => e = .returned (.string ⟨(Gl.txt false false false l).toArray⟩) ∧ Below w.heap.size w w' := by
  have hmf : ∀ (fn : Fn) (first cap : Array Value) (w : World), (Instr.makeFunc fn first cap).run Tryd.prog w = .ok (.func fn first cap) w := fun _ _ _ _ => rfl
  have k1 := eachtext_any w.heap.size l v w (w.alloc (.cells #[.slice none 0 0] 22)) hv hl ((Below.refl _ w).alloc (Nat.le_refl _) _) (RowB.new w)
  have hpr := Gl.prk_ln false l false false
  have hll := Gl.ln_length false l false false
  obtain ⟨L, hL⟩ : ∃ L, L = Gl.ln false false false l := ⟨_, rfl⟩
  rw [← hL] at hpr hll k1
  have hp2 := fun (v : Value) (w : World) (h : Ks w v L) => printk_any v L w h (by omega) (by rw [hpr]; exact hp)
  rw [hpr] at hp2
  obtain ⟨X, hX⟩ : ∃ X : ByteArray, X = ⟨(Gl.txt false false false l).toArray⟩ := ⟨_, rfl⟩
  rw [← hX] at hp2 ⊢
  have HP := Lib.hid hp2
  have HK := Lib.hid k1
  obtain ⟨ad, cap, rfl, -⟩ := id hv
  clear hv hl hp hpr hll hL hp2 hX k1
  go_enter Tryd.func9, Tryd.ntmps9
  go_wp2_with fail
  refine HK.out.mono ?_
  rintro e w1 ⟨rfl, hr, hB⟩
  obtain ⟨rv, hc, hks⟩ := hr.ks
  have HKS := Lib.hid hks
  obtain ⟨ra, rc, rfl, -⟩ := id hks
  clear hks hr
  go_wp2_with fail
  refine (HP.out _ _ HKS.out).mono ?_
  rintro e w2 ⟨rfl, hB2⟩
  go_wp2_with fail
  go_ret
  exact ⟨rfl, Below.then hB hB2⟩

set_option maxRecDepth 100000 in
set_option maxHeartbeats 4000000 in
theorem gstring_any (l : List K) (v : Value) (w : World) (hG : Glob w) (hv : Ks w v l) (hl : l.length ≤ 1000000000) (hx : ∀ t ∈ l, t.text.size ≤ 400000000) (hp : (Gl.txt true false false l).length ≤ 1000000000) :
    Calls Tryd.prog 10 #[v] w fun e w' => e = .returned (strTok (34 :: (Gl.txt true false false l ++ [34]))) ∧ Below w.heap.size w w' := by
  have hmf : ∀ (fn : Fn) (first cap : Array Value) (w : World), (Instr.makeFunc fn first cap).run Tryd.prog w = .ok (.func fn first cap) w := fun _ _ _ _ => rfl
  have hA : Below w.heap.size w (w.alloc (.cells #[.int .i64 0, .string ⟨#[]⟩, .int .i64 0, .int .i64 0, .int .i64 0, .bool false] 26)) := (Below.refl _ w).alloc (Nat.le_refl _) _
  have k1 := eachstring_any (w.alloc (.cells #[.int .i64 0, .string ⟨#[]⟩, .int .i64 0, .int .i64 0, .int .i64 0, .bool false] 26)).heap.size l v (w.alloc (.cells #[.int .i64 0, .string ⟨#[]⟩, .int .i64 0, .int .i64 0, .int .i64 0, .bool false] 26)) ((w.alloc (.cells #[.int .i64 0, .string ⟨#[]⟩, .int .i64 0, .int .i64 0, .int .i64 0, .bool false] 26)).alloc (.cells #[.slice none 0 0] 22)) (hv.below hA) hl (hG.later hA) hx ((Below.refl _ _).alloc (Nat.le_refl _) _) (RowB.new _)
  have hbox := heap_alloc_new w (.cells #[.int .i64 0, .string ⟨#[]⟩, .int .i64 0, .int .i64 0, .int .i64 0, .bool false] 26)
  rw [World.size_alloc] at k1
  have hpr := Gl.prk_ln true l false false
  have hll := Gl.ln_length true l false false
  obtain ⟨L, hL⟩ : ∃ L, L = Gl.ln true false false l := ⟨_, rfl⟩
  rw [← hL] at hpr hll k1
  have hp2 := fun (v : Value) (w : World) (h : Ks w v L) => printk_any v L w h (by omega) (by rw [hpr]; exact hp)
  rw [hpr] at hp2
  obtain ⟨X, hX⟩ : ∃ X, X = Gl.txt true false false l := ⟨_, rfl⟩
  rw [← hX] at hp2 hp ⊢
  have had1 : ∀ W, (Op.stringOp .add ⟨#[34]⟩ ⟨X.toArray⟩).run Tryd.prog W = .ok (.string ⟨(34 :: X).toArray⟩) W := fun W => add_run [34] X (by simp; omega) W
  have had2 : ∀ W, (Op.stringOp .add ⟨(34 :: X).toArray⟩ ⟨#[34]⟩).run Tryd.prog W = .ok (.string ⟨(34 :: (X ++ [34])).toArray⟩) W := fun W => add_run (34 :: X) [34] (by simp; omega) W
  have HP := Lib.hid hp2
  have HK := Lib.hid k1
  have HBX := Lib.hid hbox
  have HA := Lib.hid hA
  obtain ⟨ad, cap, rfl, -⟩ := id hv
  clear hv hl hpr hll hL hp2 hX k1 hbox hA hp hx hG
  go_enter Tryd.func10, Tryd.ntmps10
  go_wp2_with fail
  refine HK.out.mono ?_
  rintro e w1 ⟨rfl, hr, hB⟩
  obtain ⟨rv, hc, hks⟩ := hr.ks
  have hb1 := (hB.block _ (Nat.lt_succ_self w.heap.size)).trans HBX.out
  have hBB := HA.out.trans (hB.mono (Nat.le_succ _))
  have HKS := Lib.hid hks
  obtain ⟨ra, rc, rfl, -⟩ := id hks
  clear hks hr hB
  go_wp2_with fail
  refine (HP.out _ _ HKS.out).mono ?_
  rintro e W1 ⟨rfl, hB2⟩
  have hb2 := (hB2.block _ (lt_of_block hb1)).trans hb1
  have hB3 := Below.then hBB hB2
  have hlt := lt_of_block hb2
  obtain ⟨x0, x1, x2, x3, x4, x5⟩ := box6_cells hb2
  have q0 : ∀ i, W1.frozen? ⟨w.heap.size, i, none⟩ = false := fun i => by simp [World.frozen?, hb2]
  have HB1 := Lib.hid hb2
  have HBB := Lib.hid hB3
  clear hB2 hb1 hb2 hBB hB3 hc
  go_wp2_with fail
  have hset : ((((((W1.setCell ⟨w.heap.size, 0, none⟩ (.int .i64 4)).setCell ⟨w.heap.size, 1, none⟩ (.string ⟨(34 :: (X ++ [34])).toArray⟩)).setCell ⟨w.heap.size, 2, none⟩ (.int .i64 0)).setCell ⟨w.heap.size, 3, none⟩ (.int .i64 0)).setCell ⟨w.heap.size, 4, none⟩ (.int .i64 0)).setCell ⟨w.heap.size, 5, none⟩ (.bool false)).heap[w.heap.size]? = some (.cells #[.int .i64 4, .string ⟨(34 :: (X ++ [34])).toArray⟩, .int .i64 0, .int .i64 0, .int .i64 0, .bool false] 26 (0, 0)) := by
    simp [World.setCell, Array.getElem?_modify, HB1.out]
  obtain ⟨s0, s1, s2, s3, s4, s5⟩ := box6_cells hset
  refine bodyPost_ret (v := strTok (34 :: (X ++ [34]))) (by simp [results, Tryd.results10, go_sem, strTok, s0, s1, s2, s3, s4, s5]) rfl ?_
  exact ⟨rfl, (((((HBB.out.setCell (Nat.le_refl _) _).setCell (Nat.le_refl _) _).setCell (Nat.le_refl _) _).setCell (Nat.le_refl _) _).setCell (Nat.le_refl _) _).setCell (Nat.le_refl _) _⟩
end Go.Proofs.YtlkcmegjbdibcaaDoor
