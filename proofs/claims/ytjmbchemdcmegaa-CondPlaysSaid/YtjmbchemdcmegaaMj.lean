/- What is proved: Parse tells what the plain function tells, of any lines. -/
import Derived.Test.YtjmbchemdcmegaaMi
namespace Go.Proofs.Ytjmbchemdcmegaa
open Go.RowKit
open Ct Ct.T

theorem RS.tree {W : World} {base R : Nat} {s : S} {tv iv : Value} {vs : List (Value × Value)} {cs xs : List Value} (h : RS W base R s tv iv vs cs xs) : Tr W iv s.1 :=
  TS.of_row (b := true) h.irow (CT.keep (fun _ _ hlt => ⟨hlt, rfl⟩) _ _ _ h.out) fun k e => (h.irow.lt k e).2
theorem RS.begin' (w : World) : RS (w.alloc (.cells #[.slice none 0 0, .slice none 0 0] 46)) w.heap.size w.heap.size (nil, []) (.slice none 0 0) (.slice none 0 0) [] [] [] := by
  refine ⟨heap_alloc_new w _, Nat.le_refl _, ?_, ?_, World.ownsRow_nil _ _ _ _, rfl, World.ownsRow_nil _ _ _ _, rfl⟩
  · intro v hv
    simp only [own, owns, List.flatMap_nil, List.mem_cons, List.not_mem_nil, or_false] at hv
    rcases hv with rfl | rfl <;> simp [nil_own]
  · simp [own, owns, Ap, nil_own]

theorem drop_cons' {ks : List Int} {k : Nat} {x : Int} (h : ks[k]? = some x) : ks.drop k = x :: ks.drop (k + 1) := by
  obtain ⟨h1, h2⟩ := List.getElem?_eq_some_iff.1 h
  rw [List.drop_eq_getElem_cons h1, h2]

def ParsePost (w : World) (r : T × Nat × Nat) (e : Ending) (w' : World) : Prop := ∃ u, e = .returned (.tuple #[u, .int .i64 r.2.1, .int .i64 r.2.2]) ∧ Tr w' u r.1 ∧ Below w.heap.size w w'
theorem Tr.nil (W : World) : Tr W (.slice none 0 0) nil := TS.nil_at _ _ _ _ _ (Nat.zero_le _)

set_option maxRecDepth 100000 in
set_option maxHeartbeats 8000000 in
theorem parse_any (v : Value) (ks : List Int) (w : World) (hv : Lns w v ks) (hl : ks.length ≤ 800000) : Calls Try.prog 10 #[v] w (ParsePost w (Ct.parse ks)) := by
  obtain ⟨r, hr⟩ : ∃ r, r = Ct.parse ks := ⟨_, rfl⟩
  rw [← hr]
  obtain ⟨ad, cap, rfl, h1, h2, h3⟩ := hv
  obtain ⟨n, hn⟩ : ∃ n, n = ks.length := ⟨_, rfl⟩
  rw [← hn] at hl h1 h3
  rw [← hn]
  have hr' : ∀ y, Ct.go 0 ks (nil, []) = y → r = fin y := fun y hy => by rw [hr, Ct.parse, hy]
  have Hr := Lib.hid hr'
  have Hn := Lib.hid hn
  have H3 := Lib.hid h3
  unfold maxLen at h2
  clear hn h3 hr hr'
  go_enter Try.func10, Try.ntmps10
  go_wp2_with fail
  go_loopw [12] (fun i wr => ∃ (k : Nat) (s : S), i = .int .i64 k ∧ k ≤ n ∧ Ct.go k (ks.drop k) s = Ct.go 0 ks (nil, []) ∧ RSx wr w.heap.size w.heap.size s ∧ Sm k s ∧ Below w.heap.size w wr) (fun i _ => n - (intOf i).toNat)
  case atStart => exact ⟨0, (nil, []), rfl, Nat.zero_le _, rfl, ⟨_, _, _, _, _, RS.begin' w⟩, ⟨by simp [T.len], by simp, by simp⟩, (Below.refl _ _).alloc (Nat.le_refl _) _⟩
  case round =>
    obtain ⟨k, s, rfl, hk, hgo, hRS, hSm, hB⟩ := hrel
    have hsB := hB.size
    by_cases hlt : k < n
    · obtain ⟨g, o, rfl, hg, hc⟩ := H3.out (by omega)
      obtain ⟨x, hx⟩ : ∃ x, ks[k]? = some x := ⟨_, List.getElem?_eq_getElem (by rw [← Hn.out]; exact hlt)⟩
      obtain ⟨d0, d1, d2, d3⟩ := hc k x hx
      replace d0 := (hB.cell (p := ⟨g, o + k * 4, none⟩) hg).trans d0
      replace d1 := (hB.cell (p := ⟨g, o + k * 4 + 1, none⟩) hg).trans d1
      replace d2 := (hB.cell (p := ⟨g, o + k * 4 + 2, none⟩) hg).trans d2
      replace d3 := (hB.cell (p := ⟨g, o + k * 4 + 3, none⟩) hg).trans d3
      rw [drop_cons' hx, Ct.go] at hgo
      obtain ⟨tv, iv, vs, cs, xs, hS⟩ := hRS
      have HS := Lib.hid hS
      have HSm := Lib.hid hSm
      cases hw : wrong x s.2 with
      | true =>
        rw [hw, if_pos rfl] at hgo
        have Hgo := Lib.hid (Hr.out _ hgo.symm)
        have HW := Lib.hid (wrong_any x (hS.alloc (.cells #[.int .i64 x, .int .i64 0, .int .i64 0, .slice none 0 0] 49)) hSm (by omega))
        rw [hw, if_pos rfl] at HW
        clear hc hx hgo hS hSm hw
        go_wp2_with fail
        refine HW.out.mono ?_
        rintro e w' ⟨rfl, q, rfl⟩
        go_wp2_with fail
        rw [Hgo.out]
        exact bodyPost_ret (v := .tuple #[.slice none 0 0, .int .i64 k, .int .i64 50]) (by simp [results, Try.results10, go_sem]) rfl ⟨_, rfl, Tr.nil _, below_drewN (hB.alloc hsB _) q⟩
      | false =>
        rw [hw, if_neg (by simp)] at hgo
        have Hgo := Lib.hid hgo
        have HW := Lib.hid (wrong_any x (hS.alloc (.cells #[.int .i64 x, .int .i64 0, .int .i64 0, .slice none 0 0] 49)) hSm (by omega))
        rw [hw, if_neg (by simp)] at HW
        have Hw := Lib.hid hw
        clear hc hx hgo hS hSm hw
        go_wp2_with fail
        refine HW.out.mono ?_
        rintro e w' ⟨rfl, q, rfl⟩
        have hbx : ((wr.alloc (.cells #[.int .i64 x, .int .i64 0, .int .i64 0, .slice none 0 0] 49)).drewN q).cell? ⟨wr.heap.size, 0, none⟩ = some (.int .i64 x) := by
          show (wr.alloc _).cell? _ = _
          simp
        have HS2 := Lib.hid ((HS.out.alloc (.cells #[.int .i64 x, .int .i64 0, .int .i64 0, .slice none 0 0] 49)).drewN q)
        have HB2 := Lib.hid (below_drewN (hB.alloc hsB (.cells #[.int .i64 x, .int .i64 0, .int .i64 0, .slice none 0 0] 49)) q)
        go_wp2_with fail
        refine (take_any k x Hw.out ⟨_, _, _, _, _, HS2.out⟩ HSm.out (by omega) (Nat.le_trans (Nat.le_refl _) HB2.out.size)).mono ?_
        rintro e w2 ⟨rfl, hR2, hBt⟩
        have HR2 := Lib.hid hR2
        have HB3 := Lib.hid (HB2.out.trans hBt)
        clear hR2 hBt d0 d1 d2 d3 hbx
        go_wp2_with fail
        go_roundw
        case rel => exact ⟨k + 1, Ct.take k x s, by go_num, hlt, Hgo.out, HR2.out, HSm.out.take, HB3.out⟩
        case measure => simp [intOf]; omega
    · have : k = n := by omega
      subst this
      rw [List.drop_eq_nil_of_le (by rw [← Hn.out]; exact Nat.le_refl _), Ct.go] at hgo
      obtain ⟨tv, iv, vs, cs, xs, hS⟩ := hRS
      have Hgo := Lib.hid (Hr.out _ hgo.symm)
      obtain ⟨out, st⟩ := s
      have hm2 := hSm.2.1
      cases st with
      | nil =>
        obtain ⟨a, c, rfl⟩ := row_form0 hS.trow
        have HC := Lib.hid hS.c1
        have hc0 := hS.c0
        have HT := Lib.hid hS.tree
        clear hgo hS hSm
        go_wp2_with fail
        refine (top_nil _ c a wr HC.out).mono ?_
        rintro e w' ⟨rfl, hw'⟩
        rw [hw']
        clear hw'
        go_wp2_with fail
        rw [Hgo.out]
        exact bodyPost_ret (v := .tuple #[iv, .int .i64 0, .int .i64 0]) (by simp [results, Try.results10, go_sem]) rfl ⟨_, rfl, HT.out, hB⟩
      | cons f st =>
        obtain ⟨bv, lv, vs', cs', bxs, lxs, gt, tc, gb, bc, -, -, -, -, htv, -, -, c0, -⟩ := hS.top
        simp only [List.length_cons] at hm2
        have hc1 := hS.c1
        rw [htv] at hc1
        have HC := Lib.hid hc1
        obtain ⟨m, hm⟩ : ∃ m, m = st.length := ⟨_, rfl⟩
        rw [← hm] at c0 hm2 HC
        have C0 := fun q => (show (wr.drewN q).cell? ⟨gt, m * 4, none⟩ = some (.int .i64 f.line) from c0)
        obtain ⟨fl, hfl⟩ : ∃ fl, fl = f.line := ⟨_, rfl⟩
        rw [← hfl] at C0 c0
        have hfin : fin (.inr (out, f :: st)) = (nil, fl, 51) := by rw [hfl]; rfl
        have HFn := Lib.hid hfin
        clear hgo hS hSm hfl hfin htv hc1 hm
        go_wp2_with fail
        refine (top_cons _ gt m tc wr HC.out (by omega)).mono ?_
        rintro e w' ⟨rfl, q, rfl⟩
        have c0' := C0 q
        have HB2 := Lib.hid (below_drewN hB q)
        go_wp2_with fail
        go_quiet (fail)
        go_wp2_with fail
        rw [Hgo.out, HFn.out]
        exact bodyPost_ret (v := .tuple #[.slice none 0 0, .int .i64 fl, .int .i64 51]) (by simp [results, Try.results10, go_sem]) rfl ⟨_, rfl, Tr.nil _, below_drewN HB2.out _⟩
end Go.Proofs.Ytjmbchemdcmegaa
