/- What is proved: the document's items tell the tree of lines in which nothing is wrong. -/
import Derived.Test.YtjmbchemdcmegaaRf
import Derived.Test.YtjmbchemdcmegaaMe
namespace Go.Proofs.Ytjmbchemdcmegaa
open Go.RowKit
open Ct Ct.T

/-- Blocks of the call's own that are not written: outside a conditional, and within one. -/
def okO (base : Nat) (m : Value) (g : Nat) : Prop := base ≤ g ∧ m.ownBlock ≠ some g
def okI (base B : Nat) (m bv : Value) (g : Nat) : Prop := base ≤ g ∧ g ≠ B ∧ m.ownBlock ≠ some g ∧ bv.ownBlock ≠ some g

def ItemsPost (w : World) (t : T) (j : Nat) (e : Ending) (w' : World) : Prop := ∃ u, e = .returned (.tuple #[u, .int .i64 j]) ∧ TS w' (fun g => w.heap.size ≤ g) true u t ∧ Below w.heap.size w w'

theorem kd_lt {ks : List Int} {i : Nat} (h : kd ks i ≠ 0) : i < ks.length := by
  rcases Nat.lt_or_ge i ks.length with h' | h'
  · exact h'
  · exact absurd (by simp [kd, List.getElem?_eq_none h']) h
theorem kd_get {ks : List Int} {i : Nat} (h : i < ks.length) : ks[i]? = some (kd ks i) := by
  rw [List.getElem?_eq_getElem h]; simp [kd, List.getElem?_eq_getElem h]
theorem begins_facts {k : Int} (h : begins k = true) : (k == 5) = false ∧ (k == 6) = false ∧ (k == 7) = false ∧ k ≠ 0 := by
  rw [begins_iff] at h
  rcases h with rfl | rfl | rfl <;> decide
theorem parts_facts {k : Int} (h : parts k = true) : ((k == 5) = true ∨ ((k == 5) = false ∧ (k == 6) = true)) ∧ (k == 7) = false ∧ k ≠ 0 := by
  rw [parts_iff] at h
  rcases h with rfl | rfl <;> decide
theorem plain_nots {k : Int} (hk : plain k = true) : (k == 5) = false ∧ (k == 6) = false ∧ (k == 7) = false ∧ begins k = false := by
  simp only [plain, begins, parts, Bool.and_eq_true, Bool.not_eq_true', Bool.or_eq_false_iff] at hk
  simp [hk, begins]

set_option maxRecDepth 100000 in
set_option maxHeartbeats 16000000 in
theorem ritems_all (ks : List Int) (hl : ks.length ≤ 100000) (N : Nat) : ∀ (t : T), tsize t < N → ∀ (i j : Nat) (v : Value) (w : World), Lns w v ks → G ks true i t j → j ≤ ks.length → (j < ks.length → parts (kd ks j) = true ∨ kd ks j = 7) → Calls Try.prog 23 #[v, .int .i64 i] w (ItemsPost w t j) := by
  induction N with
  | zero => intro t h; omega
  | succ N ih =>
    intro t hN i j v w hv hG hj hend
    obtain ⟨i3, hi, hz0, hz1, hz2⟩ := info_parts infoItem
    obtain ⟨i2, ki, kz0, kz1, kz2⟩ := info_parts infoBr
    have HLn := Lib.hid hv
    obtain ⟨ad, cap, rfl, h1, h2, h3⟩ := hv
    unfold maxLen at h2
    obtain ⟨n, hn⟩ : ∃ n, n = ks.length := ⟨_, rfl⟩
    rw [← hn] at hl h1 h3 hj hend HLn
    rw [← hn]
    have hij := Gle ks _ _ _ _ hG
    have Hn := Lib.hid hn
    have H3 := Lib.hid h3
    have HN := Lib.hid hN
    have IH := Lib.hid ih
    have HG := Lib.hid hG
    have HE := Lib.hid hend
    clear hn h3 hN ih hG hend
    go_enter Try.func23, Try.ntmps23
    go_wp2_with fail
    go_loopw [1, 6] (fun iv m wr => ∃ (k : Nat) (d r : T) (xs : List Value), iv = .int .i64 k ∧ t = d.app r ∧ G ks true k r j ∧ d.len ≤ k ∧ wr.ownsRow w.heap.size 39 3 m d.len xs ∧ CT wr (okO w.heap.size m) true xs d ∧ Below w.heap.size w wr) (fun i _ _ => n - (intOf i).toNat)
    case atStart => exact ⟨i, nil, t, [], rfl, rfl, HG.out, Nat.zero_le _, World.ownsRow_nil _ _ _ _, rfl, Below.refl _ _⟩
    case round =>
      obtain ⟨k, d, r0, xs, rfl, ht, hGr, hdk, hrow, hct, hB⟩ := hrel
      have hsB := hB.size
      have hkj := Gle ks _ _ _ _ hGr
      cases r0 with
      | nil =>
        simp only [G] at hGr
        subst hGr
        rw [app_nil] at ht
        subst ht
        have hfin : ItemsPost w t k (.returned (.tuple #[u6, .int .i64 k])) wr := ⟨u6, rfl, TS.of_row (b := true) hrow (CT.keep (fun g hg _ => ⟨hg.1, rfl⟩) _ _ _ hct) (fun q e => (hrow.lt q e).1), hB⟩
        have HF := Lib.hid hfin
        clear hfin hct
        by_cases hlt : k < n
        · obtain ⟨g, o, rfl, hg, hc⟩ := H3.out (by omega)
          obtain ⟨d0, -⟩ := hc k _ (kd_get (by rw [← Hn.out]; exact hlt))
          replace d0 := (hB.cell (p := ⟨g, o + k * 4, none⟩) hg).trans d0
          have hend := HE.out hlt
          obtain ⟨x, hx⟩ : ∃ x, x = kd ks k := ⟨_, rfl⟩
          rw [← hx] at d0 hend
          have y2 : (k : Int) < n := by omega
          clear hc hx
          rcases hend with hp | rfl
          · obtain ⟨hp5, hp7, -⟩ := parts_facts hp
            rcases hp5 with q5 | ⟨q5, q6⟩
            all_goals
              clear hp
              go_wp2_with fail
              exact bodyPost_ret (v := .tuple #[u6, .int .i64 k]) (by simp [results, Try.results23, go_sem]) rfl HF.out
          · go_wp2_with fail
            exact bodyPost_ret (v := .tuple #[u6, .int .i64 k]) (by simp [results, Try.results23, go_sem]) rfl HF.out
        · have : k = n := by omega
          subst this
          go_wp2_with fail
          exact bodyPost_ret (v := .tuple #[u6, .int .i64 k]) (by simp [results, Try.results23, go_sem]) rfl HF.out
      | cons l e s r =>
        simp only [T.len] at hkj
        have hlt : k < n := by omega
        obtain ⟨g, o, rfl, hg, hc⟩ := H3.out (by omega)
        obtain ⟨d0, -⟩ := hc k _ (kd_get (by rw [← Hn.out]; exact hlt))
        replace d0 := (hB.cell (p := ⟨g, o + k * 4, none⟩) hg).trans d0
        have y2 : (k : Int) < n := by omega
        obtain ⟨rfl, hcase⟩ := hGr
        have HT := Lib.hid ht
        have HBg := Lib.hid (begins_any (kd ks l) wr)
        obtain ⟨x, hx⟩ : ∃ x, x = kd ks l := ⟨_, rfl⟩
        rw [← hx] at d0 hcase HBg
        have Hx := Lib.hid hx
        have HC := Lib.hid hc
        clear hc ht hx
        rcases hcase with ⟨rfl, rfl, hpl, hG4⟩ | ⟨hsn, hbg, hG3, he7, hG5⟩
        · obtain ⟨p5, p6, p7, hb⟩ := plain_nots hpl
          rw [hb] at HBg
          have HG4 := Lib.hid hG4
          have HCT := Lib.hid hct
          clear hpl hb hG4 hct
          go_wp2_with fail
          refine HBg.out.mono ?_
          rintro ed w' ⟨rfl, hw'⟩
          rw [hw']
          clear hw' w'
          go_wp2_with (at_builtin; refine wpList_append_lies _ rfl _ _ 24 rfl w.heap.size 39 i3 (.agg #[.int .i64 0, .int .i64 0, .slice none 0 0]) 3 40 Try.underlying24 hi hz0 hz1 hz2 rfl (by decide) u6 d.len xs rfl (hrow.alloc _) ⟨wr.heap.size, 0, none⟩ 1 1 [.int .i64 e, .int .i64 e, .slice none 0 0] rfl rfl (news3 _ _ _ _ _) (by simp [Value.oneCell']) (by decide) (by unfold maxLen; omega) (by omega) (by simp; omega) (wr.heap.size + 1) (by simp) ?_; intro g' cap' w' hown' hgrow hat _)
          have hGr : Gr wr w' u6 (.slice (some ⟨g', 0, none⟩) (d.len + 1) cap') := (Gr.alloc _ _ _).trans (Gr.lies hgrow (by simpa using hat))
          have hB' := hB.trans (hGr.below (B := w.heap.size) hsB (fun q e => (hrow.lt q e).1))
          have hk : ∀ q, okO w.heap.size u6 q → q < wr.heap.size → okO w.heap.size (.slice (some ⟨g', 0, none⟩) (d.len + 1) cap') q ∧ w'.heap[q]? = wr.heap[q]? := fun q hq hlt => ⟨⟨hq.1, hGr.not hlt hq.2⟩, hGr.block hlt hq.2⟩
          have hct' := CT.app _ _ _ _ _ (CT.keep hk _ _ _ HCT.out) (CT.item1 (l := e) (e := e) (TS.nil_at w' (okO w.heap.size (.slice (some ⟨g', 0, none⟩) (d.len + 1) cap')) false none 0 (Nat.zero_le _)))
          have HC' := Lib.hid hct'
          clear hk hct' hGr hgrow hat
          go_wp2_with fail
          go_roundw
          case rel => exact ⟨e + 1, d.snoc e e nil, r, _, by go_num, by rw [HT.out, app_snoc], HG4.out, by rw [len_snoc]; omega, by rw [len_snoc]; exact hown', HC'.out, hB'⟩
          case measure => simp [intOf]; omega
        · obtain ⟨p5, p6, p7, -⟩ := begins_facts hbg
          rw [hbg] at HBg
          have hsz : tsize s < N := by have := HN.out; rw [HT.out, tsize_app, tsize] at this; omega
          have hle1 := Gle ks _ _ _ _ hG3
          have hle2 := Gle ks _ _ _ _ hG5
          have hen : e < n := by omega
          have hl1 : l < e := by
            cases s with
            | nil => exact absurd rfl hsn
            | cons _ _ _ _ => exact Glt ks hG3
          have HSz := Lib.hid hsz
          have HSn := Lib.hid hsn
          have HG3 := Lib.hid hG3
          have HG5 := Lib.hid hG5
          have HE7 := Lib.hid he7
          have HBx := Lib.hid hbg
          have HCT := Lib.hid hct
          clear hsz hsn hG3 hG5 he7 hbg hct
          go_wp2_with fail
          refine HBg.out.mono ?_
          rintro ed w' ⟨rfl, hw'⟩
          rw [hw']
          clear hw' w'
          go_wp2_with fail
          obtain ⟨V, hV⟩ : ∃ V, V = wr := ⟨_, rfl⟩
          subst hV
          obtain ⟨m0, hm0⟩ : ∃ m0, m0 = u6 := ⟨_, rfl⟩
          subst hm0
          have hinit : CT (V.alloc (.cells #[.int .i64 l, .int .i64 0, .slice none 0 0] 39)) (okI w.heap.size V.heap.size m0 (.slice none 0 0)) true xs d := CT.keep (fun q hq hlt => ⟨⟨hq.1, by omega, hq.2, by simp [nil_own]⟩, Below.heap_alloc V _ q hlt⟩) _ _ _ HCT.out
          have HIn := Lib.hid hinit
          clear hinit HCT d0
          go_loopw [1] (fun iv wx => ∃ (k' : Nat) (d' r'' : T) (bv : Value) (bxs : List Value), iv = .int .i64 k' ∧ s = d'.app r'' ∧ G ks false k' r'' e ∧ l ≤ k' ∧ d'.len ≤ k' ∧ (d' = nil → k' = l) ∧ (d' ≠ nil → r'' ≠ nil → parts (kd ks k') = true) ∧
            wx.heap[V.heap.size]? = some (.cells #[.int .i64 l, .int .i64 0, bv] 39 (0, 0)) ∧ wx.ownsRow w.heap.size 41 2 bv d'.len bxs ∧ CT wx (okI w.heap.size V.heap.size m0 bv) false bxs d' ∧ wx.ownsRow w.heap.size 39 3 m0 d.len xs ∧ CT wx (okI w.heap.size V.heap.size m0 bv) true xs d ∧ Below w.heap.size w wx) (fun i _ => n - (intOf i).toNat)
          case atStart => exact ⟨l, nil, s, .slice none 0 0, [], rfl, rfl, HG3.out, Nat.le_refl _, Nat.zero_le _, fun _ => rfl, fun h => absurd rfl h, heap_alloc_new V _, World.ownsRow_nil _ _ _ _, rfl, hrow.alloc _, HIn.out, hB.alloc hsB _⟩
          case round =>
            obtain ⟨k', d', r1, bv, bxs, rfl, hs', hGb, hlk, hdk', hfirst, hnext, hbl, hbrow, hbct, hmrow, hmct, hB'⟩ := hrel
            have hsB' := hB'.size
            have hVlt := lt_of_block hbl
            have hk'e := Gle ks _ _ _ _ hGb
            have hk'n : k' < n := by omega
            have d0 := (hB'.cell (p := ⟨g, o + k' * 4, none⟩) hg).trans (HC.out k' _ (kd_get (by rw [← Hn.out]; exact hk'n))).1
            have y3 : (k' : Int) < n := by omega
            obtain ⟨ba, bc, rfl⟩ : ∃ a c, bv = .slice a d'.len c := by
              rcases hbrow.2 with ⟨h', h0⟩ | ⟨g', cap', cur, h', _⟩
              · exact ⟨none, 0, by rw [h', h0]⟩
              · exact ⟨_, _, h'⟩
            have b0 : wr.cell? ⟨V.heap.size, 0, none⟩ = some (.int .i64 l) := by simp [World.cell?, hbl]
            have b1 : wr.cell? ⟨V.heap.size, 1, none⟩ = some (.int .i64 0) := by simp [World.cell?, hbl]
            have b2 : wr.cell? ⟨V.heap.size, 2, none⟩ = some (.slice ba d'.len bc) := by simp [World.cell?, hbl]
            have f1 : wr.frozen? ⟨V.heap.size, 1, none⟩ = false := frozen_of_row _ _ _ _ _ hbl
            have f2 : wr.frozen? ⟨V.heap.size, 2, none⟩ = false := frozen_of_row _ _ _ _ _ hbl
            cases r1 with
            | nil =>
              simp only [G] at hGb
              subst hGb
              rw [app_nil] at hs'
              subst hs'
              rw [HE7.out] at d0
              have hpos : 0 < s.len := by
                cases s with
                | nil => exact absurd rfl HSn.out
                | cons _ _ _ _ => simp [T.len]
              obtain ⟨ns, hns⟩ : ∃ ns, ns = s.len := ⟨_, rfl⟩
              rw [← hns] at b2 hpos hdk' hbrow hbl hbct hmct
              have y4 : ((ns : Int) == 0) = false := by simp; omega
              have HBl := Lib.hid hbl
              have HBr := Lib.hid hbrow
              have HBc := Lib.hid hbct
              have HMr := Lib.hid hmrow
              have HMc := Lib.hid hmct
              have Hns := Lib.hid hns
              have hm0B : m0.ownBlock ≠ some V.heap.size := row_fresh hrow (Nat.le_refl _)
              have hbB : (Value.slice ba ns bc).ownBlock ≠ some V.heap.size := row_not hbrow hbl (by decide)
              have hmS := ownsRow_setCell_other hmrow hm0B (a := ⟨V.heap.size, 1, none⟩) (.int .i64 k')
              have hBs := hB'.setCell (p := ⟨V.heap.size, 1, none⟩) hsB (.int .i64 k')
              have hmL := fun q e => (hmrow.lt q e).2
              have hbm : ∀ q, (Value.slice ba ns bc).ownBlock = some q → m0.ownBlock ≠ some q := fun q e => row_apart hbrow hmrow (by decide) e
              have HmB := Lib.hid hm0B
              have HbB := Lib.hid hbB
              have HbM := Lib.hid hbm
              clear hbl hbrow hbct hmct hfirst hnext hns hm0B hbB hbm
              go_wp2_with (at_builtin; refine wpList_append_lies _ rfl _ _ 24 rfl w.heap.size 39 i3 (.agg #[.int .i64 0, .int .i64 0, .slice none 0 0]) 3 40 Try.underlying24 hi hz0 hz1 hz2 rfl (by decide) m0 d.len xs rfl (hmS.alloc _) ⟨wr.heap.size, 0, none⟩ 1 1 [.int .i64 l, .int .i64 k', .slice ba ns bc] rfl rfl (by have := news3 (wr.setCell ⟨V.heap.size, 1, none⟩ (.int .i64 k')) (.int .i64 l) (.int .i64 k') (.slice ba ns bc) 39; simpa using this) (by simp [Value.oneCell']) (by decide) (by unfold maxLen; omega) (by omega) (by simp; omega) (wr.heap.size + 1) (by simp) ?_; intro g' cap' w' hown' hgrow hat _)
              have hGr : Gr (wr.setCell ⟨V.heap.size, 1, none⟩ (.int .i64 k')) w' m0 (.slice (some ⟨g', 0, none⟩) (d.len + 1) cap') := (Gr.alloc _ _ _).trans (Gr.lies hgrow (by simpa using hat))
              have hBn := hBs.trans (hGr.below (B := w.heap.size) (by simpa using hsB') (fun q e => (hmrow.lt q e).1))
              have hblk : ∀ q, q < wr.heap.size → q ≠ V.heap.size → m0.ownBlock ≠ some q → w'.heap[q]? = wr.heap[q]? := fun q h1 h2 h3 => by
                rw [hGr.block (by simpa using h1) h3, Below.heap_setCell _ _ _ _ h2]
              have hk : ∀ q, okI w.heap.size V.heap.size m0 (.slice ba ns bc) q → q < wr.heap.size → okO w.heap.size (.slice (some ⟨g', 0, none⟩) (d.len + 1) cap') q ∧ w'.heap[q]? = wr.heap[q]? := fun q hq hlt => ⟨⟨hq.1, hGr.not (by simpa using hlt) hq.2.2.1⟩, hblk q hlt hq.2.1 hq.2.2.1⟩
              have hbr' := row_heap HBr.out (fun q e => hblk q (HBr.out.lt q e).2 (fun e' => HbB.out (by rw [e, e'])) (HbM.out q e))
              have hts : TS w' (okO w.heap.size (.slice (some ⟨g', 0, none⟩) (d.len + 1) cap')) false (.slice ba ns bc) s := by
                refine TS.of_row (b := false) (e := 41) (base := w.heap.size) (xs := bxs) (by rw [← Hns.out]; exact hbr') (CT.keep hk _ _ _ HBc.out) (fun q e => ⟨(HBr.out.lt q e).1, hGr.not (by have := (HBr.out.lt q e).2; simpa using this) (HbM.out q e)⟩)
              have hct' := CT.app _ _ _ _ _ (CT.keep hk _ _ _ HMc.out) (CT.item1 (l := l) (e := k') hts)
              have HC' := Lib.hid hct'
              have HOw := Lib.hid hown'
              have HBn := Lib.hid hBn
              clear hk hct' hGr hgrow hat hblk hbr' hts hown' hBn hBs hmS
              go_wp2_with fail
              go_roundw
              case rel => exact ⟨k' + 1, d.snoc l k' s, r, _, by go_num, by rw [HT.out, app_snoc], HG5.out, by rw [len_snoc]; omega, by rw [len_snoc]; exact HOw.out, HC'.out, HBn.out⟩
              case measure => simp [intOf]; omega
            | cons l' e' sub rr =>
              obtain ⟨rfl, rfl, m', hGs, hpar, hGrr⟩ := hGb
              have hle3 := Gle ks _ _ _ _ hGs
              have hle4 := Gle ks _ _ _ _ hGrr
              have hsz' : tsize sub < N := by have := HSz.out; rw [hs', tsize_app, tsize] at this; omega
              have hkd : (kd ks l' == 7) = false := by
                by_cases hd : d' = nil
                · rw [hfirst hd, ← Hx.out]; exact p7
                · exact (parts_facts (hnext hd (by simp))).2.1
              have hend' : m' < n → parts (kd ks m') = true ∨ kd ks m' = 7 := fun _ => by
                by_cases hr : rr = nil
                · subst hr
                  simp only [G] at hGrr
                  subst hGrr
                  exact .inr HE7.out
                · exact .inl (hpar hr)
              have HCall := Lib.hid (IH.out sub hsz' (l' + 1) m' (.slice (some ⟨g, o, none⟩) n cap) wr (HLn.out.below hB') hGs (by rw [← Hn.out]; omega) (by rw [← Hn.out]; exact hend'))
              obtain ⟨z, hz⟩ : ∃ z, z = kd ks l' := ⟨_, rfl⟩
              rw [← hz] at d0 hkd
              have hkd' : (z != 7) = true := by simp [bne, hkd]
              obtain ⟨nd, hnd⟩ : ∃ nd, nd = d'.len := ⟨_, rfl⟩
              rw [← hnd] at b2 hdk' hbrow hbl hbct hmct
              have Hnd := Lib.hid hnd
              have hm0B : m0.ownBlock ≠ some V.heap.size := row_fresh hrow (Nat.le_refl _)
              have hbB : (Value.slice ba nd bc).ownBlock ≠ some V.heap.size := row_not hbrow hbl (by decide)
              have hbm : ∀ q, m0.ownBlock = some q → (Value.slice ba nd bc).ownBlock ≠ some q := fun q e => row_apart hmrow hbrow (by decide) e
              have hVs := hrow.lt
              have HBl := Lib.hid hbl
              have HBr := Lib.hid hbrow
              have HBc := Lib.hid hbct
              have HMr := Lib.hid hmrow
              have HMc := Lib.hid hmct
              have HmB := Lib.hid hm0B
              have HbB := Lib.hid hbB
              have HbM := Lib.hid hbm
              have HGs := Lib.hid hGrr
              have HPar := Lib.hid hpar
              have HS' := Lib.hid hs'
              have z5 : IntKind.i64.wrap ((l' : Int) + 1) = (l' : Int) + 1 := IntWalk.i64_in _ (by omega)
              clear hz hnd hbl hbrow hbct hmrow hmct hm0B hbB hbm hGs hGrr hpar hsz' hfirst hnext hend' hs' hVs
              go_wp2_with fail
              refine HCall.out.mono ?_
              rintro ed w2 ⟨uu, rfl, hTu, hB2⟩
              obtain ⟨ua, uc, hua, -⟩ := hTu.form
              obtain ⟨nu, hnu⟩ : ∃ nu, nu = sub.len := ⟨_, rfl⟩
              rw [← hnu] at hua
              subst hua
              have hbl2 := (hB2.block _ hVlt).trans HBl.out
              have c2 : w2.cell? ⟨V.heap.size, 2, none⟩ = some (.slice ba nd bc) := by simp [World.cell?, hbl2]
              have g2 : w2.frozen? ⟨V.heap.size, 2, none⟩ = false := frozen_of_row _ _ _ _ _ hbl2
              have hbr2 := row_below HBr.out hB2
              have hmr2 := row_below HMr.out hB2
              have hs2 := hB2.size
              have HTu := Lib.hid hTu
              clear hTu d0 b0 b1 b2 f1 f2 hnu HCall
              go_wp2_with (at_builtin; refine wpList_append_lies _ rfl _ _ 37 rfl w.heap.size 41 i2 (.agg #[.int .i64 0, .slice none 0 0]) 2 32 Try.underlying37 ki kz0 kz1 kz2 rfl (by decide) (.slice ba nd bc) nd bxs rfl (hbr2.alloc _) ⟨w2.heap.size, 0, none⟩ 1 1 [.int .i64 l', .slice ua nu uc] rfl rfl (news2 _ _ _ _) (by simp [Value.oneCell']) (by decide) (by unfold maxLen; omega) (by omega) (by simp; omega) (w2.heap.size + 1) (by simp) ?_; intro g' cap' w3 hown' hgrow hat _; have hGr : Gr w2 w3 (.slice ba nd bc) (.slice (some ⟨g', 0, none⟩) (nd + 1) cap') := (Gr.alloc _ _ _).trans (Gr.lies hgrow (by simpa using hat)); have hVl2 := Nat.lt_of_lt_of_le hVlt hB2.size; have hbl3 := (hGr.block hVl2 HbB.out).trans hbl2; have c3 : w3.cell? ⟨V.heap.size, 2, none⟩ = some (.slice ba nd bc) := (by simp [World.cell?, hbl3]); have g3 : w3.frozen? ⟨V.heap.size, 2, none⟩ = false := frozen_of_row _ _ _ _ _ hbl3)
              obtain ⟨W4, hW4⟩ : ∃ W4, W4 = w3.setCell ⟨V.heap.size, 2, none⟩ (.slice (some ⟨g', 0, none⟩) (nd + 1) cap') := ⟨_, rfl⟩
              rw [← hW4]
              have hblk : ∀ q, q < w2.heap.size → q ≠ V.heap.size → (Value.slice ba nd bc).ownBlock ≠ some q → W4.heap[q]? = w2.heap[q]? := fun q h1 h2 h3 => by
                rw [hW4, Below.heap_setCell _ _ _ _ h2, hGr.block h1 h3]
              have hbl4 : W4.heap[V.heap.size]? = some (.cells #[.int .i64 l, .int .i64 0, .slice (some ⟨g', 0, none⟩) (nd + 1) cap'] 39 (0, 0)) := by
                rw [hW4]; simp [World.setCell, Array.getElem?_modify, hbl3]
              have hbr4 : W4.ownsRow w.heap.size 41 2 (.slice (some ⟨g', 0, none⟩) (nd + 1) cap') (nd + 1) (bxs ++ [.int .i64 l', .slice ua nu uc]) := by
                rw [hW4]; exact ownsRow_setCell_other hown' (hGr.not hVl2 HbB.out) _
              have hk : ∀ q, okI w.heap.size V.heap.size m0 (.slice ba nd bc) q → q < wr.heap.size → okI w.heap.size V.heap.size m0 (.slice (some ⟨g', 0, none⟩) (nd + 1) cap') q ∧ W4.heap[q]? = wr.heap[q]? := fun q hq hlt => ⟨⟨hq.1, hq.2.1, hq.2.2.1, hGr.not (Nat.lt_of_lt_of_le hlt hB2.size) hq.2.2.2⟩, (hblk q (Nat.lt_of_lt_of_le hlt hB2.size) hq.2.1 hq.2.2.2).trans (hB2.block q hlt)⟩
              have hk2 : ∀ q, wr.heap.size ≤ q → q < w2.heap.size → okI w.heap.size V.heap.size m0 (.slice (some ⟨g', 0, none⟩) (nd + 1) cap') q ∧ W4.heap[q]? = w2.heap[q]? := fun q h1 h2 => by
                have nb : (Value.slice ba nd bc).ownBlock ≠ some q := fun e => by have := (HBr.out.lt q e).2; omega
                exact ⟨⟨by omega, by omega, fun e => by have := (HMr.out.lt q e).2; omega, hGr.not h2 nb⟩, hblk q h2 (by omega) nb⟩
              have hbc4 := CT.app _ _ _ _ _ (CT.keep hk _ _ _ HBc.out) (CT.branch1 (l := l') (e := 0) (TS.keep HTu.out hk2))
              have hmr4 := row_heap hmr2 (W' := W4) (fun q e => hblk q (hmr2.lt q e).2 (fun e' => HmB.out (by rw [e, e'])) (HbM.out q e))
              have hmc4 := CT.keep hk _ _ _ HMc.out
              have hB4 : Below w.heap.size w W4 := by
                rw [hW4]
                exact ((hB'.trans (hB2.mono hsB')).trans (hGr.below (B := w.heap.size) (by omega) (fun q e => (HBr.out.lt q e).1))).setCell hsB _
              have H1 := Lib.hid hbl4
              have H2 := Lib.hid hbr4
              have H4 := Lib.hid hbc4
              have H5 := Lib.hid hmr4
              have H6 := Lib.hid hmc4
              have H7 := Lib.hid hB4
              clear hW4 hblk hbl4 hbr4 hk hk2 hbc4 hmr4 hmc4 hB4 hGr hbl3 c3 g3 hown' hgrow hat c2 g2 hbl2 hbr2 hmr2 hB2 hB'
              go_wp2_with fail
              go_roundw
              case rel => exact ⟨m', d'.snoc l' 0 sub, rr, _, _, rfl, by rw [HS'.out, app_snoc], HGs.out, by omega, by rw [len_snoc, ← Hnd.out]; omega, fun h => absurd h (snoc_ne _ _ _ _), fun _ h => HPar.out h, H1.out, by rw [len_snoc, ← Hnd.out]; exact H2.out, H4.out, H5.out, H6.out, H7.out⟩
              case measure => simp [intOf]; omega
end Go.Proofs.Ytjmbchemdcmegaa
