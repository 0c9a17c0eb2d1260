/- What is proved: what Around tells of any tree. -/
import Derived.Test.YtjmbchemdcmegaaRb
namespace Go.Proofs.Ytjmbchemdcmegaa
open Go.RowKit
open Ct Ct.T

theorem Gr.drew (w : World) (u : Value) : Gr w w.drew u u := ⟨⟨rfl, rfl, rfl, Nat.le_refl _, fun _ _ _ => rfl⟩, fun _ h => .inl h⟩
theorem Gr.cut {w w' : World} {u : Value} {g n n' cap : Nat} (h : Gr w w' u (.slice (some ⟨g, 0, none⟩) n cap)) : Gr w w' u (.slice (some ⟨g, 0, none⟩) n' cap) := ⟨h.g, h.own⟩
theorem ownsRow_take {w : World} {base e size g cap n m : Nat} {xs : List Value} (h : w.ownsRow base e size (.slice (some ⟨g, 0, none⟩) n cap) n xs) (hm : m ≤ n) : w.ownsRow base e size (.slice (some ⟨g, 0, none⟩) m cap) m (xs.take (m * size)) := by
  obtain ⟨h1, h2⟩ := h
  rcases h2 with ⟨h0, _⟩ | ⟨g', cap', cur, hv, hg, hh, hn, hcap, hsz, htake⟩
  · cases h0
  · cases hv
    have hms : m * size ≤ n * size := Nat.mul_le_mul_right _ hm
    refine ⟨by rw [List.length_take]; omega, .inr ⟨g, cap, cur, rfl, hg, hh, by omega, hcap, hsz, ?_⟩⟩
    rw [← htake, List.take_take, Nat.min_eq_left hms]
theorem nums_take (l : List Nat) (k : Nat) : nums (l.take k) = (nums l).take k := by simp [nums, List.map_take]

theorem ar_item (x : Int) (q l e : Nat) (s r : T) : ar x true q (cons l e s r) = ((ar x false e s).1 ++ (ar x true q r).1, (nilB s && ((l : Int) == x)) || (ar x false e s).2 || (ar x true q r).2) := by simp [ar]
theorem ar_branch (x : Int) (q l e : Nat) (s r : T) : ar x false q (cons l e s r) = ((if (ar x true 0 s).2 || ((l : Int) == x) || (nilB r && ((q : Int) == x)) then l :: (ar x true 0 s).1 else []) ++ (ar x false q r).1,
      ((ar x true 0 s).2 || ((l : Int) == x) || (nilB r && ((q : Int) == x))) || (ar x false q r).2) := by simp [ar]
/-- All branches' lines, at most. -/
def brs : Bool → T → Nat
  | _, .nil => 0
  | true, .cons _ _ s r => brs false s + brs true r
  | false, .cons _ _ s r => 1 + brs true s + brs false r

def AroundPost (base : Nat) (w : World) (u : Value) (xs : List Nat) (h : Bool) (e : Ending) (w' : World) : Prop := ∃ u', e = .returned (.tuple #[u', .bool h]) ∧ w'.ownsRow base 3 1 u' xs.length (nums xs) ∧ Gr w w' u u'

theorem ar_brs (x : Int) (t : T) : ∀ (b : Bool) (q : Nat), (ar x b q t).1.length ≤ brs b t := by
  induction t with
  | nil => intro b q; cases b <;> simp [ar]
  | cons l e s r ihs ihr =>
    intro b q
    cases b with
    | true => rw [ar_item]; have := ihs false e; have := ihr true q; simp only [List.length_append, brs]; omega
    | false => rw [ar_branch]; have := ihs true 0; have := ihr false q; simp only [List.length_append, brs]; split <;> simp <;> omega

set_option maxRecDepth 100000 in
set_option maxHeartbeats 16000000 in
theorem around_all (x : Int) (N : Nat) : ∀ (t : T), tsize t < N → ∀ (base : Nat) (u v : Value) (xs : List Nat) (w : World), base ≤ w.heap.size → TS w (· < base) true v t → w.ownsRow base 3 1 u xs.length (nums xs) → xs.length + brs true t ≤ 1000000 →
    Calls Try.prog 25 #[u, v, .int .i64 x] w (AroundPost base w u (xs ++ (ar x true 0 t).1) (ar x true 0 t).2) := by
  induction N with
  | zero => intro t h; omega
  | succ N ih =>
    intro t hN base u v xs w hbase hv hrow0 hd
    obtain ⟨i0, hi, hz0, hz1, hz2⟩ := info_parts info3
    obtain ⟨ad, cap, rfl, h1, h2, h3⟩ := hv.form
    unfold maxLen at h2
    obtain ⟨n, hn⟩ : ∃ n, n = t.len := ⟨_, rfl⟩
    rw [← hn] at h1 h3 hv
    rw [← hn]
    obtain ⟨full, hfull⟩ : ∃ full, full = xs ++ (ar x true 0 t).1 := ⟨_, rfl⟩
    obtain ⟨fh, hfh⟩ : ∃ fh, fh = (ar x true 0 t).2 := ⟨_, rfl⟩
    rw [← hfull, ← hfh]
    have hub := fun k e => (hrow0.lt k e).1
    have Hfull := Lib.hid hfull
    have Hfh := Lib.hid hfh
    have Hn := Lib.hid hn
    have HV := Lib.hid hv
    have H3 := Lib.hid h3
    have HN := Lib.hid hN
    have IH := Lib.hid ih
    have HR0 := Lib.hid hrow0
    have HUb := Lib.hid hub
    clear hn hv h3 hN ih hfull hfh hrow0 hub
    go_enter Try.func25, Try.ntmps25
    go_wp2_with fail
    go_loopw [0, 7, 17] (fun m hb i wr => ∃ (k : Nat) (B : Bool) (ys : List Nat) (d r : T), i = .int .i64 k ∧ hb = .bool B ∧ t = d.app r ∧ d.len = k ∧ ys ++ (ar x true 0 r).1 = full ∧ (B || (ar x true 0 r).2) = fh ∧ ys.length + brs true r ≤ 1000000 ∧ k ≤ n ∧ wr.ownsRow base 3 1 m ys.length (nums ys) ∧ Gr w wr u m) (fun _ _ i _ => n - (intOf i).toNat)
    case atStart => exact ⟨0, false, xs, nil, t, rfl, rfl, rfl, rfl, Hfull.out.symm, by rw [Bool.false_or]; exact Hfh.out.symm, hd, Nat.zero_le _, HR0.out, Gr.refl _ _⟩
    case round =>
      obtain ⟨k, B, ys, d, r0, rfl, rfl, ht, hdk, hm, hmb, hlen, hk, hrow, hGr⟩ := hrel
      have hB := hGr.below hbase HUb.out
      have hsB := hB.size
      by_cases hlt : k < n
      · obtain ⟨g, o, rfl, hg, _⟩ := H3.out (by omega)
        cases r0 with
        | nil => exact absurd (show t.len = k by rw [ht, app_nil, hdk]) (by rw [← Hn.out]; omega)
        | cons l e s r =>
        have hT := HV.out.below hB
        rw [ht] at hT
        obtain ⟨c0, c1, sv, c2, hs⟩ := TS.item hT
        rw [hdk] at c0 c1 c2
        obtain ⟨sad, scap, rfl, s1, s2, s3⟩ := hs.form
        unfold maxLen at s2
        have hsz : tsize s < N := by have := HN.out; rw [ht, tsize_app, tsize] at this; omega
        rw [ar_item] at hm hmb
        dsimp only at hm hmb
        rw [brs] at hlen
        obtain ⟨B2, hB2⟩ : ∃ B2, B2 = (B || (nilB s && ((l : Int) == x))) := ⟨_, rfl⟩
        rw [Bool.or_assoc, ← Bool.or_assoc, ← hB2] at hmb
        obtain ⟨ns, hns⟩ : ∃ ns, ns = s.len := ⟨_, rfl⟩
        rw [← hns] at s1 s3 hs c2
        have hub' := fun k e => (hrow.lt k e).1
        have hcase : (((ns : Int) == 0) = true ∧ ((l : Int) == x) = true ∧ B2 = true) ∨ (((ns : Int) == 0) = true ∧ ((l : Int) == x) = false ∧ B2 = B) ∨ (((ns : Int) == 0) = false ∧ B2 = B) := by
          cases s with
          | nil =>
            simp only [T.len] at hns
            subst hns
            cases hq : ((l : Int) == x)
            · rw [hq] at hB2; simp [nilB] at hB2; simp [hB2]
            · rw [hq] at hB2; simp [nilB] at hB2; simp [hB2]
          | cons _ _ _ _ => simp only [T.len] at hns; simp [nilB] at hB2; right; right; exact ⟨by simp; omega, hB2⟩
        have HT := Lib.hid ht
        have HDk := Lib.hid hdk
        have HGr := Lib.hid hGr
        have Hns := Lib.hid hns
        have HS := Lib.hid hs
        have S3 := Lib.hid s3
        have HSz := Lib.hid hsz
        have HM := Lib.hid hm
        have HMb := Lib.hid hmb
        have HUb' := Lib.hid hub'
        clear hns hs s3 hsz hT ht hdk hm hmb hub' hGr hB2
        have key : ∀ (tm : Array Value), True := fun _ => trivial
        clear key
        rcases hcase with ⟨q1, q2, hq⟩ | ⟨q1, q2, hq⟩ | ⟨q1, hq⟩
        all_goals
          go_wp2_with fail
          obtain ⟨V, hV⟩ : ∃ V, V = wr := ⟨_, rfl⟩
          subst hV
          obtain ⟨m0, hm0⟩ : ∃ m0, m0 = u0 := ⟨_, rfl⟩
          subst hm0
          go_loopw [0, 7, 34] (fun m hb i wx => ∃ (j : Nat) (B' : Bool) (zs : List Nat) (d' r' : T), i = .int .i64 j ∧ hb = .bool B' ∧ s = d'.app r' ∧ d'.len = j ∧ zs ++ ((ar x false e r').1 ++ (ar x true 0 r).1) = full ∧ (B' || ((ar x false e r').2 || (ar x true 0 r).2)) = fh ∧ zs.length + (brs false r' + brs true r) ≤ 1000000 ∧ j ≤ ns ∧ wx.ownsRow base 3 1 m zs.length (nums zs) ∧ Gr V wx m0 m ∧ wx.heap[V.heap.size]? = some (.cells #[.int .i64 l, .int .i64 e, .slice sad ns scap] 39 (0, 0))) (fun _ _ i _ => ns - (intOf i).toNat)
          case atStart => exact ⟨0, B2, ys, nil, s, rfl, by rw [hq], rfl, rfl, by rw [← List.append_assoc] at *; exact HM.out, HMb.out, hlen, Nat.zero_le _, hrow.alloc _, Gr.alloc _ _ _, heap_alloc_new V _⟩
          case round =>
            obtain ⟨j, B', zs, d', r1, rfl, rfl, ht', hdk', hm', hmb', hlen', hj, hrow', hGr', hbl⟩ := hrel
            have hB' := hGr'.below (by omega) HUb'.out
            have hsB' := hB'.size
            have hVlt := lt_of_block hbl
            by_cases hlt' : j < ns
            · obtain ⟨gs, os, rfl, hgs, _⟩ := S3.out (by omega)
              cases r1 with
              | nil => exact absurd (show s.len = j by rw [ht', app_nil, hdk']) (by rw [← Hns.out]; omega)
              | cons l' e' s' r' =>
              have hT := TS.below HS.out hB'
              rw [ht'] at hT
              obtain ⟨b0, bv, b1, hs'⟩ := TS.branch hT
              rw [hdk'] at b0 b1
              have hsz' : tsize s' < N := by have := HSz.out; rw [ht', tsize_app, tsize] at this; omega
              have hlast : nilB r' = ((j : Int) == (ns : Int) - 1) := by
                have h4 := congrArg T.len ht'
                rw [len_app, hdk', ← Hns.out, T.len] at h4
                cases r' with
                | nil => simp only [T.len] at h4; simp [nilB]; omega
                | cons _ _ _ _ => simp only [T.len] at h4; simp [nilB]; omega
              rw [ar_branch] at hm' hmb'
              dsimp only at hm' hmb'
              rw [brs] at hlen'
              rw [hlast] at hm' hmb'
              obtain ⟨bad, bcap, rfl, -⟩ := hs'.form
              obtain ⟨nb, hnb⟩ : ∃ nb, nb = s'.len := ⟨_, rfl⟩
              rw [← hnb] at hs' b1
              obtain ⟨W1, hW1⟩ : ∃ W1, W1 = (ar x true 0 s').2 := ⟨_, rfl⟩
              obtain ⟨A1, hA1⟩ : ∃ A1, A1 = (ar x true 0 s').1 := ⟨_, rfl⟩
              have hA2 : A1.length ≤ brs true s' := by rw [hA1]; exact ar_brs _ _ _ _
              have ih2 : ∀ (w' : World) (u' : Value), base ≤ w'.heap.size → TS w' (· < base) true (.slice bad nb bcap) s' → w'.ownsRow base 3 1 u' (zs ++ [l']).length (nums (zs ++ [l'])) → Calls Try.prog 25 #[u', .slice bad nb bcap, .int .i64 x] w' (AroundPost base w' u' (zs ++ [l'] ++ A1) W1) := fun w' u' h1 h2 h3 => by
                rw [hA1, hW1]
                exact IH.out s' hsz' base u' _ (zs ++ [l']) w' h1 h2 h3 (by rw [List.length_append]; simp only [List.length_cons, List.length_nil]; omega)
              rw [← hA1, ← hW1] at hm'
              rw [← hW1] at hmb'
              have HI2 := Lib.hid ih2
              have HS' := Lib.hid hs'
              have HT' := Lib.hid ht'
              have HDk' := Lib.hid hdk'
              have HM' := Lib.hid hm'
              have HMb' := Lib.hid hmb'
              have HGr' := Lib.hid hGr'
              have HBl := Lib.hid hbl
              obtain ⟨zn, hzn⟩ : ∃ zn, zn = zs.length := ⟨_, rfl⟩
              rw [← hzn] at hlen' hrow'
              have hfr := row_fresh hrow' (Nat.le_refl _)
              have hrd : ∃ m1 c1 a1, u0 = .slice a1 m1 c1 ∧ m1 = zn := by
                rcases hrow'.2 with ⟨h', h0⟩ | ⟨g', cap', cur, h', _⟩
                · exact ⟨0, 0, none, h', h0.symm⟩
                · exact ⟨_, _, _, h', rfl⟩
              obtain ⟨m1, c1', a1, rfl, rfl⟩ := hrd
              have HZn := Lib.hid hzn
              have HR' := Lib.hid hrow'
              have HFr := Lib.hid hfr
              have hbw : base ≤ wr.heap.size := by omega
              clear hnb hT hs' hsz' ht' hdk' hm' hmb' hGr' hbl ih2 hlast hW1 hA1 hzn hrow' hfr
              go_wp2_with fail
              have hx : ∃ W2 : World, W2 = (wr.alloc (.cells #[.int .i64 l', .slice bad nb bcap] 41)).drew ∧ (W2.cell? ⟨wr.heap.size, 0, none⟩ = some (.int .i64 l') ∧ W2.cell? ⟨wr.heap.size, 1, none⟩ = some (.slice bad nb bcap)) ∧ W2.ownsRow base 3 1 (.slice a1 m1 c1') m1 (nums zs) ∧ W2.heap.size = wr.heap.size + 1 ∧ Gr wr W2 (.slice a1 m1 c1') (.slice a1 m1 c1') ∧ W2.heap[wr.heap.size]? = some (.cells #[.int .i64 l', .slice bad nb bcap] 41 (0, 0)) := by
                refine ⟨_, rfl, ⟨?_, ?_⟩, (HR'.out.alloc _).drew, by simp, (Gr.alloc _ _ _).trans (Gr.drew _ _), heap_alloc_new wr _⟩
                · show (wr.alloc _).cell? _ = _
                  simp
                · show (wr.alloc _).cell? _ = _
                  simp
              obtain ⟨W2, hW2, hS, hrow2, hsz2, hg2, hbx2⟩ := hx
              have Hsz2 := Lib.hid hsz2
              refine wp_region_held_drew (S := fun w' => w'.cell? ⟨wr.heap.size, 0, none⟩ = some (.int .i64 l') ∧ w'.cell? ⟨wr.heap.size, 1, none⟩ = some (.slice bad nb bcap)) (by kernel_rfl) (by rw [← hW2]; exact hS) (fun _ => ?_)
              rw [← hW2]
              clear hW2
              have HG2 := Lib.hid hg2
              have HBx2 := Lib.hid hbx2
              have HR2 := Lib.hid hrow2
              clear hg2 hbx2 hrow2 hsz2
              refine wpAnyH_take (i := 0) (v := .slice a1 m1 c1') rfl (by kernel_rfl) (by kernel_rfl) (by kernel_rfl) (fun _ _ _ h => h) (Or.inl ⟨by rfl, fun w hSw => by obtain ⟨hS2, hS3⟩ := hSw; go_simp⟩) hS ?_
              simp only [Act.put, List.getElem_toArray, List.getElem_cons_zero, List.setIfInBounds_toArray, List.set_cons_zero, List.set_cons_succ]
              refine wpAnyH_take (i := 1) (v := .pointer (some ⟨wr.heap.size, 0, none⟩)) rfl (by kernel_rfl) (by kernel_rfl) (by kernel_rfl) (fun _ _ _ h => h) (Or.inl ⟨by rfl, fun w hSw => by obtain ⟨hS2, hS3⟩ := hSw; go_simp⟩) hS ?_
              simp only [Act.put, List.getElem_toArray, List.getElem_cons_zero, List.getElem_cons_succ, List.setIfInBounds_toArray, List.set_cons_zero, List.set_cons_succ]
              refine wpAnyH_take (i := 2) (v := .int .i64 l') rfl (by kernel_rfl) (by kernel_rfl) (by kernel_rfl) (fun _ _ _ h => h) (Or.inl ⟨by rfl, fun w hSw => by obtain ⟨hS2, hS3⟩ := hSw; go_simp⟩) hS ?_
              simp only [Act.put, List.getElem_toArray, List.getElem_cons_zero, List.getElem_cons_succ, List.setIfInBounds_toArray, List.set_cons_zero, List.set_cons_succ]
              refine wpAnyH_take (i := 5) (v := .pointer (some ⟨wr.heap.size, 1, none⟩)) rfl (by kernel_rfl) (by kernel_rfl) (by kernel_rfl) (fun _ _ _ h => h) (Or.inl ⟨by rfl, fun w hSw => by obtain ⟨hS2, hS3⟩ := hSw; go_simp⟩) hS ?_
              simp only [Act.put, List.getElem_toArray, List.getElem_cons_zero, List.getElem_cons_succ, List.setIfInBounds_toArray, List.set_cons_zero, List.set_cons_succ]
              refine wpAnyH_take (i := 6) (v := .slice bad nb bcap) rfl (by kernel_rfl) (by kernel_rfl) (by kernel_rfl) (fun _ _ _ h => h) (Or.inl ⟨by rfl, fun w hSw => by obtain ⟨hS2, hS3⟩ := hSw; go_simp⟩) hS ?_
              simp only [Act.put, List.getElem_toArray, List.getElem_cons_zero, List.getElem_cons_succ, List.setIfInBounds_toArray, List.set_cons_zero, List.set_cons_succ]
              refine wpAnyH_take (i := 7) (v := .int .i64 x) rfl (by kernel_rfl) (by kernel_rfl) (by kernel_rfl) (fun _ _ _ h => h) (Or.inl ⟨by rfl, fun w hSw => by obtain ⟨hS2, hS3⟩ := hSw; go_simp⟩) hS ?_
              simp only [Act.put, List.getElem_toArray, List.getElem_cons_zero, List.getElem_cons_succ, List.setIfInBounds_toArray, List.set_cons_zero, List.set_cons_succ]
              refine wpAnyH_ready (rs := [3]) (by kernel_rfl) (by simp) ?_
              refine AllReadyH.cons rfl (fun K hK => ?_) AllReadyH.nil
              go_simp
              have hS' : (W2.alloc (.cells #[.int .i64 l'] 3)).cell? ⟨wr.heap.size, 0, none⟩ = some (.int .i64 l') ∧ (W2.alloc (.cells #[.int .i64 l'] 3)).cell? ⟨wr.heap.size, 1, none⟩ = some (.slice bad nb bcap) := ⟨Lib.cell?_alloc_some _ hS.1, Lib.cell?_alloc_some _ hS.2⟩
              refine hK.out _ _ hS' (fun _ => ?_)
              clear hK K
              refine wpAnyH_ready (rs := [4]) (by kernel_rfl) (by simp) ?_
              refine AllReadyH.cons rfl (fun K hK => ?_) AllReadyH.nil
              refine step_append_lies _ (by rfl) _ _ _ (by rfl) base 3 i0 _ 1 8 Try.underlying22 hi hz0 hz1 hz2 rfl (by omega) (.slice a1 m1 c1') m1 (nums zs) (by rfl) (HR2.out.alloc _)
                ⟨W2.heap.size, 0, none⟩ 1 1 [.int .i64 l'] (by rfl) (by rfl) (news1 _ _ _) (by simp [Value.oneCell'])
                (by omega) (by unfold maxLen; omega) (by omega) (by have := Hsz2.out; simp; omega) (W2.heap.size + 1) (by simp) ?_
              intro gg cap' w4 hown1 hgrow hat hlt4
              have hgA : Gr W2 w4 (.slice a1 m1 c1') (.slice (some ⟨gg, 0, none⟩) (m1 + 1) cap') := (Gr.alloc _ _ _).trans (Gr.lies hgrow (by simpa using hat))
              have hbA : w4.heap[wr.heap.size]? = some (.cells #[.int .i64 l', .slice bad nb bcap] 41 (0, 0)) := by
                rw [hgA.block (by rw [Hsz2.out]; omega) HFr.out]; exact HBx2.out
              have hS4 : w4.cell? ⟨wr.heap.size, 0, none⟩ = some (.int .i64 l') ∧ w4.cell? ⟨wr.heap.size, 1, none⟩ = some (.slice bad nb bcap) := by
                refine ⟨?_, ?_⟩ <;> simp [World.cell?, hbA]
              refine hK.out _ _ hS4 (fun _ => ?_)
              clear hK K
              have hgW := HG2.out.trans hgA
              have hbW := hgW.below hbw (fun k e => (HR'.out.lt k e).1)
              refine wpAnyH_ready (rs := [8]) (by kernel_rfl) (by simp) ?_
              refine AllReadyH.cons rfl (fun K hK => ?_) AllReadyH.nil
              have HK := Lib.hid hK
              have HgW := Lib.hid hgW
              have HbA := Lib.hid hbA
              have HO1 := Lib.hid hown1
              have HbW := Lib.hid hbW
              have HgA := Lib.hid hgA
              clear hK hgW hbA hown1 hbW hgA hgrow hat
              go_simp
              refine (HI2.out w4 (.slice (some ⟨gg, 0, none⟩) (m1 + 1) cap') (Nat.le_trans hbw HbW.out.size) (HS'.out.below HbW.out) (by rw [nums_append, List.length_append, ← HZn.out]; exact HO1.out)).mono ?_
              rintro e1 w5 ⟨u2, rfl, hown2, hG2⟩
              have hgx := HgA.out.trans hG2
              have hbB : w5.heap[wr.heap.size]? = some (.cells #[.int .i64 l', .slice bad nb bcap] 41 (0, 0)) := by
                rw [hgx.block (by rw [Hsz2.out]; omega) HFr.out]; exact HBx2.out
              have hS5 : w5.cell? ⟨wr.heap.size, 0, none⟩ = some (.int .i64 l') ∧ w5.cell? ⟨wr.heap.size, 1, none⟩ = some (.slice bad nb bcap) := by
                refine ⟨?_, ?_⟩ <;> simp [World.cell?, hbB]
              have hgy := HG2.out.trans hgx
              have hbl2 : w5.heap[V.heap.size]? = some (.cells #[.int .i64 l, .int .i64 e, .slice (some ⟨gs, os, none⟩) ns scap] 39 (0, 0)) := by
                rw [hgy.block hVlt (row_not HR'.out HBl.out (by decide))]
                exact HBl.out
              have hi1 : w5.cell? ⟨V.heap.size, 1, none⟩ = some (.int .i64 e) := by simp [World.cell?, hbl2]
              have hi2 : w5.cell? ⟨V.heap.size, 2, none⟩ = some (.slice (some ⟨gs, os, none⟩) ns scap) := by simp [World.cell?, hbl2]
              obtain ⟨n2, hn2⟩ : ∃ n2, n2 = (zs ++ [l'] ++ A1).length := ⟨_, rfl⟩
              rw [← hn2] at hown2
              have hn2' : m1 + 1 + A1.length = n2 := by rw [hn2, HZn.out]; simp; omega
              obtain ⟨g2, cap2, rfl, -, -⟩ := hown2.form (by omega)
              have hc2 : n2 ≤ cap2 := by
                rcases hown2.2 with ⟨h', _⟩ | ⟨_, _, _, h', _, _, h3, _⟩
                · cases h'
                · cases h'; exact h3
              have hK := HK.out
              clear HK
              refine hK.out _ _ hS5 (fun _ => ?_)
              clear hK K
              refine wpAnyH_take (i := 9) (v := .tuple #[.slice (some ⟨g2, 0, none⟩) n2 cap2, .bool W1]) rfl (by kernel_rfl) (by kernel_rfl) (by kernel_rfl) (fun _ _ _ h => h) (Or.inl ⟨by rfl, fun w hSw => by obtain ⟨hS2, hS3⟩ := hSw; go_simp⟩) hS5 ?_
              simp only [Act.put, List.getElem_toArray, List.getElem_cons_zero, List.getElem_cons_succ, List.setIfInBounds_toArray, List.set_cons_zero, List.set_cons_succ]
              refine wpAnyH_take (i := 10) (v := .slice (some ⟨g2, 0, none⟩) n2 cap2) rfl (by kernel_rfl) (by kernel_rfl) (by kernel_rfl) (fun _ _ _ h => h) (Or.inl ⟨by rfl, fun w hSw => by obtain ⟨hS2, hS3⟩ := hSw; go_simp⟩) hS5 ?_
              simp only [Act.put, List.getElem_toArray, List.getElem_cons_zero, List.getElem_cons_succ, List.setIfInBounds_toArray, List.set_cons_zero, List.set_cons_succ]
              refine wpAnyH_take (i := 11) (v := .bool W1) rfl (by kernel_rfl) (by kernel_rfl) (by kernel_rfl) (fun _ _ _ h => h) (Or.inl ⟨by rfl, fun w hSw => by obtain ⟨hS2, hS3⟩ := hSw; go_simp⟩) hS5 ?_
              simp only [Act.put, List.getElem_toArray, List.getElem_cons_zero, List.getElem_cons_succ, List.setIfInBounds_toArray, List.set_cons_zero, List.set_cons_succ]
              refine wpAnyH_take (i := 12) (v := .slice (some ⟨g2, 0, none⟩) n2 cap2) rfl (by kernel_rfl) (by kernel_rfl) (by kernel_rfl) (fun _ _ _ h => h) (Or.inl ⟨by rfl, fun w hSw => by obtain ⟨hS2, hS3⟩ := hSw; go_simp⟩) hS5 ?_
              simp only [Act.put, List.getElem_toArray, List.getElem_cons_zero, List.getElem_cons_succ, List.setIfInBounds_toArray, List.set_cons_zero]
              refine wpAnyH_take (i := 13) (v := .bool W1) rfl (by kernel_rfl) (by kernel_rfl) (by kernel_rfl) (fun _ _ _ h => h) (Or.inl ⟨by rfl, fun w hSw => by obtain ⟨hS2, hS3⟩ := hSw; go_simp⟩) hS5 ?_
              simp only [Act.put, List.getElem_toArray, List.getElem_cons_zero, List.getElem_cons_succ, List.setIfInBounds_toArray, List.set_cons_zero, List.set_cons_succ]
              refine wpAnyH_done (by kernel_rfl) ?_ _
              have hcut : w5.ownsRow base 3 1 (.slice (some ⟨g2, 0, none⟩) m1 cap2) m1 (nums zs) := by
                have := ownsRow_take (m := m1) hown2 (by omega)
                rwa [← nums_take, Nat.mul_one, List.append_assoc, HZn.out, List.take_left, ← HZn.out] at this
              have HN2 := Lib.hid hn2
              have HO2 := Lib.hid hown2
              have HCut := Lib.hid hcut
              have HGy := Lib.hid (HGr'.out.trans hgy)
              have HBl2 := Lib.hid hbl2
              obtain ⟨hS50, hS51⟩ := hS5
              have z1 : (0 : Int) ≤ m1 := by omega
              have z2 : (m1 : Int) ≤ cap2 := by omega
              clear hn2 hown2 hcut hgy hgx hG2 hbB hbl2 HBx2 HgA HbW HgW HbA HO1 HI2 HS' hS hS' hS4 b0 b1 c0 c1 c2
              have hyes : (W1 || ((l' : Int) == x) || (((j : Int) == (ns : Int) - 1) && ((e : Int) == x))) = true → zs ++ [l'] ++ A1 ++ ((ar x false e r').1 ++ (ar x true 0 r).1) = full ∧ (true || ((ar x false e r').2 || (ar x true 0 r).2)) = fh := fun h => by
                have h1 := HM'.out
                have h2 := HMb'.out
                rw [h] at h1 h2
                exact ⟨by rw [← h1]; simp, by rw [← h2]; simp⟩
              have hno : (W1 || ((l' : Int) == x) || (((j : Int) == (ns : Int) - 1) && ((e : Int) == x))) = false → zs ++ ((ar x false e r').1 ++ (ar x true 0 r).1) = full ∧ (B' || ((ar x false e r').2 || (ar x true 0 r).2)) = fh := fun h => by
                have h1 := HM'.out
                have h2 := HMb'.out
                rw [h] at h1 h2
                exact ⟨by rw [← h1]; simp, by rw [← h2]; simp⟩
              have hcs : (W1 = true) ∨ (W1 = false ∧ ((l' : Int) == x) = true) ∨ (W1 = false ∧ ((l' : Int) == x) = false ∧ ((j : Int) == (ns : Int) - 1) = true ∧ ((e : Int) == x) = true) ∨ (W1 = false ∧ ((l' : Int) == x) = false ∧ ((j : Int) == (ns : Int) - 1) = true ∧ ((e : Int) == x) = false) ∨ (W1 = false ∧ ((l' : Int) == x) = false ∧ ((j : Int) == (ns : Int) - 1) = false) := by
                cases W1 <;> cases ((l' : Int) == x) <;> cases ((j : Int) == (ns : Int) - 1) <;> cases ((e : Int) == x) <;> simp
              have HY := Lib.hid hyes
              have HNo := Lib.hid hno
              have hwr : IntKind.i64.wrap ((ns : Int) - 1) = (ns : Int) - 1 := IntWalk.i64_in _ (by omega)
              clear hyes hno
              rcases hcs with rfl | ⟨rfl, p1⟩ | ⟨rfl, p1, p2, p3⟩ | ⟨rfl, p1, p2, p3⟩ | ⟨rfl, p1, p2⟩
              · have HY := Lib.hid (HY.out (by simp))
                go_wp2_with fail
                go_roundw
                case rel => exact ⟨j + 1, true, zs ++ [l'] ++ A1, d'.snoc l' e' s', r', by go_num, rfl, by rw [HT'.out, app_snoc], by rw [len_snoc, HDk'.out], HY.out.1, HY.out.2, by rw [← HN2.out]; omega, hlt', by rw [← HN2.out]; exact HO2.out, HGy.out, HBl2.out⟩
                case measure => simp [intOf]; omega
              · have HY := Lib.hid (HY.out (by simp [p1]))
                go_wp2_with fail
                go_roundw
                case rel => exact ⟨j + 1, true, zs ++ [l'] ++ A1, d'.snoc l' e' s', r', by go_num, rfl, by rw [HT'.out, app_snoc], by rw [len_snoc, HDk'.out], HY.out.1, HY.out.2, by rw [← HN2.out]; omega, hlt', by rw [← HN2.out]; exact HO2.out, HGy.out, HBl2.out⟩
                case measure => simp [intOf]; omega
              · have HY := Lib.hid (HY.out (by rw [p2, p3]; simp))
                go_wp2_with fail
                go_roundw
                case rel => exact ⟨j + 1, true, zs ++ [l'] ++ A1, d'.snoc l' e' s', r', by go_num, rfl, by rw [HT'.out, app_snoc], by rw [len_snoc, HDk'.out], HY.out.1, HY.out.2, by rw [← HN2.out]; omega, hlt', by rw [← HN2.out]; exact HO2.out, HGy.out, HBl2.out⟩
                case measure => simp [intOf]; omega
              · have HNo := Lib.hid (HNo.out (by rw [p1, p3]; simp))
                go_wp2_with fail
                go_roundw
                case rel => exact ⟨j + 1, B', zs, d'.snoc l' e' s', r', by go_num, rfl, by rw [HT'.out, app_snoc], by rw [len_snoc, HDk'.out], HNo.out.1, HNo.out.2, by rw [← HZn.out]; omega, hlt', by rw [← HZn.out]; exact HCut.out, HGy.out.cut, HBl2.out⟩
                case measure => simp [intOf]; omega
              · have HNo := Lib.hid (HNo.out (by rw [p1, p2]; simp))
                go_wp2_with fail
                go_roundw
                case rel => exact ⟨j + 1, B', zs, d'.snoc l' e' s', r', by go_num, rfl, by rw [HT'.out, app_snoc], by rw [len_snoc, HDk'.out], HNo.out.1, HNo.out.2, by rw [← HZn.out]; omega, hlt', by rw [← HZn.out]; exact HCut.out, HGy.out.cut, HBl2.out⟩
                case measure => simp [intOf]; omega
            · have : j = ns := by omega
              subst this
              have hr1 : r1 = nil := by
                apply len_zero
                have := congrArg T.len ht'
                rw [len_app, hdk', ← Hns.out] at this
                omega
              subst hr1
              rw [show ar x false e nil = ([], false) by simp [ar], List.nil_append] at hm'
              rw [show ar x false e nil = ([], false) by simp [ar], Bool.false_or] at hmb'
              have HM' := Lib.hid hm'
              have HMb' := Lib.hid hmb'
              have HGr' := Lib.hid hGr'
              clear hm' hmb' hGr' hbl
              rw [show brs false nil = 0 from rfl, Nat.zero_add] at hlen'
              go_wp2_with fail
              go_roundw
              case rel => exact ⟨k + 1, B', zs, d.snoc l e s, r, by go_num, rfl, by rw [HT.out, app_snoc], by rw [len_snoc, HDk.out], HM'.out, HMb'.out, hlen', hlt, hrow', HGr.out.trans HGr'.out⟩
              case measure => simp [intOf]; omega
      · have : k = n := by omega
        subst this
        have hr0 : r0 = nil := by
          apply len_zero
          have := congrArg T.len ht
          rw [len_app, hdk, ← Hn.out] at this
          omega
        subst hr0
        have hM2 : ys = full := by rw [← hm]; simp [ar]
        have hM3 : B = fh := by rw [← hmb]; simp [ar]
        go_wp2_with fail
        rw [← hM2, ← hM3]
        exact bodyPost_ret (v := .tuple #[u0, .bool B]) (by simp [results, Try.results25, go_sem]) rfl ⟨_, rfl, hrow, hGr⟩

set_option maxRecDepth 100000 in
/-- Around: a new list. -/
theorem around_any (t : T) (v : Value) (x : Int) (w : World) (hv : Tr w v t) (hd : brs true t ≤ 1000000) : Calls Try.prog 15 #[v, .int .i64 x] w fun e w' => ∃ u, e = .returned u ∧ Ints w' u ((ar x true 0 t).1.map fun x : Nat => (x : Int)) ∧ Below w.heap.size w w' := by
  obtain ⟨full, hfull⟩ : ∃ full, full = (ar x true 0 t).1 := ⟨_, rfl⟩
  obtain ⟨fh, hfh⟩ : ∃ fh, fh = (ar x true 0 t).2 := ⟨_, rfl⟩
  have hc := around_all x (tsize t + 1) t (by omega) w.heap.size (.slice none 0 0) v [] w (Nat.le_refl _) hv (World.ownsRow_nil _ _ _ _) (by simpa using hd)
  rw [List.nil_append, ← hfull, ← hfh] at hc
  have HC := Lib.hid hc
  rw [← hfull]
  clear hfull hfh hc
  go_enter Try.func15, Try.ntmps15
  go_wp2_with fail
  refine HC.out.mono ?_
  rintro e w' ⟨u, rfl, hown, hG⟩
  have hB := hG.below (Nat.le_refl _) (fun k e => by cases e)
  go_wp2_with fail
  go_ret
  exact ⟨_, rfl, Ints.of_nums hown rfl, hB⟩
end Go.Proofs.Ytjmbchemdcmegaa
