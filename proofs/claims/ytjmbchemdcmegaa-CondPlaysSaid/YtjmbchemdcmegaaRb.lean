/- What is proved: what Depth and Flat tell of any tree. -/
import Derived.Test.YtjmbchemdcmegaaRa
namespace Go.Proofs.Ytjmbchemdcmegaa
open Go.RowKit
open Ct Ct.T

def tsize : T → Nat
  | .nil => 0
  | .cons _ _ s r => 1 + tsize s + tsize r
theorem tsize_app (a b : T) : tsize (a.app b) = tsize a + tsize b := by
  induction a with
  | nil => simp [T.app, tsize]
  | cons l e s r _ ih => simp [T.app, tsize, ih]; omega
theorem app_snoc (d : T) (l e : Nat) (s r : T) : d.app (cons l e s r) = (d.snoc l e s).app r := by rw [snoc, app_assoc]; rfl

theorem dep_app (b : Bool) (x y : T) : dep b (x.app y) = max (dep b x) (dep b y) := by
  induction x with
  | nil => cases b <;> simp [T.app, dep]
  | cons l e s r _ ih => cases b <;> simp only [T.app, dep, ih] <;> omega

theorem mid_rest {t d r : T} {l e : Nat} {s : T} (h : t = d.app (cons l e s r)) : t = (d.snoc l e s).app r := by rw [h, app_snoc]

set_option maxRecDepth 100000 in
set_option maxHeartbeats 8000000 in
theorem depth_all (N : Nat) : ∀ (t : T), tsize t < N → ∀ (v : Value) (w : World), Tr w v t → dep true t ≤ 1000000 →
    Calls Try.prog 18 #[v] w fun e w' => e = .returned (.int .i64 (dep true t : Nat)) ∧ Below w.heap.size w w' := by
  induction N with
  | zero => intro t h; omega
  | succ N ih =>
    intro t hN v w hv hd
    obtain ⟨ad, cap, rfl, h1, h2, h3⟩ := hv.form
    unfold maxLen at h2
    obtain ⟨n, hn⟩ : ∃ n, n = t.len := ⟨_, rfl⟩
    rw [← hn] at h1 h3 hv
    rw [← hn]
    have Hn := Lib.hid hn
    have HV := Lib.hid hv
    have H3 := Lib.hid h3
    have HN := Lib.hid hN
    have HD := Lib.hid hd
    have IH := Lib.hid ih
    clear hn hv h3 hN hd ih
    go_enter Try.func18, Try.ntmps18
    go_wp2_with fail
    go_loopw [3, 10] (fun m i wr => ∃ (k M : Nat) (d r : T), i = .int .i64 k ∧ m = .int .i64 M ∧ t = d.app r ∧ d.len = k ∧ max M (dep true r) = dep true t ∧ k ≤ n ∧ M ≤ 1000000 ∧ Below w.heap.size w wr) (fun _ i _ => n - (intOf i).toNat)
    case atStart => exact ⟨0, 0, nil, t, rfl, rfl, rfl, rfl, by omega, Nat.zero_le _, by omega, Below.refl _ _⟩
    case round =>
      obtain ⟨k, M, d, r0, rfl, rfl, ht, hdk, hm, hk, hM, hB⟩ := hrel
      have hle : M ≤ dep true t := by rw [← hm]; omega
      have hsB := hB.size
      by_cases hlt : k < n
      · obtain ⟨g, o, rfl, hg, _⟩ := H3.out (by omega)
        cases r0 with
        | nil => exact absurd (show t.len = k by rw [ht, app_nil, hdk]) (by rw [← Hn.out]; omega)
        | cons l e s r =>
        have hT := HV.out.below hB
        rw [ht] at hT
        obtain ⟨c0, c1, sv, c2, hs⟩ := TS.item hT
        rw [hdk] at c0 c1 c2
        obtain ⟨sad, scap, rfl, s1, s2, s3⟩ := hs.form
        unfold maxLen at s2
        have hsz : tsize s < N := by have := HN.out; rw [ht, tsize_app, tsize] at this; omega
        have hds : max M (max (dep false s) (dep true r)) = dep true t := by rw [← hm, dep]
        obtain ⟨ns, hns⟩ : ∃ ns, ns = s.len := ⟨_, rfl⟩
        rw [← hns] at s1 s3 hs c2
        have Hns := Lib.hid hns
        have HS := Lib.hid hs
        have S3 := Lib.hid s3
        have HSz := Lib.hid hsz
        have HDs := Lib.hid hds
        have HT := Lib.hid ht
        have HDk := Lib.hid hdk
        clear hns hs s3 hsz hds hT ht hdk hm
        go_wp2_with fail
        obtain ⟨V, hV⟩ : ∃ V, V = wr := ⟨_, rfl⟩
        subst hV
        have HB := Lib.hid hB
        go_loopw [3, 17] (fun m i wx => ∃ (j M' : Nat) (d' r' : T), i = .int .i64 j ∧ m = .int .i64 M' ∧ s = d'.app r' ∧ d'.len = j ∧ max M' (max (dep false r') (dep true r)) = dep true t ∧ j ≤ ns ∧ M' ≤ 1000000 ∧ Below V.heap.size V wx) (fun _ i _ => ns - (intOf i).toNat)
        case atStart => exact ⟨0, M, nil, s, rfl, rfl, rfl, rfl, HDs.out, Nat.zero_le _, hM, (Below.refl _ V).alloc (Nat.le_refl _) _⟩
        case round =>
          obtain ⟨j, M', d', r1, rfl, rfl, ht', hdk', hm', hj, hM', hB'⟩ := hrel
          have hsB' := hB'.size
          by_cases hlt' : j < ns
          · obtain ⟨gs, os, rfl, hgs, _⟩ := S3.out (by omega)
            cases r1 with
            | nil => exact absurd (show s.len = j by rw [ht', app_nil, hdk']) (by rw [← Hns.out]; omega)
            | cons l' e' s' r' =>
            have hT := TS.below HS.out hB'
            rw [ht'] at hT
            obtain ⟨b0, bv, b1, hs'⟩ := TS.branch hT
            rw [hdk'] at b0 b1
            have hsz' : tsize s' < N := by have := HSz.out; rw [ht', tsize_app, tsize] at this; omega
            have e0 : dep false (cons l' e' s' r') = max (1 + dep true s') (dep false r') := rfl
            rw [e0] at hm'
            have hle := HD.out
            have hq : dep true s' ≤ 1000000 := by omega
            obtain ⟨bad, bcap, rfl, -⟩ := hs'.form
            have HS' := Lib.hid (hs'.wider hsB')
            obtain ⟨nb, hnb⟩ : ∃ nb, nb = s'.len := ⟨_, rfl⟩
            rw [← hnb] at HS' b1
            clear hnb
            have HSz' := Lib.hid hsz'
            have HT' := Lib.hid ht'
            have HDk' := Lib.hid hdk'
            obtain ⟨q, hqq⟩ : ∃ q, q = dep true s' := ⟨_, rfl⟩
            rw [← hqq] at hm' hq
            have HQ := Lib.hid hqq
            clear hT hs' hsz' ht' hdk' hqq e0
            go_wp2_with fail
            refine (IH.out s' HSz'.out _ _ (Tr.below HS'.out ((Below.refl _ wr).alloc (Nat.le_refl _) _)) (by rw [← HQ.out]; exact hq)).mono ?_
            rintro e w1 ⟨rfl, hB1⟩
            rw [← HQ.out]
            have hBx := Below.then (hB'.alloc hsB' (.cells #[.int .i64 l', .slice bad nb bcap] 41)) hB1
            clear b0 b1 hB1
            go_wp2_with fail
            go_roundw
            case rel =>
              refine ⟨j + 1, max M' (1 + q), d'.snoc l' e' s', r', by go_num, ?_, by rw [HT'.out, app_snoc], by rw [len_snoc, HDk'.out], by rw [← hm']; omega, hlt', by omega, hBx⟩
              go_num
            case measure => simp [intOf]; omega
          · have : j = ns := by omega
            subst this
            have hr1 : r1 = nil := by
              apply len_zero
              have := congrArg T.len ht'
              rw [len_app, hdk', ← Hns.out] at this
              omega
            subst hr1
            go_wp2_with fail
            go_roundw
            case rel =>
              refine ⟨k + 1, M', d.snoc l e s, r, by go_num, rfl, by rw [HT.out, app_snoc], by rw [len_snoc, HDk.out], ?_, hlt, hM', Below.then HB.out hB'⟩
              rw [← hm']; simp only [dep]; omega
            case measure => simp [intOf]; omega
      · have : k = n := by omega
        subst this
        have hr0 : r0 = nil := by
          apply len_zero
          have := congrArg T.len ht
          rw [len_app, hdk, ← Hn.out] at this
          omega
        subst hr0
        have hM2 : M = dep true t := by rw [← hm]; simp [dep]
        go_wp2_with fail
        go_ret
        rw [← hM2]
        exact ⟨rfl, hB⟩

theorem depth_any (t : T) (v : Value) (w : World) (hv : Tr w v t) (hd : dep true t ≤ 1000000) : Calls Try.prog 18 #[v] w fun e w' => e = .returned (.int .i64 (dep true t : Nat)) ∧ Below w.heap.size w w' :=
  depth_all (tsize t + 1) t (by omega) v w hv hd


/-- A world in which a row has grown, and nothing else that was there has changed. -/
structure Gr (w w' : World) (u u' : Value) : Prop where
  g : w.grownBy w' u.ownBlock
  own : ∀ k, u'.ownBlock = some k → u.ownBlock = some k ∨ w.heap.size ≤ k
theorem Gr.refl (w : World) (u : Value) : Gr w w u u := ⟨⟨rfl, rfl, rfl, Nat.le_refl _, fun _ _ _ => rfl⟩, fun _ h => .inl h⟩
theorem Gr.block {w w' : World} {u u' : Value} (h : Gr w w' u u') {k : Nat} (hk : k < w.heap.size) (hn : u.ownBlock ≠ some k) : w'.heap[k]? = w.heap[k]? := h.g.block k hk (fun e => hn e.symm)
theorem Gr.trans {w w1 w2 : World} {u u1 u2 : Value} (h : Gr w w1 u u1) (k : Gr w1 w2 u1 u2) : Gr w w2 u u2 := by
  refine ⟨⟨k.g.os.trans h.g.os, k.g.tape.trans h.g.tape, k.g.output.trans h.g.output, Nat.le_trans h.g.size k.g.size, fun j hj hn => ?_⟩, fun j hj => ?_⟩
  · refine (k.g.block j (Nat.lt_of_lt_of_le hj h.g.size) fun e => ?_).trans (h.g.block j hj hn)
    rcases h.own j e.symm with h' | h'
    · exact hn h'.symm
    · omega
  · rcases k.own j hj with h' | h'
    · exact h.own j h'
    · exact .inr (Nat.le_trans h.g.size h')
theorem Gr.alloc (w : World) (u : Value) (o : Obj) : Gr w (w.alloc o) u u :=
  ⟨⟨rfl, rfl, rfl, by simp, fun k hk _ => Below.heap_alloc w o k hk⟩, fun _ h => .inl h⟩
theorem Gr.lies {w w' : World} {u : Value} {g n cap : Nat} (h : w.grownBy w' u.ownBlock) (hg : u.ownBlock = some g ∨ g = w.heap.size) : Gr w w' u (.slice (some ⟨g, 0, none⟩) n cap) := by
  refine ⟨h, fun k hk => ?_⟩
  simp only [Value.ownBlock, Option.some.injEq] at hk
  subst hk
  rcases hg with hg | hg
  · exact .inl hg
  · exact .inr (by omega)
theorem Gr.below {w w' : World} {u u' : Value} (h : Gr w w' u u') {B : Nat} (hB : B ≤ w.heap.size) (hu : ∀ k, u.ownBlock = some k → B ≤ k) : Below B w w' :=
  ⟨h.g.os, h.g.tape, h.g.output, h.g.size, fun k hk => h.block (by omega) fun e => by have := hu k e; omega⟩
theorem row_not {w : World} {base e t sz n k : Nat} {v : Value} {xs : List Value} {cs : Array Value} {fz : Nat × Nat} (h : w.ownsRow base e sz v n xs) (hb : w.heap[k]? = some (.cells cs t fz)) (ht : t ≠ e) : v.ownBlock ≠ some k := fun hk => by
  rcases h.2 with ⟨h', _⟩ | ⟨g', cap', cur, h', _, h2', _⟩
  · rw [h'] at hk; cases hk
  · rw [h'] at hk
    simp only [Value.ownBlock, Option.some.injEq] at hk
    rw [hk, hb] at h2'
    injection h2' with h2'
    injection h2' with _ h3 _
    exact ht h3
theorem row_fresh {w : World} {base e sz n : Nat} {v : Value} {xs : List Value} (h : w.ownsRow base e sz v n xs) {k : Nat} (hk : w.heap.size ≤ k) : v.ownBlock ≠ some k := fun e => by
  have := (h.lt k e).2; omega

def FlatPost (base : Nat) (w : World) (u : Value) (xs : List Nat) (e : Ending) (w' : World) : Prop := ∃ u', e = .returned u' ∧ w'.ownsRow base 3 1 u' xs.length (nums xs) ∧ Gr w w' u u'

theorem flat_cons_nil (l e : Nat) (r : T) : flat true (cons l e nil r) = l :: flat true r := by simp [flat]
theorem flat_cons_brs (l e : Nat) (s r : T) (h : s ≠ nil) : flat true (cons l e s r) = flat false s ++ e :: flat true r := by
  cases s with
  | nil => exact absurd rfl h
  | cons _ _ _ _ => simp [flat]
theorem flat_branch (l e : Nat) (s r : T) : flat false (cons l e s r) = l :: (flat true s ++ flat false r) := by simp [flat]

set_option maxRecDepth 100000 in
set_option maxHeartbeats 8000000 in
theorem flat_all (N : Nat) : ∀ (t : T), tsize t < N → ∀ (base : Nat) (u v : Value) (xs : List Nat) (w : World), base ≤ w.heap.size → TS w (· < base) true v t → w.ownsRow base 3 1 u xs.length (nums xs) → xs.length + (flat true t).length ≤ 1000000 →
    Calls Try.prog 24 #[u, v] w (FlatPost base w u (xs ++ flat true t)) := by
  induction N with
  | zero => intro t h; omega
  | succ N ih =>
    intro t hN base u v xs w hbase hv hrow0 hd
    obtain ⟨i0, hi, hz0, hz1, hz2⟩ := info_parts info3
    obtain ⟨ad, cap, rfl, h1, h2, h3⟩ := hv.form
    unfold maxLen at h2
    obtain ⟨n, hn⟩ : ∃ n, n = t.len := ⟨_, rfl⟩
    rw [← hn] at h1 h3 hv
    rw [← hn]
    obtain ⟨full, hfull⟩ : ∃ full, full = xs ++ flat true t := ⟨_, rfl⟩
    rw [← hfull]
    have hfl : full.length ≤ 1000000 := by rw [hfull, List.length_append]; exact hd
    have hub := fun k e => (hrow0.lt k e).1
    have Hfull := Lib.hid hfull
    have Hn := Lib.hid hn
    have HV := Lib.hid hv
    have H3 := Lib.hid h3
    have HN := Lib.hid hN
    have IH := Lib.hid ih
    have HR0 := Lib.hid hrow0
    have HUb := Lib.hid hub
    clear hn hv h3 hN hd ih hfull hrow0 hub
    go_enter Try.func24, Try.ntmps24
    go_wp2_with fail
    go_loopw [0, 11] (fun m i wr => ∃ (k : Nat) (ys : List Nat) (d r : T), i = .int .i64 k ∧ t = d.app r ∧ d.len = k ∧ ys ++ flat true r = full ∧ k ≤ n ∧ wr.ownsRow base 3 1 m ys.length (nums ys) ∧ Gr w wr u m) (fun _ i _ => n - (intOf i).toNat)
    case atStart => exact ⟨0, xs, nil, t, rfl, rfl, rfl, Hfull.out.symm, Nat.zero_le _, HR0.out, Gr.refl _ _⟩
    case round =>
      obtain ⟨k, ys, d, r0, rfl, ht, hdk, hm, hk, hrow, hGr⟩ := hrel
      have hB := hGr.below hbase HUb.out
      have hsB := hB.size
      have hlen := congrArg List.length hm
      rw [List.length_append] at hlen
      by_cases hlt : k < n
      · obtain ⟨g, o, rfl, hg, _⟩ := H3.out (by omega)
        cases r0 with
        | nil => exact absurd (show t.len = k by rw [ht, app_nil, hdk]) (by rw [← Hn.out]; omega)
        | cons l e s r =>
        have hT := HV.out.below hB
        rw [ht] at hT
        obtain ⟨c0, c1, sv, c2, hs⟩ := TS.item hT
        rw [hdk] at c0 c1 c2
        obtain ⟨sad, scap, rfl, s1, s2, s3⟩ := hs.form
        unfold maxLen at s2
        have hsz : tsize s < N := by have := HN.out; rw [ht, tsize_app, tsize] at this; omega
        have HT := Lib.hid ht
        have HDk := Lib.hid hdk
        have HGr := Lib.hid hGr
        clear hGr
        cases s with
        | nil =>
          rw [flat_cons_nil] at hm hlen
          rw [List.length_cons] at hlen
          have HM := Lib.hid hm
          simp only [T.len] at c2 s1
          clear hT ht hdk hm hs s3 hsz
          go_wp2_with (at_builtin; refine wpList_append_lies _ rfl _ _ 22 rfl base 3 i0 (.int .i64 0) 1 8 Try.underlying22 hi hz0 hz1 hz2 rfl (by decide) _ _ _ rfl ((hrow.alloc _).alloc _) ⟨wr.heap.size + 1, 0, none⟩ 1 1 [.int .i64 l] rfl rfl (by have := news1 (wr.alloc (.cells #[.int .i64 l, .int .i64 e, .slice sad 0 scap] 39)) (.int .i64 l) 3; simpa using this) (by simp [Value.oneCell']) (by decide) (by unfold maxLen; omega) (by omega) (by simp; omega) _ rfl ?_; intro g' cap' w' hown' hgrow hat _)
          go_roundw
          case rel =>
            refine ⟨k + 1, ys ++ [l], d.snoc l e nil, r, by go_num, by rw [HT.out, app_snoc], by rw [len_snoc, HDk.out], by rw [List.append_assoc]; exact HM.out, hlt, ?_, ?_⟩
            · rw [nums_append, List.length_append]; exact hown'
            · exact HGr.out.trans (((Gr.alloc _ _ _).trans (Gr.alloc _ _ _)).trans (Gr.lies hgrow hat))
          case measure => simp [intOf]; omega
        | cons l2 e2 s2' r2 =>
        obtain ⟨ss, hss⟩ : ∃ ss, ss = cons l2 e2 s2' r2 := ⟨_, rfl⟩
        rw [← hss] at hm hlen hs c2 s1 s3 hsz HT
        have hne : ss ≠ nil := by rw [hss]; simp
        have hpos : 0 < ss.len := by rw [hss, T.len]; omega
        rw [flat_cons_brs _ _ _ _ hne] at hm hlen
        rw [List.length_append, List.length_cons] at hlen
        clear hss
        obtain ⟨ns, hns⟩ : ∃ ns, ns = ss.len := ⟨_, rfl⟩
        rw [← hns] at s1 s3 hs c2 hpos
        have hub' := fun k e => (hrow.lt k e).1
        have Hns := Lib.hid hns
        have HS := Lib.hid hs
        have S3 := Lib.hid s3
        have HSz := Lib.hid hsz
        have HM := Lib.hid hm
        have HUb' := Lib.hid hub'
        have q1 : ((ns : Int) == 0) = false := by simp; omega
        clear hns hs s3 hsz hT ht hdk hm hne hub'
        go_wp2_with fail
        obtain ⟨V, hV⟩ : ∃ V, V = wr := ⟨_, rfl⟩
        subst hV
        obtain ⟨m0, hm0⟩ : ∃ m0, m0 = u0 := ⟨_, rfl⟩
        subst hm0
        go_loopw [0, 27] (fun m i wx => ∃ (j : Nat) (zs : List Nat) (d' r' : T), i = .int .i64 j ∧ ss = d'.app r' ∧ d'.len = j ∧ zs ++ (flat false r' ++ e :: flat true r) = full ∧ j ≤ ns ∧ wx.ownsRow base 3 1 m zs.length (nums zs) ∧ Gr V wx m0 m ∧ wx.heap[V.heap.size]? = some (.cells #[.int .i64 l, .int .i64 e, .slice sad ns scap] 39 (0, 0))) (fun _ i _ => ns - (intOf i).toNat)
        case atStart => exact ⟨0, ys, nil, ss, rfl, rfl, rfl, HM.out, Nat.zero_le _, hrow.alloc _, Gr.alloc _ _ _, heap_alloc_new V _⟩
        case round =>
          obtain ⟨j, zs, d', r1, rfl, ht', hdk', hm', hj, hrow', hGr', hbl⟩ := hrel
          have hB' := hGr'.below (by omega) HUb'.out
          have hsB' := hB'.size
          have hlen' := congrArg List.length hm'
          rw [List.length_append, List.length_append, List.length_cons] at hlen'
          have hVlt := lt_of_block hbl
          by_cases hlt' : j < ns
          · obtain ⟨gs, os, rfl, hgs, _⟩ := S3.out (by omega)
            cases r1 with
            | nil => exact absurd (show ss.len = j by rw [ht', app_nil, hdk']) (by rw [← Hns.out]; omega)
            | cons l' e' s' r' =>
            have hT := TS.below HS.out hB'
            rw [ht'] at hT
            obtain ⟨b0, bv, b1, hs'⟩ := TS.branch hT
            rw [hdk'] at b0 b1
            have hsz' : tsize s' < N := by have := HSz.out; rw [ht', tsize_app, tsize] at this; omega
            rw [flat_branch] at hm' hlen'
            rw [List.length_cons, List.length_append] at hlen'
            obtain ⟨bad, bcap, rfl, -⟩ := hs'.form
            obtain ⟨nb, hnb⟩ : ∃ nb, nb = s'.len := ⟨_, rfl⟩
            rw [← hnb] at hs' b1
            have HS' := Lib.hid hs'
            have HSz' := Lib.hid hsz'
            have HT' := Lib.hid ht'
            have HDk' := Lib.hid hdk'
            have HM' := Lib.hid hm'
            have HGr' := Lib.hid hGr'
            have HBl := Lib.hid hbl
            clear hnb hT hs' hsz' ht' hdk' hm' hGr' hbl
            go_wp2_with (at_builtin; refine wpList_append_lies _ rfl _ _ 22 rfl base 3 i0 (.int .i64 0) 1 8 Try.underlying22 hi hz0 hz1 hz2 rfl (by decide) _ _ _ rfl ((hrow'.alloc _).alloc _) ⟨wr.heap.size + 1, 0, none⟩ 1 1 [.int .i64 l'] rfl rfl (by have := news1 (wr.alloc (.cells #[.int .i64 l', .slice bad nb bcap] 41)) (.int .i64 l') 3; simpa using this) (by simp [Value.oneCell']) (by decide) (by unfold maxLen; omega) (by omega) (by simp; omega) _ rfl ?_; intro g' cap' w' hown' hgrow hat _; have cb : w'.cell? ⟨wr.heap.size, 1, none⟩ = some (.slice bad nb bcap) := hgrow.cell (by simp) (fun e => row_fresh hrow' (Nat.le_refl _) e.symm))
            have hG1 := ((Gr.alloc wr u0 (.cells #[.int .i64 l', .slice bad nb bcap] 41)).trans (Gr.alloc _ _ (.cells #[.int .i64 l'] 3))).trans (Gr.lies (n := zs.length + 1) (cap := cap') hgrow hat)
            have hB1 := hG1.below (show base ≤ wr.heap.size by omega) (fun k e => (hrow'.lt k e).1)
            have hsz1 := hG1.g.size
            refine (IH.out s' HSz'.out base _ _ (zs ++ [l']) w' (by omega) (HS'.out.below hB1) (by rw [nums_append, List.length_append]; exact hown') (by rw [List.length_append]; simp only [List.length_cons, List.length_nil]; omega)).mono ?_
            rintro e1 w2 ⟨u2, rfl, hown2, hG2⟩
            have hbl2 : w2.heap[V.heap.size]? = some (.cells #[.int .i64 l, .int .i64 e, .slice (some ⟨gs, os, none⟩) ns scap] 39 (0, 0)) := by
              rw [(hG1.trans hG2).block hVlt (row_not hrow' HBl.out (by decide))]
              exact HBl.out
            clear b0 b1 cb hgrow hown' hat
            go_wp2_with fail
            go_roundw
            case rel =>
              refine ⟨j + 1, zs ++ [l'] ++ flat true s', d'.snoc l' e' s', r', by go_num, by rw [HT'.out, app_snoc], by rw [len_snoc, HDk'.out], ?_, hlt', hown2, (HGr'.out.trans hG1).trans hG2, hbl2⟩
              rw [← HM'.out]; simp
            case measure => simp [intOf]; omega
          · have : j = ns := by omega
            subst this
            have hr1 : r1 = nil := by
              apply len_zero
              have := congrArg T.len ht'
              rw [len_app, hdk', ← Hns.out] at this
              omega
            subst hr1
            rw [show flat false nil = [] from rfl, List.nil_append] at hm'
            have HM' := Lib.hid hm'
            have HGr' := Lib.hid hGr'
            have ce : wr.cell? ⟨V.heap.size, 1, none⟩ = some (.int .i64 e) := by simp [World.cell?, hbl]
            clear hm' hGr' hbl
            go_wp2_with (at_builtin; refine wpList_append_lies _ rfl _ _ 22 rfl base 3 i0 (.int .i64 0) 1 8 Try.underlying22 hi hz0 hz1 hz2 rfl (by decide) _ _ _ rfl (hrow'.alloc _) ⟨wr.heap.size, 0, none⟩ 1 1 [.int .i64 e] rfl rfl (news1 _ _ _) (by simp [Value.oneCell']) (by decide) (by unfold maxLen; omega) (by omega) (by simp; omega) _ rfl ?_; intro g' cap' w' hown' hgrow hat _)
            go_roundw
            case rel =>
              refine ⟨k + 1, zs ++ [e], d.snoc l e ss, r, by go_num, by rw [HT.out, app_snoc], by rw [len_snoc, HDk.out], by rw [List.append_assoc]; exact HM'.out, hlt, ?_, ?_⟩
              · rw [nums_append, List.length_append]; exact hown'
              · exact HGr.out.trans (HGr'.out.trans ((Gr.alloc _ _ _).trans (Gr.lies hgrow hat)))
            case measure => simp [intOf]; omega
      · have : k = n := by omega
        subst this
        have hr0 : r0 = nil := by
          apply len_zero
          have := congrArg T.len ht
          rw [len_app, hdk, ← Hn.out] at this
          omega
        subst hr0
        have hM2 : ys = full := by rw [← hm]; simp [flat]
        go_wp2_with fail
        go_ret
        rw [← hM2]
        exact ⟨_, rfl, hrow, hGr⟩

set_option maxRecDepth 100000 in
/-- Flat: a new list. -/
theorem flat_any (t : T) (v : Value) (w : World) (hv : Tr w v t) (hd : (flat true t).length ≤ 1000000) : Calls Try.prog 14 #[v] w fun e w' => ∃ u, e = .returned u ∧ Ints w' u ((flat true t).map fun x : Nat => (x : Int)) ∧ Below w.heap.size w w' := by
  obtain ⟨full, hfull⟩ : ∃ full, full = flat true t := ⟨_, rfl⟩
  rw [← hfull]
  go_enter Try.func14, Try.ntmps14
  go_wp2_with fail
  refine (flat_all (tsize t + 1) t (by omega) w.heap.size _ v [] w (Nat.le_refl _) hv (World.ownsRow_nil _ _ _ _) (by simpa using hd)).mono ?_
  rintro e w' ⟨u, rfl, hown, hG⟩
  rw [List.nil_append, ← hfull] at hown
  have hB := hG.below (Nat.le_refl _) (fun k e => by cases e)
  go_wp2_with fail
  go_ret
  exact ⟨_, rfl, Ints.of_nums hown rfl, hB⟩
end Go.Proofs.Ytjmbchemdcmegaa
