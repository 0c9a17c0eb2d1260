/- What is proved: the iterator over the lines of files. (and what stands with it) -/
import Derived.Test.YtdopmmnabhcigaaGreatDoorGg
import Derived.Test.YtdopmmnabhcigaaGreatDoorGh
import Derived.Test.YtdopmmnabhcigaaGreatDoorGf
import Derived.IntWalk
import Derived.Deep.QuietTactic
import Derived.BigQuiet

/- What is proved: the iterator over the lines of files. -/
namespace Go.Proofs.YtdopmmnabhcigaaGreatDoor
open Go.RowKit Go.Shelf

attribute [local go_sem] Oper.semAt_some

namespace Wo
theorem toks_len (n : Nat) (t : ByteArray) : (toks n t).length ≤ t.size := by
  have h1 := Lx.tk_length false (Sp.left 0 t.data.toList)
  have h2 := Sp.left_le 0 t.data.toList
  rw [size_list] at h2
  unfold toks
  rw [List.length_map]
  omega
theorem toksFrom_small : ∀ (fs : Fs) (n : Nat), (∀ f ∈ fs, f.2.size ≤ 1000 ∧ f.1.size ≤ 1000) → ∀ ts ∈ toksFrom n fs, ts.length ≤ 1000
  | [], n, _, ts, h => by cases h
  | f :: r, n, hs, ts, h => by
    rw [toksFrom] at h
    rcases List.mem_cons.1 h with rfl | h
    · exact Nat.le_trans (toks_len n f.2) (hs f List.mem_cons_self).1
    · exact toksFrom_small r (n + 1) (fun g hg => hs g (List.mem_cons_of_mem _ hg)) ts h
theorem at_flat {α β : Type} (T : List α) (f : α → List β) (j k : Nat) (ts : α) (x : β) (o : Nat) (hT : T[j]? = some ts) (hx : (f ts)[k]? = some x) (ho : o = ((T.take j).flatMap f ++ (f ts).take k).length) : (T.flatMap f)[o]? = some x := by
  obtain ⟨hj, e⟩ := List.getElem?_eq_some_iff.1 hT
  obtain ⟨hk, _⟩ := List.getElem?_eq_some_iff.1 hx
  have hs : T = T.take j ++ ts :: T.drop (j + 1) := by
    rw [← e, ← List.drop_eq_getElem_cons hj, List.take_append_drop]
  have hf : T.flatMap f = (T.take j).flatMap f ++ (f ts ++ (T.drop (j + 1)).flatMap f) := by
    conv => lhs; rw [hs]
    rw [List.flatMap_append, List.flatMap_cons]
  rw [hf, ho, List.length_append, List.length_take, Nat.min_eq_left (by omega), List.getElem?_append_right (by omega), Nat.add_sub_cancel_left, List.getElem?_append_left hk]
  exact hx
end Wo

/-- What a round over files' lines is told. -/
def ToldL (fs : Wo.Fs) (pre : List (Value × Ln)) (x : Value × Ln) (W : World) : Prop := Ks W x.1 x.2.toks ∧ (Wo.lns fs)[pre.length]? = some x.2 ∧ Glob W

/-- Between two rounds over files' tokens: what the lines' own rounds have made of it. -/
def Mid (fs : Wo.Fs) (J : List (Value × Ln) → World → Prop) (Bx l : Nat) (pre : List (Value × List K)) (W : World) : Prop :=
  (∃ out, J out W ∧ out.map Prod.snd = ((Wo.toksFrom 0 fs).take pre.length).flatMap Dx.lines) ∧ Boxed W Bx 61 (.func (.yield l) #[] #[])
theorem mid_own {fs : Wo.Fs} {J : List (Value × Ln) → World → Prop} {Bx l B B' : Nat} (hJ : OwnFrom B J) (hB : B ≤ B') : OwnFrom B' (Mid fs J Bx l) := fun s W W' row h hg hr => by
  obtain ⟨⟨out, h1, h2⟩, h3⟩ := h
  refine ⟨⟨out, hJ out W W' row h1 hg fun r e => ⟨Nat.le_trans hB (hr r e).1, (hr r e).2⟩, h2⟩, ?_⟩
  exact h3.kept hg fun e => by
    obtain ⟨_, o, ho, hc⟩ := hr Bx e.symm
    rw [show W.heap[Bx]? = _ from h3] at ho
    cases ho
    cases hc

set_option maxRecDepth 100000 in
set_option maxHeartbeats 4000000 in
theorem wlines1_in (n : Nat) (hn : 3 ≤ n) (l Bn : Nat) (v : Value) (fs : Wo.Fs) (hsm : Wo.Small fs) (J : List (Value × Ln) → World → Prop) (W : World) (hJ : OwnFrom W.heap.size J)
    (hY : ∀ pre x V, J pre V → ToldL fs pre x V → YieldAt Fence.wide (n - 1) Tryz.prog l #[lnAgg x.2.kind x.2.first x.2.n x.1] V fun e V' => e = .returned (.bool true) ∧ J (pre ++ [x]) V' ∧ KeepC V V' ∧ KeepsFrom W.heap.size V V')
    (hBn : W.cell? ⟨Bn, 0, none⟩ = some v) (hv : Fls W v fs) (hG : Glob W) (h0 : J [] W) :
    CallsIn Fence.wide n Tryz.prog 30 #[.func (.yield l) #[] #[], .pointer (some ⟨Bn, 0, none⟩)] W fun e W' => (∃ v, e = .returned v) ∧ ∃ ys, ys.map Prod.snd = Wo.lns fs ∧ J ys W' := by
  obtain ⟨ad, cap, rfl, hc1, hc2, -⟩ := id hv
  have h1 : 1 ≤ n := by omega
  obtain ⟨N, hN⟩ : ∃ N, N = fs.length := ⟨_, rfl⟩
  rw [← hN] at hBn hc1
  have hv' : Fls W (.slice ad N cap) fs := by rw [hN]; exact hv
  have hBl := lt_of_cell hBn
  have b0 := Boxed.new W 61 (.func (.yield l) #[] #[])
  have hb0 : (W.alloc (.cells #[.func (.yield l) #[] #[]] 61)).cell? ⟨Bn, 0, none⟩ = some (.slice ad N cap) := Lib.cell?_alloc_some _ hBn
  refine callsIn_of_wp_marks Tryz.func30 rfl trivial ?_ rfl
  simp only [Tryz.ntmps30, List.size_toArray, List.length_cons, List.length_nil, Nat.reduceAdd, Nat.reduceSub, Array.replicate_succ, Array.replicate_zero, List.push_toArray, List.append_toArray, List.nil_append, List.cons_append]
  have HG := Lib.hid hG
  have HJ := Lib.hid hJ
  have HY := Lib.hid hY
  have H0 := Lib.hid h0
  have HV := Lib.hid hv'
  have HSm := Lib.hid hsm
  clear hN hv hv' hG hJ hY h0 hsm
  gi_wp2_with fail
  refine ⟨trivial, (wtokens_in _ ad N cap _).mono ?_⟩
  rintro e w' ⟨rfl, rfl⟩
  gi_wp2_with fail
  have bt := Boxed.new (W.alloc (.cells #[.func (.yield l) #[] #[]] 61)) 22 (.slice ad N cap)
  have bb := b0.alloc (.cells #[.slice ad N cap] 22)
  simp only [World.size_alloc] at bt
  have hB0 : Below W.heap.size W ((W.alloc (.cells #[.func (.yield l) #[] #[]] 61)).alloc (.cells #[.slice ad N cap] 22)) := ((Below.refl _ W).alloc (Nat.le_refl _) _).alloc (by simp) _
  have hsz : ((W.alloc (.cells #[.func (.yield l) #[] #[]] 61)).alloc (.cells #[.slice ad N cap] 22)).heap.size = W.heap.size + 2 := by simp
  obtain ⟨W0, hW0⟩ : ∃ W0, (W.alloc (.cells #[.func (.yield l) #[] #[]] 61)).alloc (.cells #[.slice ad N cap] 22) = W0 := ⟨_, rfl⟩
  rw [hW0] at bt bb hB0 hsz ⊢
  clear hW0 hb0 hBn b0
  refine wpIn_rangeG rfl h1 (gf := 35) (lb := #[.pointer (some ⟨W.heap.size + 1, 0, none⟩)]) rfl trivial (enters_of Tryz.func35 (by kernel_rfl) rfl)
    (wtokens_seq (n - 1) (by omega) (W.heap.size + 1) _ fs HSm.out W0 bt.cell (HV.out.below hB0) (HG.out.later hB0)) (Below.refl _ _) (fun _ => rfl)
    (Mid fs J W.heap.size l) (mid_own HJ.out (by omega)) ⟨⟨[], own_below HJ.out H0.out hB0, rfl⟩, bb⟩
    (fun pre x a' V => Ks V x.1 x.2 ∧ (Wo.toksFrom 0 fs)[pre.length]? = some x.2 ∧ Glob V ∧ a' = { tmps := #[.func (.yield l) #[] #[], .pointer (some ⟨Bn, 0, none⟩), .pointer (some ⟨W.heap.size, 0, none⟩), x.1, undef, undef, .slice ad N cap, .func (.func 35) #[] #[.pointer (some ⟨W.heap.size + 1, 0, none⟩)], x.1, undef, undef, undef, undef, undef, undef, undef, undef, undef, undef, undef, undef], defers := [] })
    (fun pre x a' _ X Y row hs hg hr => by
      have hk := KeepC.grown hg fun r e => (hr r e).2
      exact ⟨hs.1.keepC hk, hs.2.1, hs.2.2.1.keepC hk, hs.2.2.2⟩)
    ?assign ?body ?done
  case assign =>
    rintro l2 pre x V K hs hi ⟨hk, htk, hGv⟩ hK
    have HI := Lib.hid hi
    have HK := Lib.hid hK
    clear hi hK
    gi_wp2
    exact HK.out _ _ (KeepsFrom.refl _ _) (KeepC.refl _) HI.out ⟨hk, htk, hGv, rfl⟩
  case body =>
    rintro l2 pre ⟨u, ts⟩ a' V hl2 - ⟨⟨out, hj, ho⟩, hb⟩ ⟨hk, htk, hGv, rfl⟩
    have HSz := Lib.hid hsz
    clear hsz
    dsimp only at hk htk
    have hts := Wo.toksFrom_small fs 0 HSm.out.2 ts (List.mem_of_getElem? htk)
    have hcl := Dx.cuts_length ts
    have key := CallsIn.inRound l2 (callsIn_wide (n := n - 1 - 1 - 1) |>.2 (lines_any u ts V hk (by omega) hGv))
    have HTk := Lib.hid htk
    have HO := Lib.hid ho
    have Hj := Lib.hid hj
    have HGv := Lib.hid hGv
    have Hb := Lib.hid hb
    clear hk htk ho hj hGv hb
    dsimp only
    gi_wp2_with fail
    refine ⟨trivial, fun h => by simp [Fence.wide] at h, key.mono ?_⟩
    rintro e w1 ⟨u1, rfl, hls, hB1⟩
    obtain ⟨ad1, cap1, rfl, hcc1, hcc2, -⟩ := id hls
    unfold maxLen at hcc2
    have hM : (Dx.lines ts).length ≤ 1000 := by unfold Dx.lines; rw [List.length_map]; omega
    obtain ⟨M, hMd⟩ : ∃ M, M = (Dx.lines ts).length := ⟨_, rfl⟩
    have hls' : Lns w1 (.slice ad1 M cap1) (Dx.lines ts) := by rw [hMd]; exact hls
    rw [← hMd] at hcc1 hM ⊢
    have HM := Lib.hid hMd
    have HLs := Lib.hid hls'
    have HB1 := Lib.hid hB1
    clear key hls hls' hMd hB1 hcl
    gi_wp2_with fail
    gi_loopw [12] (fun i wr => ∃ (k : Nat) (out2 : List (Value × Ln)), i = .int .i64 k ∧ k ≤ M ∧ J out2 wr ∧ out2.map Prod.snd = ((Wo.toksFrom 0 fs).take pre.length).flatMap Dx.lines ++ (Dx.lines ts).take k ∧ KeepC w1 wr ∧ KeepsFrom W0.heap.size V wr) (fun i _ => M - (intOf i).toNat)
    case atStart => exact ⟨0, out, rfl, Nat.zero_le _, own_below HJ.out Hj.out HB1.out, by rw [HO.out, List.take_zero, List.append_nil], KeepC.refl _, kf_below HB1.out⟩
    case round =>
      obtain ⟨k, out2, rfl, hk, hj2, ho2, hkc, hkf⟩ := hrel
      by_cases hlt : k < M
      · obtain ⟨x, hx⟩ : ∃ x, (Dx.lines ts)[k]? = some x := ⟨_, List.getElem?_eq_getElem (by rw [← HM.out]; exact hlt)⟩
        obtain ⟨g, o, rfl, -, -, -, hgl, hcell⟩ := HLs.out.cells (by rw [← HM.out]; omega)
        obtain ⟨v3, q0, q1, q2, q3, hk3⟩ := hcell k x hx
        have hol := congrArg List.length ho2
        rw [List.length_map] at hol
        have hat := Wo.at_flat (Wo.toksFrom 0 fs) Dx.lines pre.length k ts x out2.length HTk.out hx hol
        have ho3 : (out2 ++ [(v3, x)]).map Prod.snd = ((Wo.toksFrom 0 fs).take pre.length).flatMap Dx.lines ++ (Dx.lines ts).take (k + 1) := by
          rw [List.map_append, ho2, List.take_add_one, hx, List.append_assoc]; rfl
        obtain ⟨kd, fi, nn, tl⟩ := x
        dsimp only at q0 q1 q2 q3 hk3
        replace q0 := hkc.cell q0
        replace q1 := hkc.cell q1
        replace q2 := hkc.cell q2
        replace q3 := hkc.cell q3
        replace hk3 := hk3.keepC hkc
        have hcV := (KeepC.below HB1.out).trans hkc
        have hby := boxed_keepC Hb.out hcV
        have hby2 := hby.alloc (.cells #[.int .i64 kd, .int .i64 fi, .int .i64 nn, v3] 44)
        have cy := hby2.cell
        obtain ⟨av, cv, rfl, -, -⟩ := ks_form hk3
        have hB3 : Below wr.heap.size wr (wr.alloc (.cells #[.int .i64 kd, .int .i64 fi, .int .i64 nn, .slice av tl.length cv] 44)) := (Below.refl _ wr).alloc (Nat.le_refl _) _
        obtain ⟨fn, tmps, assign, body, hy, hR⟩ := HY.out out2 (.slice av tl.length cv, ⟨kd, fi, nn, tl⟩) _ (own_below HJ.out hj2 hB3) ⟨hk3.below hB3, hat, (HGv.out.keepC hcV).keepC (KeepC.alloc _ _)⟩
        dsimp only [lnAgg] at hy
        have HR := Lib.hid hR
        have HO3 := Lib.hid ho3
        have HKc := Lib.hid hkc
        have HKf := Lib.hid hkf
        clear hx hcell hol hat ho3 ho2 hj2 hkc hkf hk3 hcV hby hby2 hR hB3
        gi_wp2_with fail
        refine ⟨fun h => by simp [Fence.wide] at h, (round_deep rfl HR.out l2).mono ?_⟩
        rintro e W3 ⟨rfl, hj3, hk4, hf4⟩
        have Hj3 := Lib.hid hj3
        have HK4 := Lib.hid ((HKc.out.trans (KeepC.alloc _ _)).trans hk4)
        have HF4 := Lib.hid ((HKf.out.trans (kf_below ((Below.refl _ wr).alloc (Nat.le_refl _) _))).trans (kf_wide hf4 (by rw [HSz.out]; omega)))
        clear hy hj3 hk4 hf4
        gi_wp2_with fail
        go_roundw
        case rel => exact ⟨k + 1, _, by go_num, by omega, Hj3.out, HO3.out, HK4.out, HF4.out⟩
        case measure => simp [intOf]; omega
      · obtain rfl : k = M := by omega
        have hfin : out2.map Prod.snd = ((Wo.toksFrom 0 fs).take (pre ++ [((u, ts) : Value × List K)]).length).flatMap Dx.lines := by
          rw [ho2, List.take_of_length_le (l := Dx.lines ts) (by rw [← HM.out]; exact Nat.le_refl _), List.length_append, List.length_singleton, List.take_add_one, HTk.out, List.flatMap_append]
          simp
        have HF := Lib.hid hfin
        have Hj2 := Lib.hid hj2
        have hcV := (KeepC.below HB1.out).trans hkc
        have HcV := Lib.hid hcV
        have HKf := Lib.hid hkf
        clear ho2 hj2 hkc hkf hfin hcV
        gi_wp2_with fail
        exact ⟨HKf.out, HcV.out, ⟨out2, Hj2.out, HF.out⟩, boxed_keepC Hb.out HcV.out⟩
  case done =>
    rintro D ys V hD hys ⟨⟨out, hj, ho⟩, hb⟩ hK
    have hfin : out.map Prod.snd = Wo.lns fs := by
      have hy := congrArg List.length hys
      rw [List.length_map] at hy
      rw [ho, hy, List.take_of_length_le (Nat.le_refl _)]
      rfl
    have HF := Lib.hid hfin
    have Hj := Lib.hid hj
    clear hj ho hys hfin hb
    gi_wp2
    refine ⟨by simp, .inl ⟨_, _, rfl, run_takeDeferred hK, ?_⟩⟩
    exact ⟨_, results_none rfl _ _ _, ⟨_, rfl⟩, out, HF.out, HJ.out.putObj _ Hj.out (by omega) hK rfl⟩
end Go.Proofs.YtdopmmnabhcigaaGreatDoor

/- What is proved: how long few and short files' tokens and lines are. -/
namespace Go.Proofs.YtdopmmnabhcigaaGreatDoor.Wo
open Go.Lib Go.Proofs.YtdopmmnabhcigaaGreatDoor

/-- How long texts are, a byte more for each. -/
def wt : List K → Nat
  | [] => 0
  | t :: r => t.text.size + 1 + wt r
theorem wt_append (a b : List K) : wt (a ++ b) = wt a + wt b := by
  induction a with
  | nil => simp [wt]
  | cons t r ih => simp [wt, ih]; omega
theorem wt_part (ts : List K) (a b : Nat) : wt ((ts.drop a).take b) ≤ wt ts := by
  have h1 : wt ts = wt (ts.take a) + wt (ts.drop a) := by rw [← wt_append, List.take_append_drop]
  have h2 : wt (ts.drop a) = wt ((ts.drop a).take b) + wt ((ts.drop a).drop b) := by rw [← wt_append, List.take_append_drop]
  omega
theorem wt_drop (ts : List K) (a : Nat) : wt (ts.drop a) ≤ wt ts := by
  have h1 : wt ts = wt (ts.take a) + wt (ts.drop a) := by rw [← wt_append, List.take_append_drop]
  omega
theorem wt_mem (ts : List K) : ∀ t ∈ ts, t.text.size ≤ wt ts := by
  induction ts with
  | nil => intro t h; simp at h
  | cons x r ih =>
    intro t h
    rcases List.mem_cons.1 h with rfl | h
    · simp [wt]; omega
    · have := ih t h; simp [wt]; omega
theorem wt_len (ts : List K) : ts.length ≤ wt ts := by
  induction ts with
  | nil => simp [wt]
  | cons x r ih => simp [wt]; omega
theorem tk_wt (f : Int) : ∀ (p : Bool) (l : List Sp.Ch), wt ((Lx.tk p l).map (ofT f)) ≤ 2 * l.length := by
  refine Lx.tkInd ?_ ?_ ?_
  · intro p; simp [Lx.tk_nil, wt]
  · intro p l hb ih
    rw [Lx.tk_blank p l hb]
    rw [List.length_drop] at ih
    omega
  · intro p l hl hb ih
    have h1 := Lx.first_len l hl
    rw [Lx.tk_tok p l hl hb, List.map_cons, wt]
    rw [List.length_drop] at ih
    have hs : (ofT f (Lx.tokAt p l)).text.size ≤ (Lx.first (Lx.bytes l)).2 := by
      show (⟨(Lx.tokAt p l).text.toArray⟩ : ByteArray).size ≤ _
      rw [mk_size]
      unfold Lx.tokAt
      dsimp only
      rw [List.length_take]; omega
    omega


theorem toks_wt (n : Nat) (t : ByteArray) : wt (toks n t) ≤ 2 * t.size := by
  have h1 := tk_wt n false (Sp.left 0 t.data.toList)
  have h2 := Sp.left_le 0 t.data.toList
  rw [size_list] at h2
  unfold toks
  omega
theorem toksFrom_sizes : ∀ (fs : Fs) (n : Nat), (∀ f ∈ fs, f.2.size ≤ 1000 ∧ f.1.size ≤ 1000) → ∀ ts ∈ toksFrom n fs, ts.length ≤ 1000 ∧ ∀ t ∈ ts, t.text.size ≤ 2000
  | [], n, _, ts, h => by cases h
  | f :: r, n, hs, ts, h => by
    rw [toksFrom] at h
    rcases List.mem_cons.1 h with rfl | h
    · have h1 := (hs f List.mem_cons_self).1
      have h2 := toks_wt n f.2
      exact ⟨Nat.le_trans (toks_len n f.2) h1, fun t ht => by have := wt_mem _ t ht; omega⟩
    · exact toksFrom_sizes r (n + 1) (fun g hg => hs g (List.mem_cons_of_mem _ hg)) ts h
theorem flat_len {α β : Type} (f : α → List β) (m : Nat) : ∀ (l : List α), (∀ x ∈ l, (f x).length ≤ m) → (l.flatMap f).length ≤ l.length * m
  | [], _ => by simp
  | a :: r, h => by
    have h1 := h a List.mem_cons_self
    have h2 := flat_len f m r fun x hx => h x (List.mem_cons_of_mem _ hx)
    rw [List.flatMap_cons, List.length_append, List.length_cons, Nat.add_mul, Nat.one_mul]
    omega
theorem lines_in (ts : List K) (x : Ln) (h : x ∈ Dx.lines ts) : x.toks.length ≤ ts.length ∧ ∀ t ∈ x.toks, t ∈ ts := by
  obtain ⟨c, _, rfl⟩ := List.mem_map.1 h
  refine ⟨?_, fun t ht => ?_⟩
  · show (((ts.drop c.1).take c.2).drop _).length ≤ _
    rw [List.length_drop, List.length_take, List.length_drop]
    omega
  · exact List.mem_of_mem_drop (List.mem_of_mem_take (List.mem_of_mem_drop ht))
theorem lns_small {fs : Fs} (h : Small fs) : (lns fs).length ≤ 7000 ∧ ∀ x ∈ lns fs, x.toks.length ≤ 1000 ∧ ∀ t ∈ x.toks, t.text.size ≤ 2000 := by
  have hz := toksFrom_sizes fs 0 h.2
  refine ⟨?_, fun x hx => ?_⟩
  · have h1 := flat_len Dx.lines 1000 (toksFrom 0 fs) fun ts ht => by
      have h2 := Dx.cuts_length ts
      have h3 := (hz ts ht).1
      unfold Dx.lines
      rw [List.length_map]
      omega
    rw [toksFrom_len] at h1
    have h4 := h.1
    unfold lns
    omega
  · obtain ⟨ts, hts, hx2⟩ := List.mem_flatMap.1 hx
    obtain ⟨h1, h2⟩ := lines_in ts x hx2
    obtain ⟨h3, h4⟩ := hz ts hts
    exact ⟨by omega, fun t ht => h4 t (h2 t ht)⟩
end Go.Proofs.YtdopmmnabhcigaaGreatDoor.Wo

/- What is proved: what Known tells of files. -/
namespace Go.Proofs.YtdopmmnabhcigaaGreatDoor
open Go.RowKit Go.Shelf

attribute [local go_sem] Oper.semAt_some

theorem wlines_seq (n : Nat) (hn : 3 ≤ n) (Bn : Nat) (v : Value) (fs : Wo.Fs) (hsm : Wo.Small fs) (w : World) (hc : w.cell? ⟨Bn, 0, none⟩ = some v) (hv : Fls w v fs) (hG : Glob w) :
    SeqG Fence.wide n Tryz.prog 30 #[.pointer (some ⟨Bn, 0, none⟩)] (fun x : Value × Ln => #[lnAgg x.2.kind x.2.first x.2.n x.1]) (ToldL fs) (fun ys => ys.map Prod.snd = Wo.lns fs) w := fun l J W hW hJ hY h0 =>
  wlines1_in n hn l Bn v fs hsm J W hJ hY (below_cof hW hc) (hv.below hW) (hG.later hW) h0

theorem gth_own {mb B : Nat} {β : Type} (f : β → Nat) (L : β → List ByteArray) (hmb : mb < B) : OwnFrom B (fun (s : β) W => Gth W mb (f s) (L s)) := fun s X Y row hs hg hr =>
  hs.kept hg fun e => by have := (hr _ e.symm).1; omega
theorem below_from {B : Nat} {w w1 w2 : World} (h : Below B w w1) (hB : B ≤ w1.heap.size) (k : Below w1.heap.size w1 w2) : Below B w w2 := h.trans (k.mono hB)
/-- A line in a box of its own, as a round has it. -/
def LnBox (W : World) (Bx : Nat) (v : Value) (x : Ln) : Prop := W.heap[Bx]? = some (.cells #[.int .i64 x.kind, .int .i64 x.first, .int .i64 x.n, v] 44 (0, 0)) ∧ Ks W v x.toks
theorem LnBox.keepC {W W' : World} {Bx : Nat} {v : Value} {x : Ln} (h : LnBox W Bx v x) (k : KeepC W W') : LnBox W' Bx v x := ⟨k.same _ _ h.1 rfl, h.2.keepC k⟩
theorem LnBox.cells {W : World} {Bx : Nat} {v : Value} {x : Ln} (h : LnBox W Bx v x) :
    W.cell? ⟨Bx, 0, none⟩ = some (.int .i64 x.kind) ∧ W.cell? ⟨Bx, 1, none⟩ = some (.int .i64 x.first) ∧ W.cell? ⟨Bx, 2, none⟩ = some (.int .i64 x.n) ∧ W.cell? ⟨Bx, 3, none⟩ = some v :=
  ⟨(Lib.cell_of_heap h.1 0).trans rfl, (Lib.cell_of_heap h.1 1).trans rfl, (Lib.cell_of_heap h.1 2).trans rfl, (Lib.cell_of_heap h.1 3).trans rfl⟩

set_option maxRecDepth 100000 in
set_option maxHeartbeats 4000000 in
theorem wknown_in (n : Nat) (hn : 6 ≤ n) (v : Value) (fs : Wo.Fs) (hsm : Wo.Small fs) (w : World) (hv : Fls w v fs) (hG : Glob w) :
    CallsIn Fence.wide n Tryz.prog 8 #[v] w fun e w' => ∃ u, e = .returned u ∧ Sts w' u (Wo.known fs) ∧ Below w.heap.size w w' := by
  obtain ⟨ad, cap, rfl, hc1, hc2, -⟩ := id hv
  have h1 : 1 ≤ n := by omega
  have hsl := Wo.lns_small hsm
  obtain ⟨N, hN⟩ : ∃ N, N = fs.length := ⟨_, rfl⟩
  rw [← hN] at hc1 ⊢
  have hv' : Fls w (.slice ad N cap) fs := by rw [hN]; exact hv
  have HG := Lib.hid hG
  have HV := Lib.hid hv'
  have HSm := Lib.hid hsm
  have HSl := Lib.hid hsl
  clear hN hv hv' hG hsm hsl
  have hmm := @run_makeMap Tryz.prog
  refine callsIn_of_wp_marks Tryz.func8 rfl trivial ?_ rfl
  simp only [Tryz.ntmps8, List.size_toArray, List.length_cons, List.length_nil, Nat.reduceAdd, Nat.reduceSub, Array.replicate_succ, Array.replicate_zero, List.push_toArray, List.append_toArray, List.nil_append, List.cons_append]
  gi_wp2_with fail
  refine ⟨trivial, (wlines_in _ ad N cap _).mono ?_⟩
  rintro e w' ⟨rfl, rfl⟩
  gi_wp2_with fail
  have bb := (Boxed.new (w.alloc (.map #[] 0)) 38 (.map (some w.heap.size))).alloc (.cells #[.slice ad N cap] 22)
  have bt := Boxed.new ((w.alloc (.map #[] 0)).alloc (.cells #[.map (some w.heap.size)] 38)) 22 (.slice ad N cap)
  have g0 := ((Gth.new w).alloc (.cells #[.map (some w.heap.size)] 38)).alloc (.cells #[.slice ad N cap] 22)
  simp only [World.size_alloc] at bb bt
  have hB0 : Below w.heap.size w (((w.alloc (.map #[] 0)).alloc (.cells #[.map (some w.heap.size)] 38)).alloc (.cells #[.slice ad N cap] 22)) := (((Below.refl _ w).alloc (Nat.le_refl _) _).alloc (by simp) _).alloc (by simp; omega) _
  have hsz : (((w.alloc (.map #[] 0)).alloc (.cells #[.map (some w.heap.size)] 38)).alloc (.cells #[.slice ad N cap] 22)).heap.size = w.heap.size + 3 := by simp
  obtain ⟨W0, hW0⟩ : ∃ W0, ((w.alloc (.map #[] 0)).alloc (.cells #[.map (some w.heap.size)] 38)).alloc (.cells #[.slice ad N cap] 22) = W0 := ⟨_, rfl⟩
  rw [hW0] at bb bt g0 hB0 hsz ⊢
  have HSz := Lib.hid hsz
  clear hW0 hmm
  refine wpIn_rangeG rfl h1 (gf := 30) (lb := #[.pointer (some ⟨w.heap.size + 1 + 1, 0, none⟩)]) rfl trivial (enters_of Tryz.func30 (by kernel_rfl) rfl)
    (wlines_seq (n - 1) (by omega) (w.heap.size + 1 + 1) _ fs HSm.out W0 bt.cell (HV.out.below hB0) (HG.out.later hB0)) (Below.refl _ _) (fun _ => rfl)
    (fun pre W => Gth W w.heap.size (1000 * pre.length) (Wo.knownL (pre.map Prod.snd)) ∧ Boxed W (w.heap.size + 1) 38 (.map (some w.heap.size)) ∧ Below w.heap.size w W)
    (OwnFrom.and (gth_own (fun pre : List (Value × Ln) => 1000 * pre.length) (fun pre => Wo.knownL (pre.map Prod.snd)) (by omega)) (OwnFrom.and (Own.from (boxed_own _ _ (fun _ => Value.map (some w.heap.size))) _) (ownFrom_below (Nat.le_refl _) (by omega))))
    ⟨g0, bb, hB0⟩
    (fun pre x a' V => ∃ Bx, LnBox V Bx x.1 x.2 ∧ (Wo.lns fs)[pre.length]? = some x.2 ∧ a' = { tmps := #[.slice ad N cap, undef, .slice none 0 0, .pointer (some ⟨w.heap.size + 1, 0, none⟩), .pointer (some ⟨Bx, 0, none⟩), .map (some w.heap.size), .slice ad N cap, .func (.func 30) #[] #[.pointer (some ⟨w.heap.size + 1 + 1, 0, none⟩)], lnAgg x.2.kind x.2.first x.2.n x.1, undef, undef, undef, undef, undef], defers := [] })
    (fun pre x a' _ X Y row hs hg hr => by
      obtain ⟨Bx, h1, h2⟩ := hs
      exact ⟨Bx, h1.keepC (KeepC.grown hg fun r e => (hr r e).2), h2⟩)
    ?assign ?body ?done
  case assign =>
    rintro l2 pre ⟨u, x⟩ V K hs ⟨hg, hb, hB⟩ ⟨hk, hat, -⟩ hK
    dsimp only at hk hat
    obtain ⟨av, cv, rfl, -, -⟩ := ks_form hk
    obtain ⟨kd, fi, nn, tl⟩ := x
    have hbl : Below V.heap.size V (V.alloc (.cells #[.int .i64 kd, .int .i64 fi, .int .i64 nn, .slice av tl.length cv] 44)) := (Below.refl _ V).alloc (Nat.le_refl _) _
    have hk2 : Ks (V.alloc (.cells #[.int .i64 kd, .int .i64 fi, .int .i64 nn, .slice av tl.length cv] 44)) _ _ := hk.below hbl
    have HK := Lib.hid (hK _ _ (kf_below hbl) (KeepC.below hbl) ⟨hg.alloc _, hb.alloc _, hB.alloc hB.size _⟩ ⟨V.heap.size, ⟨heap_alloc_new _ _, hk2⟩, hat, rfl⟩)
    clear hk hat hg hb hB hbl hk2 hK
    dsimp only [lnAgg]
    gi_wp2
    exact HK.out
  case body =>
    rintro l2 pre ⟨u, x⟩ a' V hl2 - ⟨hg, hb, hB⟩ ⟨Bx, hx, hat, rfl⟩
    dsimp only at hx hat
    obtain ⟨hpl, -⟩ := List.getElem?_eq_some_iff.1 hat
    obtain ⟨hxl, hxt⟩ := HSl.out.2 x (List.mem_of_getElem? hat)
    have hnl := HSl.out.1
    have key := CallsIn.inRound l2 (callsIn_wide (n := n - 1 - 1 - 1) |>.2 (gdefining_any w.heap.size (1000 * pre.length) (Wo.knownL (pre.map Prod.snd)) u x (fun t ht => by have := hxt t ht; unfold maxLen; omega) (by omega) V hg hx.2))
    obtain ⟨c0, c1, c2, c3⟩ := hx.cells
    have cb := hb.cell
    have hnc := hg.not_cells
    have hgl := hg.lt
    obtain ⟨av, cv, rfl, -, -⟩ := ks_form hx.2
    obtain ⟨kd, fi, nn, tl⟩ := x
    dsimp only [lnAgg] at key c0 c1 c2 c3 hxl ⊢
    have Hb := Lib.hid hb
    have HB := Lib.hid hB
    have Hnc := Lib.hid hnc
    clear hx hat hxt hg hb hB hnc hsz
    gi_wp2_with fail
    refine ⟨trivial, fun h => by simp [Fence.wide] at h, key.mono ?_⟩
    rintro e w3 ⟨rfl, hg3, hgr3⟩
    have HG3 := Lib.hid hg3
    have HGr3 := Lib.hid hgr3
    clear key hg3 hgr3
    gi_wp2_with fail
    refine ⟨KeepsFrom.of_grownBy HGr3.out (fun j e => by cases e; rw [HSz.out]; omega), KeepC.grown HGr3.out (fun r e => by cases e; exact Hnc.out), ?_, Hb.out.kept HGr3.out (by simp), HB.out.grown HGr3.out HB.out.size (fun j e => by cases e; exact Nat.le_refl _)⟩
    have := HG3.out.mono (n' := 1000 * (pre ++ [((.slice av tl.length cv, ⟨kd, fi, nn, tl⟩) : Value × Ln)]).length) (by simp; omega)
    rw [List.map_append]
    unfold Wo.knownL at this ⊢
    rw [List.flatMap_append]
    simpa using this
  case done =>
    rintro D ys V hD hys ⟨hg, hb, hB⟩ hK
    have hyl := congrArg List.length hys
    rw [List.length_map] at hyl
    have hnl := HSl.out.1
    rw [hys] at hg
    have key := callsIn_wide (n := n - 1) |>.2 (gsorted_any w.heap.size (1000 * ys.length) (Wo.knownL (Wo.lns fs)) (by omega) V hg)
    have cb := hb.cell
    have hDl := lt_of_heap hK
    have HK := Lib.hid hK
    have HB := Lib.hid hB
    clear hg hb hB hK hys hyl hsz
    gi_wp2_with fail
    refine ⟨trivial, key.mono ?_⟩
    rintro e w4 ⟨u, rfl, hrow, hB4⟩
    have hK4 := (hB4.block D hDl).trans HK.out
    have HRow := Lib.hid hrow
    have HB4 := Lib.hid hB4
    clear key hrow hB4
    gi_wp2_with fail
    refine ⟨by simp, .inl ⟨_, _, rfl, run_takeDeferred hK4, ?_⟩⟩
    exact ⟨_, results_tmp rfl _ _ _, u, rfl, Sts.of_row (ownsRow_putObj HRow.out _ hK4 rfl), (below_from HB.out HB.out.size HB4.out).trans (belowK_b (w := w) (Nat.le_refl _) w4 D _ _ (by have := HSz.out; omega) hK4 rfl rfl)⟩

theorem wknown_any (v : Value) (fs : Wo.Fs) (hsm : Wo.Small fs) (w : World) (hv : Fls w v fs) (hG : Glob w) :
    Calls Tryz.prog 8 #[v] w fun e w' => ∃ u, e = .returned u ∧ Sts w' u (Wo.known fs) ∧ Below w.heap.size w w' :=
  callsIn_wide.1 (wknown_in 6 (by omega) v fs hsm w hv hG)
end Go.Proofs.YtdopmmnabhcigaaGreatDoor

/- What is proved: what Names tells of files. -/
namespace Go.Proofs.YtdopmmnabhcigaaGreatDoor
open Go.RowKit Go.Shelf

attribute [local go_sem] Oper.semAt_some

namespace Wo
/-- What is left behind so many texts taken out. -/
def dels (dl L : List ByteArray) : List ByteArray := dl.foldl (fun L s => L.filter fun y => !decide (y = s)) L
theorem dels_snoc (dl L : List ByteArray) (s : ByteArray) : dels (dl ++ [s]) L = (dels dl L).filter fun y => !decide (y = s) := by simp [dels]
theorem mem_dels (dl L : List ByteArray) (x : ByteArray) : x ∈ dels dl L ↔ x ∈ L ∧ x ∉ dl := by
  induction dl using snoc_ind with
  | nil => simp [dels]
  | snoc l a ih =>
    rw [dels_snoc, List.mem_filter, ih]
    simp
    constructor
    · rintro ⟨⟨h1, h2⟩, h3⟩
      exact ⟨h1, h2, h3⟩
    · rintro ⟨h1, h2, h3⟩
      exact ⟨⟨h1, h2⟩, h3⟩
theorem dels_names (fs : Fs) : srt (dels (srt (knownL (lns fs)) ++ [DEF, VAA]) (askedL (lns fs))) = names0 fs := by
  unfold names0
  refine srt_same fun x => ?_
  rw [mem_dels, List.mem_filter]
  unfold wanted
  simp only [List.mem_append, List.mem_cons, List.not_mem_nil, or_false, (srt_spec _).2 x, Bool.and_eq_true, Bool.not_eq_true', decide_eq_false_iff_not, has_not]
  constructor
  · rintro ⟨h1, h2⟩
    exact ⟨h1, ⟨fun h => h2 (.inl h), fun h => h2 (.inr (.inl h))⟩, fun h => h2 (.inr (.inr h))⟩
  · rintro ⟨h1, ⟨h2, h3⟩, h4⟩
    exact ⟨h1, fun h => h.elim h2 fun h => h.elim h3 h4⟩
theorem known_size {fs : Fs} (h : Small fs) : ∀ s ∈ srt (knownL (lns fs)) ++ [DEF, VAA], s.size ≤ maxLen := by
  intro s hs
  rcases List.mem_append.1 hs with hs | hs
  · have hs := ((srt_spec _).2 s).1 hs
    obtain ⟨x, hx, hs⟩ := List.mem_flatMap.1 hs
    have hxt := ((lns_small h).2 x hx).2
    unfold defs at hs
    split at hs
    · obtain ⟨t, ht, rfl⟩ := List.mem_map.1 hs
      have := hxt t (List.mem_of_mem_take (List.mem_filter.1 ht).1)
      unfold maxLen
      omega
    · cases hs
  · simp only [List.mem_cons, List.not_mem_nil, or_false] at hs
    rcases hs with rfl | rfl
    · show 7 ≤ maxLen
      unfold maxLen
      omega
    · show 11 ≤ maxLen
      unfold maxLen
      omega
end Wo
theorem has_del {D : DataW Unit} {L : List ByteArray} (h : ∀ x : List UInt8, Go.Maps.has D (.string x) = Wo.has L (Wo.tx x)) (s : ByteArray) :
    ∀ x : List UInt8, Go.Maps.has (D.del (.string s.data.toList)) (.string x) = Wo.has (L.filter fun y => !decide (y = s)) (Wo.tx x) := by
  intro x
  by_cases e : x = s.data.toList
  · subst e
    rw [Go.Maps.has_del_same, show Wo.tx s.data.toList = s from Wo.tx_bl s]
    refine ((Wo.has_not _ _).2 fun h' => ?_).symm
    simp at h'
  · rw [Go.Maps.has_del_other (by simpa using e), h x, Bool.eq_iff_iff, Wo.has_iff, Wo.has_iff, List.mem_filter]
    have : ¬ (Wo.tx x = s) := fun h' => e (by rw [← h']; exact (Wo.bl_tx x).symm)
    simp [this]
theorem gth_size {W : World} {mb n : Nat} {D : DataW Unit} {L : List ByteArray} (hown : W.ownsMap (H := Unit) Tryz.prog 9 (unitElem (H := Unit)) mb n D) (h : ∀ x : List UInt8, Go.Maps.has D (.string x) = Wo.has L (Wo.tx x)) :
    Go.Maps.size D = (Wo.srt L).length := by
  obtain ⟨es, hD, hpw, _⟩ := hown.entries keyStr
  obtain ⟨es', hD', hko⟩ := hown.keysOf
  obtain rfl : es = es' := by rw [hD] at hD'; simpa using hD'
  subst hD
  have hp := perm_strKeys hpw (fun p hp => by obtain ⟨v, hv⟩ := hko p hp; obtain ⟨x, _, hx, _⟩ := Maps.keyOf_str Tryz.underlying9 hv; exact ⟨x, hx⟩)
    (ss := (Wo.srt L).map Wo.bl) (by
      unfold List.Nodup
      rw [List.pairwise_map]
      exact (Wo.srt_spec L).1.nodup.imp fun hne e => hne (Wo.bl_inj e)) (fun x => by
      rw [h x, Wo.has_iff, List.mem_map]
      constructor
      · rintro ⟨y, hy, rfl⟩
        rw [Wo.tx_bl]
        exact ((Wo.srt_spec L).2 y).1 hy
      · intro hx
        exact ⟨_, ((Wo.srt_spec L).2 _).2 hx, Wo.bl_tx x⟩)
  have := hp.length_eq
  rw [List.length_map] at this
  rw [this]
  simp [strKeys, Go.Maps.size]

set_option maxRecDepth 100000 in
set_option maxHeartbeats 8000000 in
theorem wnames_in (n : Nat) (hn : 6 ≤ n) (v : Value) (fs : Wo.Fs) (hsm : Wo.Small fs) (w : World) (hv : Fls w v fs) (hG : Glob w) :
    CallsIn Fence.wide n Tryz.prog 6 #[v] w fun e w' => ∃ u, e = .returned (.tuple #[u, .int .i64 (Wo.namesE fs)]) ∧ Sts w' u (Wo.names fs) ∧ Below w.heap.size w w' := by
  obtain ⟨ad, cap, rfl, hc1, hc2, -⟩ := id hv
  have h1 : 1 ≤ n := by omega
  have hsl := Wo.lns_small hsm
  obtain ⟨N, hN⟩ : ∃ N, N = fs.length := ⟨_, rfl⟩
  rw [← hN] at hc1 ⊢
  have hv' : Fls w (.slice ad N cap) fs := by rw [hN]; exact hv
  have HG := Lib.hid hG
  have HV := Lib.hid hv'
  have HSm := Lib.hid hsm
  have HSl := Lib.hid hsl
  clear hN hv hv' hG hsm hsl
  have hmm := @run_makeMap Tryz.prog
  refine callsIn_of_wp_marks Tryz.func6 rfl trivial ?_ rfl
  simp only [Tryz.ntmps6, List.size_toArray, List.length_cons, List.length_nil, Nat.reduceAdd, Nat.reduceSub, Array.replicate_succ, Array.replicate_zero, List.push_toArray, List.append_toArray, List.nil_append, List.cons_append]
  gi_wp2_with fail
  refine ⟨trivial, (wlines_in _ ad N cap _).mono ?_⟩
  rintro e w' ⟨rfl, rfl⟩
  gi_wp2_with fail
  obtain ⟨i0, hi, hz0, hz1, hz2⟩ := info_parts infoStr
  have ba := ((Boxed.new ((w.alloc (.map #[] 0)).alloc (.map #[] 0)) 38 (.map (some w.heap.size))).alloc (.cells #[.map (some (w.heap.size + 1))] 38)).alloc (.cells #[.slice ad N cap] 22)
  have bk := (Boxed.new (((w.alloc (.map #[] 0)).alloc (.map #[] 0)).alloc (.cells #[.map (some w.heap.size)] 38)) 38 (.map (some (w.heap.size + 1)))).alloc (.cells #[.slice ad N cap] 22)
  have bt := Boxed.new ((((w.alloc (.map #[] 0)).alloc (.map #[] 0)).alloc (.cells #[.map (some w.heap.size)] 38)).alloc (.cells #[.map (some (w.heap.size + 1))] 38)) 22 (.slice ad N cap)
  have ga := ((((Gth.new w).alloc (.map #[] 0)).alloc (.cells #[.map (some w.heap.size)] 38)).alloc (.cells #[.map (some (w.heap.size + 1))] 38)).alloc (.cells #[.slice ad N cap] 22)
  have gk := (((Gth.new (w.alloc (.map #[] 0))).alloc (.cells #[.map (some w.heap.size)] 38)).alloc (.cells #[.map (some (w.heap.size + 1))] 38)).alloc (.cells #[.slice ad N cap] 22)
  simp only [World.size_alloc] at ba bk bt gk
  have hB0 : Below w.heap.size w (((((w.alloc (.map #[] 0)).alloc (.map #[] 0)).alloc (.cells #[.map (some w.heap.size)] 38)).alloc (.cells #[.map (some (w.heap.size + 1))] 38)).alloc (.cells #[.slice ad N cap] 22)) := (((((Below.refl _ w).alloc (Nat.le_refl _) _).alloc (by simp) _).alloc (by simp; omega) _).alloc (by simp; omega) _).alloc (by simp; omega) _
  have hsz : (((((w.alloc (.map #[] 0)).alloc (.map #[] 0)).alloc (.cells #[.map (some w.heap.size)] 38)).alloc (.cells #[.map (some (w.heap.size + 1))] 38)).alloc (.cells #[.slice ad N cap] 22)).heap.size = w.heap.size + 5 := by simp
  obtain ⟨W0, hW0⟩ : ∃ W0, ((((w.alloc (.map #[] 0)).alloc (.map #[] 0)).alloc (.cells #[.map (some w.heap.size)] 38)).alloc (.cells #[.map (some (w.heap.size + 1))] 38)).alloc (.cells #[.slice ad N cap] 22) = W0 := ⟨_, rfl⟩
  rw [hW0] at ba bk bt ga gk hB0 hsz ⊢
  have HSz := Lib.hid hsz
  clear hW0 hmm
  refine wpIn_rangeG rfl h1 (gf := 30) (lb := #[.pointer (some ⟨w.heap.size + 1 + 1 + 1 + 1, 0, none⟩)]) rfl trivial (enters_of Tryz.func30 (by kernel_rfl) rfl)
    (wlines_seq (n - 1) (by omega) (w.heap.size + 1 + 1 + 1 + 1) _ fs HSm.out W0 bt.cell (HV.out.below hB0) (HG.out.later hB0)) (Below.refl _ _) (fun _ => rfl)
    (fun pre W => (Gth W w.heap.size (1000 * pre.length) (Wo.askedL (pre.map Prod.snd)) ∧ Gth W (w.heap.size + 1) (1000 * pre.length) (Wo.knownL (pre.map Prod.snd))) ∧ (Boxed W (w.heap.size + 1 + 1) 38 (.map (some w.heap.size)) ∧ Boxed W (w.heap.size + 1 + 1 + 1) 38 (.map (some (w.heap.size + 1)))) ∧ Below w.heap.size w W)
    (OwnFrom.and (OwnFrom.and (gth_own (fun pre : List (Value × Ln) => 1000 * pre.length) (fun pre => Wo.askedL (pre.map Prod.snd)) (by omega)) (gth_own (fun pre : List (Value × Ln) => 1000 * pre.length) (fun pre => Wo.knownL (pre.map Prod.snd)) (by omega)))
      (OwnFrom.and (OwnFrom.and (Own.from (boxed_own _ _ (fun _ => Value.map (some w.heap.size))) _) (Own.from (boxed_own _ _ (fun _ => Value.map (some (w.heap.size + 1)))) _)) (ownFrom_below (Nat.le_refl _) (by omega))))
    ⟨⟨ga, gk⟩, ⟨ba, bk⟩, hB0⟩
    (fun pre x a' V => ∃ Bx, LnBox V Bx x.1 x.2 ∧ (Wo.lns fs)[pre.length]? = some x.2 ∧ a' = { tmps := #[.slice ad N cap, undef, .slice none 0 0, .int .i64 0, .pointer (some ⟨w.heap.size + 1 + 1, 0, none⟩), .pointer (some ⟨w.heap.size + 1 + 1 + 1, 0, none⟩), .pointer (some ⟨Bx, 0, none⟩), undef, undef, .map (some w.heap.size), .map (some (w.heap.size + 1)), .slice ad N cap, .func (.func 30) #[] #[.pointer (some ⟨w.heap.size + 1 + 1 + 1 + 1, 0, none⟩)], lnAgg x.2.kind x.2.first x.2.n x.1, undef, undef, undef, undef, undef, undef, undef, undef, undef, undef, undef, undef, undef, undef, undef, undef, undef, undef, undef, undef, undef, undef, undef], defers := [] })
    (fun pre x a' _ X Y row hs hg hr => by
      obtain ⟨Bx, h1, h2⟩ := hs
      exact ⟨Bx, h1.keepC (KeepC.grown hg fun r e => (hr r e).2), h2⟩)
    ?assign ?body ?done
  case assign =>
    rintro l2 pre ⟨u, x⟩ V K hs ⟨⟨hga, hgk⟩, ⟨hba, hbk⟩, hB⟩ ⟨hk, hat, -⟩ hK
    dsimp only at hk hat
    obtain ⟨av, cv, rfl, -, -⟩ := ks_form hk
    obtain ⟨kd, fi, nn, tl⟩ := x
    have hbl : Below V.heap.size V (V.alloc (.cells #[.int .i64 kd, .int .i64 fi, .int .i64 nn, .slice av tl.length cv] 44)) := (Below.refl _ V).alloc (Nat.le_refl _) _
    have hk2 : Ks (V.alloc (.cells #[.int .i64 kd, .int .i64 fi, .int .i64 nn, .slice av tl.length cv] 44)) _ _ := hk.below hbl
    have HK := Lib.hid (hK _ _ (kf_below hbl) (KeepC.below hbl) ⟨⟨hga.alloc _, hgk.alloc _⟩, ⟨hba.alloc _, hbk.alloc _⟩, hB.alloc hB.size _⟩ ⟨V.heap.size, ⟨heap_alloc_new _ _, hk2⟩, hat, rfl⟩)
    clear hk hat hga hgk hba hbk hB hbl hk2 hK
    dsimp only [lnAgg]
    gi_wp2
    exact HK.out
  case body =>
    rintro l2 pre ⟨u, x⟩ a' V hl2 - ⟨⟨hga, hgk⟩, ⟨hba, hbk⟩, hB⟩ ⟨Bx, hx, hat, rfl⟩
    dsimp only at hx hat
    obtain ⟨hpl, -⟩ := List.getElem?_eq_some_iff.1 hat
    obtain ⟨hxl, hxt⟩ := HSl.out.2 x (List.mem_of_getElem? hat)
    have hnl := HSl.out.1
    have hxt' : ∀ t ∈ x.toks, t.text.size ≤ maxLen := fun t ht => by have := hxt t ht; unfold maxLen; omega
    have key := CallsIn.inRound l2 (callsIn_wide (n := n - 1 - 1 - 1) |>.2 (gasking_any w.heap.size (1000 * pre.length) (Wo.askedL (pre.map Prod.snd)) u x hxt' (by omega) V hga hx.2))
    have key2 := fun V' (h1 : Gth V' (w.heap.size + 1) (1000 * pre.length) (Wo.knownL (pre.map Prod.snd))) h2 => CallsIn.inRound l2 (callsIn_wide (n := n - 1 - 1 - 1) |>.2 (gdefining_any (w.heap.size + 1) (1000 * pre.length) (Wo.knownL (pre.map Prod.snd)) u x hxt' (by omega) V' h1 h2))
    obtain ⟨c0, c1, c2, c3⟩ := hx.cells
    have cb := hba.cell
    have hna := hga.not_cells
    have hnk := hgk.not_cells
    have hgl := hgk.lt
    obtain ⟨av, cv, rfl, -, -⟩ := ks_form hx.2
    obtain ⟨kd, fi, nn, tl⟩ := x
    dsimp only [lnAgg] at key key2 c0 c1 c2 c3 hxl ⊢
    have HX := Lib.hid hx
    have Hba := Lib.hid hba
    have Hbk := Lib.hid hbk
    have HB := Lib.hid hB
    have Hna := Lib.hid hna
    have Hgk := Lib.hid hgk
    have HKey2 := Lib.hid key2
    clear hx hat hxt hxt' hga hgk hba hbk hB hna hnk hsz key2
    gi_wp2_with fail
    refine ⟨trivial, fun h => by simp [Fence.wide] at h, key.mono ?_⟩
    rintro e w3 ⟨rfl, hg3, hgr3⟩
    have hc3 : KeepC V w3 := KeepC.grown hgr3 (fun r e => by cases e; exact Hna.out)
    have hx3 := HX.out.keepC hc3
    have hk3 := Hgk.out.kept hgr3 (by simp)
    have cb3 := (boxed_keepC Hbk.out hc3).cell
    obtain ⟨d0, d1, d2, d3⟩ := hx3.cells
    have key3 := HKey2.out w3 hk3 hx3.2
    have hnk3 := hk3.not_cells
    have HG3 := Lib.hid hg3
    have HGr3 := Lib.hid hgr3
    have Hc3 := Lib.hid hc3
    have Hnk3 := Lib.hid hnk3
    dsimp only at d0 d1 d2 d3
    clear key hg3 hgr3 hc3 hx3 hk3 hnk3 c0 c1 c2 c3 cb
    gi_wp2_with fail
    refine ⟨trivial, fun h => by simp [Fence.wide] at h, key3.mono ?_⟩
    rintro e w4 ⟨rfl, hg4, hgr4⟩
    have HG4 := Lib.hid hg4
    have HGr4 := Lib.hid hgr4
    clear key3 hg4 hgr4
    gi_wp2_with fail
    have c4 : KeepC w3 w4 := KeepC.grown HGr4.out (fun r e => by cases e; exact Hnk3.out)
    have a4 := (HG3.out.kept HGr4.out (by simp)).mono (n' := 1000 * (pre ++ [((.slice av tl.length cv, ⟨kd, fi, nn, tl⟩) : Value × Ln)]).length) (by simp; omega)
    have k4 := HG4.out.mono (n' := 1000 * (pre ++ [((.slice av tl.length cv, ⟨kd, fi, nn, tl⟩) : Value × Ln)]).length) (by simp; omega)
    refine ⟨(KeepsFrom.of_grownBy HGr3.out (fun j e => by cases e; rw [HSz.out]; omega)).trans (KeepsFrom.of_grownBy HGr4.out (fun j e => by cases e; rw [HSz.out]; omega)), Hc3.out.trans c4, ⟨?_, ?_⟩, ⟨boxed_keepC Hba.out (Hc3.out.trans c4), boxed_keepC Hbk.out (Hc3.out.trans c4)⟩,
      (HB.out.grown HGr3.out HB.out.size (fun j e => by cases e; exact Nat.le_refl _)).grown HGr4.out (Nat.le_trans HB.out.size HGr3.out.size) (fun j e => by cases e; omega)⟩
    · rw [List.map_append]
      unfold Wo.askedL at a4 ⊢
      rw [List.flatMap_append]
      simpa using a4
    · rw [List.map_append]
      unfold Wo.knownL at k4 ⊢
      rw [List.flatMap_append]
      simpa using k4
  case done =>
    rintro D ys V hD hys ⟨⟨hga, hgk⟩, ⟨hba, hbk⟩, hB⟩ hK
    have hyl := congrArg List.length hys
    rw [List.length_map] at hyl
    have hnl := HSl.out.1
    rw [hys] at hga hgk
    have hks := Wo.known_size HSm.out
    have hdn := Wo.dels_names fs
    have hkl := Wo.srt_len (Wo.knownL (Wo.lns fs))
    have hkn : (Wo.knownL (Wo.lns fs)).length ≤ 7000 * 1000 := by
      have h3 := Wo.flat_len Wo.defs 1000 (Wo.lns fs) fun x hx => by
        have := (HSl.out.2 x hx).1
        unfold Wo.defs
        split
        · unfold Wo.words
          rw [List.length_map]
          exact Nat.le_trans (List.length_filter_le _ _) (Nat.le_trans (by rw [List.length_take]; exact Nat.min_le_right _ _) this)
        · exact Nat.zero_le _
      unfold Wo.knownL
      exact Nat.le_trans h3 (Nat.mul_le_mul_right _ hnl)
    obtain ⟨A, hA⟩ : ∃ A, A = Wo.askedL (Wo.lns fs) := ⟨_, rfl⟩
    obtain ⟨Kn, hKn⟩ : ∃ Kn, Kn = Wo.srt (Wo.knownL (Wo.lns fs)) := ⟨_, rfl⟩
    have key := callsIn_wide (n := n - 1) |>.2 (gsorted_any (w.heap.size + 1) (1000 * ys.length) (Wo.knownL (Wo.lns fs)) (by omega) V hgk)
    rw [← hA] at hga hdn
    rw [← hKn] at key hks hdn hkl
    have cb := hbk.cell
    have hDl := lt_of_heap hK
    obtain ⟨kn, hknl⟩ : ∃ kn, kn = Kn.length := ⟨_, rfl⟩
    rw [← hknl] at key hkl
    obtain ⟨nn, hnn⟩ : ∃ nn, nn = 1000 * ys.length := ⟨_, rfl⟩
    rw [← hnn] at hga
    have hnnb : nn < 100000000 := by omega
    have HK := Lib.hid hK
    have HB := Lib.hid hB
    have Hba := Lib.hid hba
    have Hga := Lib.hid hga
    have HKs := Lib.hid hks
    have HDn := Lib.hid hdn
    have Hkn := Lib.hid hknl
    clear hga hgk hba hbk hB hK hys hyl hsz hks hdn hA hKn hknl hnn
    gi_wp2_with fail
    refine ⟨trivial, key.mono ?_⟩
    rintro e w4 ⟨u, rfl, hrow, hB4⟩
    have hK4 := (hB4.block D hDl).trans HK.out
    have hV4 := hB4.size
    have HB4 := Lib.hid hB4
    clear key hB4 cb
    gi_wp2_with (first
      | (gi_at_builtin; refine wpListIn_append_own _ rfl _ _ 25 rfl V.heap.size 9 i0 (.string ByteArray.empty) 1 16 Tryz.underlying25 hi hz0 hz1 hz2 rfl (by decide) _ _ _ rfl (hrow.alloc _) ⟨w4.heap.size, 0, none⟩ 2 2 [.string Wo.DEF, .string Wo.VAA] rfl rfl (cell_two_new _ _ _ _) (by simp [Value.oneCell']) (by unfold maxLen; omega) (by omega) (by simp; omega) ?_; intro v' w5 hown5 hg5 hnil5; obtain ⟨g5, cap5, rfl⟩ := ownsRow_succ hown5)
      | fail)
    have hdl : strCells Kn ++ [.string Wo.DEF, .string Wo.VAA] = strCells (Kn ++ [Wo.DEF, Wo.VAA]) := (strCells_append Kn [Wo.DEF, Wo.VAA]).symm
    rw [hdl] at hown5
    have hdll : (Kn ++ [Wo.DEF, Wo.VAA]).length = kn + 1 + 1 := by rw [List.length_append, ← Hkn.out]; rfl
    obtain ⟨dl, hdle⟩ : ∃ dl, dl = Kn ++ [Wo.DEF, Wo.VAA] := ⟨_, rfl⟩
    rw [← hdle] at hown5 hdll
    have HDn2 : Hid (Wo.srt (Wo.dels dl A) = Wo.names0 fs) := Lib.hid (by rw [hdle]; exact HDn.out)
    have HKs2 : Hid (∀ s ∈ dl, s.size ≤ maxLen) := Lib.hid (by rw [hdle]; exact HKs.out)
    have hV0 := HB.out.size
    have hmaV : w.heap.size < V.heap.size := Hga.out.lt
    have hcel : ∀ k s, dl[k]? = some s → w5.cell? ⟨g5, k, none⟩ = some (.string s) := fun k s hks => by
      have := hown5.cells (g := g5) rfl k _ (strCells_get hks)
      rwa [add_none, Nat.zero_add] at this
    have hg5m : g5 ≠ w.heap.size := fun e => by have := (hown5.lt g5 rfl).1; omega
    have gr5 : V.grownBy w5 u.ownBlock := grown_trans (grown_al (grownN HB4.out _) _) hg5
    have hua : some w.heap.size ≠ u.ownBlock := row_ne_low hrow hmaV
    have hub : some (w.heap.size + 1 + 1) ≠ u.ownBlock := row_ne_low hrow Hba.out.lt
    have hud : some D ≠ u.ownBlock := row_ne_low hrow hDl
    have hga5 : Gth w5 w.heap.size nn A := Hga.out.kept gr5 hua
    have hba5 : Boxed w5 (w.heap.size + 1 + 1) 38 (.map (some w.heap.size)) := Hba.out.kept gr5 hub
    have hK5 : w5.heap[D]? = some (.deferred (some [])) := (gr5.block D hDl hud).trans HK.out
    have hB5 : Below w.heap.size w w5 := HB.out.grown gr5 hV0 (fun j e => Nat.le_trans hV0 (hrow.lt j e).1)
    have HCel := Lib.hid hcel
    have Hga5 := Lib.hid hga5
    have Hba5 := Lib.hid hba5
    have HK5 := Lib.hid hK5
    have HB5 := Lib.hid hB5
    have Hdll := Lib.hid hdll
    have HSz2 : Hid (w.heap.size + 5 ≤ D) := Lib.hid (by rw [← HSz.out]; exact hD)
    clear hdl hdle hown5 hdll hcel gr5 hua hub hud hga5 hba5 hK5 hB5 hK4 hrow hg5 hnil5
    gi_loopw [25] (fun i wr => ∃ k : Nat, i = .int .i64 k ∧ k ≤ kn + 1 + 1 ∧ Gth wr w.heap.size nn (Wo.dels (dl.take k) A) ∧ w5.grownBy wr (some w.heap.size)) (fun i _ => kn + 2 - (intOf i).toNat)
    case atStart => exact ⟨0, rfl, Nat.zero_le _, Hga5.out, ⟨rfl, rfl, rfl, Nat.le_refl _, fun _ _ _ => rfl⟩⟩
    case round =>
      obtain ⟨k, rfl, hk, hgk, hgr⟩ := hrel
      have cbk := (Hba5.out.kept hgr (by simp; omega)).cell
      obtain ⟨Dk, hown, hDk⟩ := hgk
      by_cases hlt : k < kn + 1 + 1
      · obtain ⟨s, hs⟩ : ∃ s, dl[k]? = some s := ⟨_, List.getElem?_eq_getElem (by rw [Hdll.out]; exact hlt)⟩
        have c0 := HCel.out k s hs
        have hgl5 := lt_of_cell c0
        have c1 : wr.cell? ⟨g5, k, none⟩ = some (.string s) := (World.cell?_of_block (a := ⟨g5, k, none⟩) (hgr.block g5 hgl5 (fun e => hg5m (by injection e)))).trans c0
        have hkey := Go.WideMaps.keyOf_string_mk (P := Tryz.prog) Tryz.underlying9 (HKs2.out s (List.mem_of_getElem? hs))
        have hdel := has_del hDk s
        have hto : Wo.dels (dl.take (k + 1)) A = (Wo.dels (dl.take k) A).filter fun y => !decide (y = s) := by
          rw [List.take_add_one, hs]; exact Wo.dels_snoc _ _ _
        have HDel := Lib.hid hdel
        have HTo := Lib.hid hto
        have HGr := Lib.hid hgr
        have z1 : (k : Int) < (kn : Int) + 1 + 1 := by omega
        clear hs c0 hgl5 hdel hto hDk hgr
        gi_wp2_with (first
          | (gi_at_delete; refine wpListIn_delete_own _ rfl _ _ 38 9 rfl 64 keyStr Tryz.underlying38 _ w.heap.size nn _ rfl hown _ _ rfl hkey ?_; intro w6 hown6 hturn6; go_frame)
          | fail)
        go_roundw
        case rel => exact ⟨k + 1, by go_num, by omega, ⟨_, hown6, by rw [HTo.out]; exact HDel.out⟩, grown_trans HGr.out hturn6.grown⟩
        case measure => simp [intOf]; omega
      · obtain rfl : k = kn + 1 + 1 := by omega
        rw [List.take_of_length_le (by rw [Hdll.out]; exact Nat.le_refl _)] at hDk
        have hsz := gth_size hown hDk
        rw [HDn2.out] at hsz
        have hKr : wr.heap[D]? = some (.deferred (some [])) := (hgr.block D (lt_of_heap HK5.out) (fun e => by have := HSz2.out; injection e; omega)).trans HK5.out
        have hBr : Below w.heap.size w wr := HB5.out.grown hgr HB5.out.size (fun j e => by cases e; exact Nat.le_refl _)
        have hgr' : Gth wr w.heap.size nn (Wo.dels dl A) := ⟨_, hown, hDk⟩
        have z1 : ¬ ((kn : Int) + 1 + 1 < (kn : Int) + 1 + 1) := by omega
        have HBr := Lib.hid hBr
        have HGr' := Lib.hid hgr'
        have HKr := Lib.hid hKr
        by_cases h8 : 8 < (Wo.names0 fs).length
        · have hnm : Wo.names fs = [] := by unfold Wo.names; rw [if_pos h8]
          have hne : Wo.namesE fs = 110 := by unfold Wo.namesE; rw [if_pos h8]
          have t8 : 8 < Go.Maps.size Dk := by rw [hsz]; exact h8
          have Hnm := Lib.hid hnm
          have Hne := Lib.hid hne
          clear hDk hgr hBr hgr' hsz h8 hnm hne hKr
          gi_wp2_with (first
            | (gi_at_len; refine wpListIn_len_own _ rfl _ 38 rfl 9 64 Tryz.underlying38 _ w.heap.size nn _ rfl hown ?_; go_frame)
            | fail)
          refine ⟨by simp, .inl ⟨_, _, rfl, run_takeDeferred HKr.out, ?_⟩⟩
          refine ⟨_, results_tmp2 rfl _ _ _, .slice none 0 0, by rw [Hne.out]; rfl, by rw [Hnm.out]; exact Sts.none_at _ _ _ (Nat.zero_le _), ?_⟩
          exact HBr.out.trans (belowK_b (w := w) (Nat.le_refl _) wr D _ _ (by have := HSz2.out; omega) HKr.out rfl rfl)
        · have hnm : Wo.names fs = Wo.names0 fs := by unfold Wo.names; rw [if_neg h8]
          have hne : Wo.namesE fs = 0 := by unfold Wo.namesE; rw [if_neg h8]
          have t8 : ¬ (8 < Go.Maps.size Dk) := by rw [hsz]; exact h8
          have key := callsIn_wide (n := n - 1) |>.2 (gsorted_any w.heap.size nn (Wo.dels dl A) hnnb wr hgr')
          rw [HDn2.out, ← hnm] at key
          have Hnm := Lib.hid hnm
          have Hne := Lib.hid hne
          clear hDk hgr hBr hgr' hsz h8 hnm hne hKr
          gi_wp2_with (first
            | (gi_at_len; refine wpListIn_len_own _ rfl _ 38 rfl 9 64 Tryz.underlying38 _ w.heap.size nn _ rfl hown ?_; go_frame)
            | fail)
          refine ⟨trivial, key.mono ?_⟩
          rintro e w7 ⟨u7, rfl, hrow7, hB7⟩
          have hK7 := (hB7.block D (lt_of_heap HKr.out)).trans HKr.out
          have HRow := Lib.hid hrow7
          have HB7 := Lib.hid hB7
          clear key hrow7 hB7
          gi_wp2_with fail
          refine ⟨by simp, .inl ⟨_, _, rfl, run_takeDeferred hK7, ?_⟩⟩
          refine ⟨_, results_tmp2 rfl _ _ _, u7, by rw [Hne.out]; rfl, Sts.of_row (ownsRow_putObj HRow.out _ hK7 rfl), ?_⟩
          exact (below_from HBr.out HBr.out.size HB7.out).trans (belowK_b (w := w) (Nat.le_refl _) w7 D _ _ (by have := HSz2.out; omega) hK7 rfl rfl)

theorem wnames_any (v : Value) (fs : Wo.Fs) (hsm : Wo.Small fs) (w : World) (hv : Fls w v fs) (hG : Glob w) :
    Calls Tryz.prog 6 #[v] w fun e w' => ∃ u, e = .returned (.tuple #[u, .int .i64 (Wo.namesE fs)]) ∧ Sts w' u (Wo.names fs) ∧ Below w.heap.size w w' :=
  callsIn_wide.1 (wnames_in 6 (by omega) v fs hsm w hv hG)
end Go.Proofs.YtdopmmnabhcigaaGreatDoor

/- What is proved: what Spelled tells of files. -/
namespace Go.Proofs.YtdopmmnabhcigaaGreatDoor
open Go.RowKit Go.Shelf

attribute [local go_sem] Oper.semAt_some

set_option maxRecDepth 100000 in
set_option maxHeartbeats 4000000 in
theorem wspelled_in (n : Nat) (hn : 6 ≤ n) (v : Value) (fs : Wo.Fs) (hsm : Wo.Small fs) (w : World) (hv : Fls w v fs) (hG : Glob w) :
    CallsIn Fence.wide n Tryz.prog 10 #[v] w fun e w' => ∃ u, e = .returned u ∧ Sts w' u (Wo.spelled fs) ∧ Below w.heap.size w w' := by
  obtain ⟨ad, cap, rfl, hc1, hc2, -⟩ := id hv
  have h1 : 1 ≤ n := by omega
  have hsl := Wo.toksFrom_sizes fs 0 hsm.2
  have hfl := hsm.1
  have htl := Wo.toksFrom_len fs 0
  obtain ⟨N, hN⟩ : ∃ N, N = fs.length := ⟨_, rfl⟩
  rw [← hN] at hc1 ⊢
  have hv' : Fls w (.slice ad N cap) fs := by rw [hN]; exact hv
  have HG := Lib.hid hG
  have HV := Lib.hid hv'
  have HSm := Lib.hid hsm
  have HSl := Lib.hid hsl
  clear hN hv hv' hG hsm hsl
  have hmm := @run_makeMap Tryz.prog
  refine callsIn_of_wp_marks Tryz.func10 rfl trivial ?_ rfl
  simp only [Tryz.ntmps10, List.size_toArray, List.length_cons, List.length_nil, Nat.reduceAdd, Nat.reduceSub, Array.replicate_succ, Array.replicate_zero, List.push_toArray, List.append_toArray, List.nil_append, List.cons_append]
  gi_wp2_with fail
  refine ⟨trivial, (wtokens_in _ ad N cap _).mono ?_⟩
  rintro e w' ⟨rfl, rfl⟩
  gi_wp2_with fail
  have bb := (Boxed.new (w.alloc (.map #[] 0)) 38 (.map (some w.heap.size))).alloc (.cells #[.slice ad N cap] 22)
  have bt := Boxed.new ((w.alloc (.map #[] 0)).alloc (.cells #[.map (some w.heap.size)] 38)) 22 (.slice ad N cap)
  have g0 := ((Gth.new w).alloc (.cells #[.map (some w.heap.size)] 38)).alloc (.cells #[.slice ad N cap] 22)
  simp only [World.size_alloc] at bb bt
  have hB0 : Below w.heap.size w (((w.alloc (.map #[] 0)).alloc (.cells #[.map (some w.heap.size)] 38)).alloc (.cells #[.slice ad N cap] 22)) := (((Below.refl _ w).alloc (Nat.le_refl _) _).alloc (by simp) _).alloc (by simp; omega) _
  have hsz : (((w.alloc (.map #[] 0)).alloc (.cells #[.map (some w.heap.size)] 38)).alloc (.cells #[.slice ad N cap] 22)).heap.size = w.heap.size + 3 := by simp
  obtain ⟨W0, hW0⟩ : ∃ W0, ((w.alloc (.map #[] 0)).alloc (.cells #[.map (some w.heap.size)] 38)).alloc (.cells #[.slice ad N cap] 22) = W0 := ⟨_, rfl⟩
  rw [hW0] at bb bt g0 hB0 hsz ⊢
  have HSz := Lib.hid hsz
  clear hW0 hmm
  refine wpIn_rangeG rfl h1 (gf := 35) (lb := #[.pointer (some ⟨w.heap.size + 1 + 1, 0, none⟩)]) rfl trivial (enters_of Tryz.func35 (by kernel_rfl) rfl)
    (wtokens_seq (n - 1) (by omega) (w.heap.size + 1 + 1) _ fs HSm.out W0 bt.cell (HV.out.below hB0) (HG.out.later hB0)) (Below.refl _ _) (fun _ => rfl)
    (fun pre W => Gth W w.heap.size (1000 * pre.length) ((pre.map Prod.snd).flatMap Wo.words) ∧ Boxed W (w.heap.size + 1) 38 (.map (some w.heap.size)) ∧ Below w.heap.size w W)
    (OwnFrom.and (gth_own (fun pre : List (Value × List K) => 1000 * pre.length) (fun pre => (pre.map Prod.snd).flatMap Wo.words) (by omega)) (OwnFrom.and (Own.from (boxed_own _ _ (fun _ => Value.map (some w.heap.size))) _) (ownFrom_below (Nat.le_refl _) (by omega))))
    ⟨g0, bb, hB0⟩
    (fun pre x a' V => Ks V x.1 x.2 ∧ (Wo.toksFrom 0 fs)[pre.length]? = some x.2 ∧ a' = { tmps := #[.slice ad N cap, undef, .slice none 0 0, .pointer (some ⟨w.heap.size + 1, 0, none⟩), x.1, .map (some w.heap.size), .slice ad N cap, .func (.func 35) #[] #[.pointer (some ⟨w.heap.size + 1 + 1, 0, none⟩)], x.1, undef, undef, undef, undef, undef], defers := [] })
    (fun pre x a' _ X Y row hs hg hr => by
      obtain ⟨h1, h2⟩ := hs
      exact ⟨h1.keepC (KeepC.grown hg fun r e => (hr r e).2), h2⟩)
    ?assign ?body ?done
  case assign =>
    rintro l2 pre ⟨u, x⟩ V K hs hi ⟨hk, hat, -⟩ hK
    dsimp only at hk hat
    have HK := Lib.hid (hK _ _ (KeepsFrom.refl _ _) (KeepC.refl _) hi ⟨hk, hat, rfl⟩)
    clear hk hat hi hK
    dsimp only
    gi_wp2
    exact HK.out
  case body =>
    rintro l2 pre ⟨u, x⟩ a' V hl2 - ⟨hg, hb, hB⟩ ⟨hx, hat, rfl⟩
    dsimp only at hx hat
    obtain ⟨hpl, -⟩ := List.getElem?_eq_some_iff.1 hat
    obtain ⟨hxl, hxt⟩ := HSl.out x (List.mem_of_getElem? hat)
    have key := CallsIn.inRound l2 (callsIn_wide (n := n - 1 - 1 - 1) |>.2 (gwords_any w.heap.size (1000 * pre.length) ((pre.map Prod.snd).flatMap Wo.words) u x (fun t ht => by have := hxt t ht; unfold maxLen; omega) (by omega) V hg hx))
    have cb := hb.cell
    have hnc := hg.not_cells
    have hgl := hg.lt
    dsimp only
    have Hb := Lib.hid hb
    have HB := Lib.hid hB
    have Hnc := Lib.hid hnc
    clear hx hat hxt hg hb hB hnc hsz
    gi_wp2_with fail
    refine ⟨trivial, fun h => by simp [Fence.wide] at h, key.mono ?_⟩
    rintro e w3 ⟨rfl, hg3, hgr3⟩
    have HG3 := Lib.hid hg3
    have HGr3 := Lib.hid hgr3
    clear key hg3 hgr3
    gi_wp2_with fail
    refine ⟨KeepsFrom.of_grownBy HGr3.out (fun j e => by cases e; rw [HSz.out]; omega), KeepC.grown HGr3.out (fun r e => by cases e; exact Hnc.out), ?_, Hb.out.kept HGr3.out (by simp), HB.out.grown HGr3.out HB.out.size (fun j e => by cases e; exact Nat.le_refl _)⟩
    have := HG3.out.mono (n' := 1000 * (pre ++ [((u, x) : Value × List K)]).length) (by simp; omega)
    rw [List.map_append, List.flatMap_append]
    simpa using this
  case done =>
    rintro D ys V hD hys ⟨hg, hb, hB⟩ hK
    have hyl := congrArg List.length hys
    rw [List.length_map] at hyl
    rw [hys] at hg
    have key := callsIn_wide (n := n - 1) |>.2 (gsorted_any w.heap.size (1000 * ys.length) ((Wo.toksFrom 0 fs).flatMap Wo.words) (by omega) V hg)
    have cb := hb.cell
    have hDl := lt_of_heap hK
    have HK := Lib.hid hK
    have HB := Lib.hid hB
    clear hg hb hB hK hys hyl hsz
    gi_wp2_with fail
    refine ⟨trivial, key.mono ?_⟩
    rintro e w4 ⟨u, rfl, hrow, hB4⟩
    have hK4 := (hB4.block D hDl).trans HK.out
    have HRow := Lib.hid hrow
    have HB4 := Lib.hid hB4
    clear key hrow hB4
    gi_wp2_with fail
    refine ⟨by simp, .inl ⟨_, _, rfl, run_takeDeferred hK4, ?_⟩⟩
    exact ⟨_, results_tmp rfl _ _ _, u, rfl, Sts.of_row (ownsRow_putObj HRow.out _ hK4 rfl), (below_from HB.out HB.out.size HB4.out).trans (belowK_b (w := w) (Nat.le_refl _) w4 D _ _ (by have := HSz.out; omega) hK4 rfl rfl)⟩

theorem wspelled_any (v : Value) (fs : Wo.Fs) (hsm : Wo.Small fs) (w : World) (hv : Fls w v fs) (hG : Glob w) :
    Calls Tryz.prog 10 #[v] w fun e w' => ∃ u, e = .returned u ∧ Sts w' u (Wo.spelled fs) ∧ Below w.heap.size w w' :=
  callsIn_wide.1 (wspelled_in 6 (by omega) v fs hsm w hv hG)
end Go.Proofs.YtdopmmnabhcigaaGreatDoor

/- What is proved: what Mains tells of files. -/
namespace Go.Proofs.YtdopmmnabhcigaaGreatDoor
open Go.RowKit Go.Shelf

namespace Wo
def isC (p : ByteArray) : Bool := Go.Lib.hasSuffix p.data.toList [46, 99]
def mainSt (out : List ByteArray) (f : ByteArray × ByteArray) : List ByteArray := if isC f.1 && !has out f.1 then out ++ [f.1] else out
/-- The files that are compiled. -/
def mains (fs : Fs) : List ByteArray := fs.foldl mainSt []
theorem mains_snoc (fs : Fs) (f : ByteArray × ByteArray) : mains (fs ++ [f]) = mainSt (mains fs) f := by simp [mains]
theorem mains_len (fs : Fs) : (mains fs).length ≤ fs.length := by
  induction fs using snoc_ind with
  | nil => exact Nat.le_refl _
  | snoc l a ih =>
    rw [mains_snoc]
    unfold mainSt
    split <;> simp <;> omega
end Wo

theorem hassuffix_any (s : ByteArray) (w : World) (hs : s.size ≤ maxLen) :
    Calls Tryz.prog 24 #[.string s, .string ⟨#[46, 99]⟩] w fun e w' => e = .returned (.bool (Wo.isC s)) ∧ w = w' :=
  (Any.strings_HasSuffix lays100 s ⟨#[46, 99]⟩ w (by unfold maxLen at hs; omega)).mono fun _ _ h => ⟨h.1, h.2.symm⟩

set_option maxRecDepth 100000 in
set_option maxHeartbeats 4000000 in
theorem wmains_any (v : Value) (fs : Wo.Fs) (hn : fs.length ≤ 1000) (hsz : ∀ f ∈ fs, f.1.size ≤ maxLen) (w : World) (hv : Fls w v fs) :
    Calls Tryz.prog 9 #[v] w fun e w' => ∃ u, e = .returned u ∧ Sts w' u (Wo.mains fs) ∧ Below w.heap.size w w' := by
  obtain ⟨i0, hi, hz0, hz1, hz2⟩ := info_parts infoStr
  obtain ⟨ad, cap, rfl, hc1, hc2, -⟩ := id hv
  have hmm := @run_makeMap Tryz.prog
  rcases Nat.eq_zero_or_pos fs.length with hz | hpos
  · have hts : fs = [] := List.length_eq_zero_iff.1 hz
    subst hts
    clear hv
    go_enter Tryz.func9, Tryz.ntmps9
    go_wp2_with fail
    go_loop [3, 10] (fun v i => v = .slice none 0 0 ∧ i = .int .i64 0) (fun _ _ => 0)
    case atStart => exact ⟨rfl, rfl⟩
    case round =>
      obtain ⟨rfl, rfl⟩ := hrel
      go_wp2_with fail
      go_ret
      exact ⟨_, rfl, Sts.none_at _ _ _ (Nat.zero_le _), (Below.refl _ w).alloc (Nat.le_refl _) _⟩
  · obtain ⟨g, o, rfl, -, -, -, hgl, hcell⟩ := hv.cells hpos
    obtain ⟨N, hN⟩ : ∃ N, N = fs.length := ⟨_, rfl⟩
    rw [← hN] at hc1 hpos hn ⊢
    have HN := Lib.hid hN
    have HC := Lib.hid hcell
    have HSz := Lib.hid hsz
    unfold maxLen at hc2
    have gn := Gth.new w
    have HG := Lib.hid gn
    clear hN hv hcell hsz gn
    go_enter Tryz.func9, Tryz.ntmps9
    go_wp2_with fail
    go_loopw [3, 10] (fun v i wr => ∃ k : Nat, i = .int .i64 k ∧ k ≤ N ∧ Gth wr w.heap.size k (Wo.mains (fs.take k)) ∧ wr.ownsRow (w.heap.size + 1) 9 1 v (Wo.mains (fs.take k)).length (strCells (Wo.mains (fs.take k))) ∧ Below w.heap.size w wr ∧ w.heap.size + 1 ≤ wr.heap.size) (fun _ i _ => N - (intOf i).toNat)
    case atStart => exact ⟨0, rfl, Nat.zero_le _, HG.out, World.ownsRow_nil _ _ _ _, (Below.refl _ w).alloc (Nat.le_refl _) _, by simp⟩
    case round =>
      obtain ⟨k, rfl, hk, hgk, hrow, hB, hws⟩ := hrel
      by_cases hlt : k < N
      · obtain ⟨f, hf⟩ : ∃ f, fs[k]? = some f := ⟨_, List.getElem?_eq_getElem (by rw [← HN.out]; exact hlt)⟩
        have hfz := HSz.out f (List.mem_of_getElem? hf)
        have hto : Wo.mains (fs.take (k + 1)) = Wo.mainSt (Wo.mains (fs.take k)) f := by
          rw [List.take_add_one, hf]; exact Wo.mains_snoc _ _
        have hol := Wo.mains_len (fs.take k)
        rw [List.length_take] at hol
        obtain ⟨c0, c1⟩ := HC.out k f hf
        replace c0 := (hB.cell (p := ⟨g, o + k * 2, none⟩) hgl).trans c0
        replace c1 := (hB.cell (p := ⟨g, o + k * 2 + 1, none⟩) hgl).trans c1
        obtain ⟨pa, tx⟩ := f
        dsimp only at c0 c1 hfz
        obtain ⟨out, hout⟩ : ∃ out, out = Wo.mains (fs.take k) := ⟨_, rfl⟩
        rw [← hout] at hgk hrow hto hol
        obtain ⟨m, hm⟩ : ∃ m, m = out.length := ⟨_, rfl⟩
        rw [← hm] at hrow hol
        have hg1 := hgk.kept (World.grownBy_alloc wr (.cells #[.string pa, .string tx] 33) none) (by simp)
        have hr1 := hrow.alloc (.cells #[.string pa, .string tx] 33)
        have hB1 := hB.alloc hB.size (.cells #[.string pa, .string tx] 33)
        have HTo := Lib.hid hto
        have HOut := Lib.hid hout
        have Hm := Lib.hid hm
        have HG1 := Lib.hid hg1
        have HR1 := Lib.hid hr1
        have HB1 := Lib.hid hB1
        have hmb : m ≤ 1000 := by omega
        clear hf hto hout hm hgk hrow hB hg1 hr1 hB1 hol
        have ks := hassuffix_any pa
        have ka := gadd_any w.heap.size k out pa hfz (by omega) _ HG1.out
        cases hC : Wo.isC pa with
        | false =>
          have hst : Wo.mainSt out (pa, tx) = out := by unfold Wo.mainSt; simp [hC]
          have HSt := Lib.hid hst
          clear hst ka
          go_wp2_with (first | (go_at_call 24; refine (ks _ hfz).mono ?_; rintro e w' ⟨rfl, rfl⟩; rw [hC]) | fail)
          go_roundw
          case rel =>
            refine ⟨k + 1, by go_num, by omega, ?_, ?_, HB1.out, by simp; omega⟩
            · rw [HTo.out, HSt.out]; exact HG1.out.mono (by omega)
            · rw [HTo.out, HSt.out, ← Hm.out]; exact HR1.out
          case measure => simp [intOf]; omega
        | true =>
          cases hh : Wo.has out pa with
          | true =>
            have hst : Wo.mainSt out (pa, tx) = out := by unfold Wo.mainSt; simp [hC, hh]
            have hsame : ∀ x, Wo.has (out ++ [pa]) x = Wo.has out x := fun x => by
              rw [has_snoc]
              by_cases e : pa = x
              · subst e; rw [hh]; rfl
              · simp [e]
            have HSt := Lib.hid hst
            have HSame := Lib.hid hsame
            rw [hh] at ka
            clear hst hsame hh
            go_wp2_with (first
              | (go_at_call 24; refine (ks _ hfz).mono ?_; rintro e w' ⟨rfl, rfl⟩; rw [hC])
              | (go_at_call 25; refine ka.mono ?_; rintro e w3 ⟨rfl, hg3, hgr3⟩)
              | fail)
            go_roundw
            case rel =>
              refine ⟨k + 1, by go_num, by omega, ?_, ?_, HB1.out.grown hgr3 HB1.out.size (fun j e => by cases e; exact Nat.le_refl _), by have := hgr3.size; simp at this; omega⟩
              · rw [HTo.out, HSt.out]; exact hg3.same HSame.out
              · rw [HTo.out, HSt.out, ← Hm.out]
                exact HR1.out.kept hgr3 (.inr fun e => by have := (HR1.out.lt _ e).1; omega)
            case measure => simp [intOf]; omega
          | false =>
            have hst : Wo.mainSt out (pa, tx) = out ++ [pa] := by unfold Wo.mainSt; simp [hC, hh]
            have HSt := Lib.hid hst
            rw [hh] at ka
            clear hst hh
            go_wp2_with (first
              | (go_at_call 24; refine (ks _ hfz).mono ?_; rintro e w' ⟨rfl, rfl⟩; rw [hC])
              | (go_at_call 25; refine ka.mono ?_; rintro e w3 ⟨rfl, hg3, hgr3⟩; have d0 : w3.cell? ⟨wr.heap.size, 0, none⟩ = some (.string pa) := (World.cell?_of_block (a := ⟨wr.heap.size, 0, none⟩) (hgr3.block _ (by simp) (by simp; omega))).trans (by rw [Lib.cell_of_heap (heap_alloc_new _ _)]; rfl); have hr3 := HR1.out.kept hgr3 (.inr fun e => by have := (HR1.out.lt _ e).1; omega); have hw3 := hgr3.size; rw [World.size_alloc] at hw3)
              | (at_builtin; refine wpList_append_own _ rfl _ _ 25 rfl (w.heap.size + 1) 9 i0 (.string ByteArray.empty) 1 16 Tryz.underlying25 hi hz0 hz1 hz2 rfl (by decide) _ _ _ rfl (hr3.alloc _) ⟨w3.heap.size, 0, none⟩ 1 1 [.string pa] rfl rfl (cell_one_new _ _ _) (by simp [Value.oneCell']) (by unfold maxLen; omega) (by omega) (by simp; omega) ?_; intro v' w5 hown5 hg5 hnil5; go_frame)
              | fail)
            go_roundw
            case rel =>
              refine ⟨k + 1, by go_num, by omega, ?_, ?_, ?_, ?_⟩
              · rw [HTo.out, HSt.out]
                exact (hg3.alloc _).kept hg5 (fun e => by have := (hr3.lt _ e.symm).1; omega)
              · rw [HTo.out, HSt.out, strCells_append, List.length_append, ← Hm.out]
                exact hown5
              · exact ((HB1.out.grown hgr3 HB1.out.size (fun j e => by cases e; exact Nat.le_refl _)).alloc (by omega) _).grown hg5 (by simp; omega) (fun j e => by have := (hr3.lt j e).1; omega)
              · have := hg5.size; simp at this; omega
            case measure => simp [intOf]; omega
      · obtain rfl : k = N := by omega
        rw [List.take_of_length_le (by rw [← HN.out]; exact Nat.le_refl _)] at hrow
        have HR := Lib.hid hrow
        have HB := Lib.hid hB
        clear hrow hB hgk
        go_wp2_with fail
        go_ret
        exact ⟨_, rfl, Sts.of_row HR.out, HB.out⟩
end Go.Proofs.YtdopmmnabhcigaaGreatDoor

/- What is proved: what Defs tells of any texts and any number. -/
namespace Go.Proofs.YtdopmmnabhcigaaGreatDoor
open Go.RowKit Go.Shelf

namespace Wo
/-- The texts whose places are bits of a set. -/
def dfsK (names : List ByteArray) (s k : Nat) : List ByteArray := (List.range k).filterMap fun i => if s.testBit i then names[i]? else none
def dfs (names : List ByteArray) (set : Int) : List ByteArray := dfsK names set.toNat names.length
def DefsOk (names : List ByteArray) (set : Int) : Prop := names.length ≤ 8 ∧ 0 ≤ set ∧ set < 2 ^ names.length
instance (names : List ByteArray) (set : Int) : Decidable (DefsOk names set) := inferInstanceAs (Decidable (_ ∧ _ ∧ _))
def defsL (names : List ByteArray) (set : Int) : List ByteArray := if DefsOk names set then dfs names set else []
def defsE (names : List ByteArray) (set : Int) : Int := if DefsOk names set then 0 else 1
theorem dfsK_succ (names : List ByteArray) (s k : Nat) (x : ByteArray) (hx : names[k]? = some x) : dfsK names s (k + 1) = dfsK names s k ++ (if s.testBit k then [x] else []) := by
  unfold dfsK
  rw [List.range_succ, List.filterMap_append]
  cases h : s.testBit k <;> simp [h, hx]
theorem dfsK_len (names : List ByteArray) (s k : Nat) : (dfsK names s k).length ≤ k := by
  unfold dfsK
  have := List.length_filterMap_le (fun i => if s.testBit i then names[i]? else none) (List.range k)
  simpa using this
theorem bit_and (s k : Nat) (hs : s < 256) (hk : k < 8) : (Go.bits .and .i64 ((s : Int) / 2 ^ k) 1 == 1) = s.testBit k := by
  have all : ∀ a : Fin 256, ∀ b : Fin 8, (Go.bits .and .i64 ((a.1 : Int) / 2 ^ b.1) 1 == 1) = a.1.testBit b.1 := by decide +kernel
  exact all ⟨s, hs⟩ ⟨k, hk⟩
end Wo

theorem pow_low {N : Nat} (h : N ≤ 8) : (0 : Int) ≤ 2 ^ N ∧ (2 : Int) ^ N ≤ 256 := by
  have hc : N = 0 ∨ N = 1 ∨ N = 2 ∨ N = 3 ∨ N = 4 ∨ N = 5 ∨ N = 6 ∨ N = 7 ∨ N = 8 := by omega
  rcases hc with rfl | rfl | rfl | rfl | rfl | rfl | rfl | rfl | rfl <;> decide
theorem pow_wrap {N : Nat} (h : N ≤ 8) : wrap64 ((2 : Int) ^ N) = 2 ^ N := by
  have := pow_low h
  exact IntWalk.wrap64_in _ (by omega)

set_option maxRecDepth 100000 in
set_option maxHeartbeats 4000000 in
theorem wdefs_any (v : Value) (names : List ByteArray) (set : Int) (w : World) (hv : Sts w v names) :
    Calls Tryz.prog 15 #[v, .int .i64 set] w fun e w' => ∃ u, e = .returned (.tuple #[u, .int .i64 (Wo.defsE names set)]) ∧ Sts w' u (Wo.defsL names set) ∧ Below w.heap.size w w' := by
  obtain ⟨i0, hi, hz0, hz1, hz2⟩ := info_parts infoStr
  obtain ⟨ad, cap, rfl, hc1, hc2, -⟩ := id hv
  obtain ⟨N, hN⟩ : ∃ N, N = names.length := ⟨_, rfl⟩
  rw [← hN] at hc1 ⊢
  have HN := Lib.hid hN
  have HV := Lib.hid hv
  unfold maxLen at hc2
  clear hv hN
  by_cases hok : Wo.DefsOk names set
  · obtain ⟨h1, h2, h3⟩ := id hok
    rw [← HN.out] at h1 h3
    have hl : Wo.defsL names set = Wo.dfs names set := by unfold Wo.defsL; rw [if_pos hok]
    have he : Wo.defsE names set = 0 := by unfold Wo.defsE; rw [if_pos hok]
    have hw := pow_wrap h1
    have hp256 := (pow_low h1).2
    have HP : Hid (set < 256) := Lib.hid (by omega)
    obtain ⟨p, hp⟩ : ∃ p : Int, p = 2 ^ N := ⟨_, rfl⟩
    rw [← hp] at h3
    replace hw : wrap64 ((2 : Int) ^ N) = p := hw.trans hp.symm
    have HL := Lib.hid hl
    have HE := Lib.hid he
    have t1 : ¬ ((8 : Int) < N) := by omega
    have t2 : ¬ (set < 0) := by omega
    have t3 : ¬ (p ≤ set) := by omega
    clear hok hl he hp hp256
    go_enter Tryz.func15, Tryz.ntmps15
    go_wp2_with fail
    go_loopw [6, 25] (fun v i wr => ∃ k : Nat, i = .int .i64 k ∧ k ≤ N ∧ wr.ownsRow w.heap.size 9 1 v (Wo.dfsK names set.toNat k).length (strCells (Wo.dfsK names set.toNat k)) ∧ Below w.heap.size w wr) (fun _ i _ => N - (intOf i).toNat)
    case atStart => exact ⟨0, rfl, Nat.zero_le _, World.ownsRow_nil _ _ _ _, Below.refl _ _⟩
    case round =>
      obtain ⟨k, rfl, hk, hrow, hB⟩ := hrel
      by_cases hlt : k < N
      · obtain ⟨x, hx⟩ : ∃ x, names[k]? = some x := ⟨_, List.getElem?_eq_getElem (by rw [← HN.out]; exact hlt)⟩
        obtain ⟨g, o, rfl, -, -, -, hgl, hcell⟩ := HV.out.cells (by rw [← HN.out]; omega)
        have c0 := (hB.cell (p := ⟨g, o + k, none⟩) hgl).trans (hcell k x hx)
        have hto := Wo.dfsK_succ names set.toNat k x hx
        have hol := Wo.dfsK_len names set.toNat k
        have hsn : (set.toNat : Int) = set := by omega
        have hbit := Wo.bit_and set.toNat k (by have := HP.out; omega) (by omega)
        rw [hsn] at hbit
        have HTo := Lib.hid hto
        have Hol := Lib.hid hol
        have z1 : (k : Int) < N := by omega
        obtain ⟨l, hll⟩ : ∃ l, l = Wo.dfsK names set.toNat k := ⟨_, rfl⟩
        rw [← hll] at hrow hol
        obtain ⟨m, hm⟩ : ∃ m, m = l.length := ⟨_, rfl⟩
        rw [← hm] at hrow hol
        have Hll := Lib.hid hll
        have Hm := Lib.hid hm
        clear hx hcell hto hsn hll hm
        cases hb : set.toNat.testBit k with
        | true =>
          rw [hb] at hbit
          have hb' := Lib.hid hb
          clear hb
          go_wp2_with (first
            | (at_builtin; refine wpList_append_own _ rfl _ _ 25 rfl w.heap.size 9 i0 (.string ByteArray.empty) 1 16 Tryz.underlying25 hi hz0 hz1 hz2 rfl (by decide) _ _ _ rfl (hrow.alloc _) ⟨wr.heap.size, 0, none⟩ 1 1 [.string x] rfl rfl (cell_one_new _ _ _) (by simp [Value.oneCell']) (by unfold maxLen; omega) (by omega) (by have := hB.size; simp; omega) ?_; intro v' w5 hown5 hg5 hnil5; go_frame)
            | fail)
          go_roundw
          case rel =>
            refine ⟨k + 1, by go_num, by omega, ?_, (hB.alloc hB.size _).grown hg5 (by have := hB.size; simp; omega) (fun j e => (hrow.lt j e).1)⟩
            rw [HTo.out, hb'.out, if_pos rfl, ← Hll.out, List.length_append, ← Hm.out, strCells_append]
            exact hown5
          case measure => simp [intOf]; omega
        | false =>
          rw [hb] at hbit
          have hb' := Lib.hid hb
          clear hb
          go_wp2_with fail
          go_roundw
          case rel =>
            refine ⟨k + 1, by go_num, by omega, ?_, hB⟩
            rw [HTo.out, hb'.out, if_neg (by simp), List.append_nil, ← Hll.out, ← Hm.out]
            exact hrow
          case measure => simp [intOf]; omega
      · obtain rfl : k = N := by omega
        have HR := Lib.hid hrow
        have HB := Lib.hid hB
        clear hrow hB
        go_wp2_with fail
        go_ret2
        refine ⟨_, by rw [HE.out]; rfl, ?_, HB.out⟩
        rw [HL.out]
        unfold Wo.dfs
        rw [← HN.out]
        exact Sts.of_row HR.out
  · have hl : Wo.defsL names set = [] := by unfold Wo.defsL; rw [if_neg hok]
    have he : Wo.defsE names set = 1 := by unfold Wo.defsE; rw [if_neg hok]
    have hcs : 8 < N ∨ (N ≤ 8 ∧ set < 0) ∨ (N ≤ 8 ∧ 0 ≤ set ∧ 2 ^ N ≤ set) := by
      rw [HN.out]
      by_cases h1 : names.length ≤ 8
      · by_cases h2 : 0 ≤ set
        · exact .inr (.inr ⟨h1, h2, Int.not_lt.1 fun h3 => hok ⟨h1, h2, h3⟩⟩)
        · exact .inr (.inl ⟨h1, by omega⟩)
      · exact .inl (by omega)
    have HL := Lib.hid hl
    have HE := Lib.hid he
    clear hok hl he
    rcases hcs with h1 | ⟨h1, h2⟩ | ⟨h1, h2, h3⟩
    · have t1 : (8 : Int) < N := by omega
      go_enter Tryz.func15, Tryz.ntmps15
      go_wp2_with fail
      go_ret2
      exact ⟨.slice none 0 0, by rw [HE.out]; rfl, by rw [HL.out]; exact Sts.none_at _ _ _ (Nat.zero_le _), Below.refl _ _⟩
    · have t1 : ¬ ((8 : Int) < N) := by omega
      go_enter Tryz.func15, Tryz.ntmps15
      go_wp2_with fail
      go_ret2
      exact ⟨.slice none 0 0, by rw [HE.out]; rfl, by rw [HL.out]; exact Sts.none_at _ _ _ (Nat.zero_le _), Below.refl _ _⟩
    · have hw := pow_wrap h1
      obtain ⟨p, hp⟩ : ∃ p : Int, p = 2 ^ N := ⟨_, rfl⟩
      rw [← hp] at h3
      have hw2 : wrap64 ((2 : Int) ^ N) = p := hw.trans hp.symm
      have t1 : ¬ ((8 : Int) < N) := by omega
      have t2 : ¬ (set < 0) := by omega
      clear hp hw
      go_enter Tryz.func15, Tryz.ntmps15
      go_wp2_with fail
      go_ret2
      exact ⟨.slice none 0 0, by rw [HE.out]; rfl, by rw [HL.out]; exact Sts.none_at _ _ _ (Nat.zero_le _), Below.refl _ _⟩
end Go.Proofs.YtdopmmnabhcigaaGreatDoor

/- What is proved: what Set tells of any texts. -/
namespace Go.Proofs.YtdopmmnabhcigaaGreatDoor
open Go.RowKit Go.Shelf

namespace Wo
/-- The first place of a text. -/
def idx (names : List ByteArray) (x : ByteArray) : Nat := names.findIdx fun y => decide (y = x)
/-- The set of places of texts. -/
def bitsOf (names : List ByteArray) (ds : List ByteArray) : Nat := ds.foldl (fun s d => s ||| 2 ^ idx names d) 0
theorem bitsOf_snoc (names ds : List ByteArray) (d : ByteArray) : bitsOf names (ds ++ [d]) = bitsOf names ds ||| 2 ^ idx names d := by simp [bitsOf]
def SetOk (names ds : List ByteArray) : Prop := ∀ d ∈ ds, d ∈ names
/-- What Set tells. -/
def setV (names ds : List ByteArray) : Int × Int := if 8 < names.length then (0, 1) else if ds.all (has names) then (bitsOf names ds, 0) else (0, 60)
theorem idx_lt {names : List ByteArray} {x : ByteArray} (h : x ∈ names) : idx names x < names.length := List.findIdx_lt_length_of_exists ⟨x, h, by simp⟩
theorem bitsOf_lt (names : List ByteArray) (hn : names.length ≤ 8) (ds : List ByteArray) : SetOk names ds → bitsOf names ds < 256 := by
  induction ds using snoc_ind with
  | nil => intro _; show 0 < 256; omega
  | snoc l a ih =>
    intro h
    rw [bitsOf_snoc]
    have h1 := ih fun d hd => h d (by simp [hd])
    have h2 := idx_lt (h a (by simp))
    have h3 : 2 ^ idx names a < 2 ^ 8 := Nat.pow_lt_pow_right (by omega) (by omega)
    exact Nat.or_lt_two_pow (n := 8) h1 h3
end Wo
theorem wrapped (n : Nat) (h : n ≤ 65536) : IntKind.i64.wrap (n : Int) = (n : Int) := IntWalk.i64_in _ (by omega)
theorem or_nat (a b : Nat) (ha : a < 256) (hb : b < 256) : Go.bits .or .i64 (a : Int) (b : Int) = ((a ||| b : Nat) : Int) := by
  have hx : a ||| b < 2 ^ 8 := Nat.or_lt_two_pow (by omega) (by omega)
  have ea : (BitVec.ofInt 64 (a : Int)).toNat = a := by rw [BitVec.ofInt_natCast, BitVec.toNat_ofNat]; exact Nat.mod_eq_of_lt (by omega)
  have eb : (BitVec.ofInt 64 (b : Int)).toNat = b := by rw [BitVec.ofInt_natCast, BitVec.toNat_ofNat]; exact Nat.mod_eq_of_lt (by omega)
  show IntKind.i64.wrap ((BitVec.ofInt 64 (a : Int) ||| BitVec.ofInt 64 (b : Int)).toNat : Int) = _
  rw [BitVec.toNat_or, ea, eb]
  exact wrapped _ (by omega)
def idxV (names : List ByteArray) (x : ByteArray) : Int := if Wo.has names x then (Wo.idx names x : Int) else -1
theorem index_str_any (v : Value) (names : List ByteArray) (x : ByteArray) (w : World) (hv : Sts w v names) :
    Calls Tryz.prog 29 #[v, .string x] w fun e w' => e = .returned (.int .i64 (idxV names x)) ∧ w = w' := by
  have he : Lib.idxOfS names x = idxV names x := by
    unfold idxV
    cases hh : Wo.has names x with
    | true =>
      have hm := (Wo.has_iff _ _).1 hh
      have hlt := Wo.idx_lt hm
      have h1 := Lib.idxOfS_hit names names.length (Wo.idx names x) x hlt (Nat.le_refl _) (by
        rw [List.getD_eq_getElem?_getD, List.getElem?_eq_getElem hlt]
        show names[Wo.idx names x] = x
        exact of_decide_eq_true (List.findIdx_getElem (xs := names) (w := hlt))) (fun j hj => by
        have hjl : j < names.length := Nat.lt_trans hj hlt
        have := List.not_of_lt_findIdx (p := fun y => decide (y = x)) (xs := names) hj
        rw [List.getD_eq_getElem?_getD, List.getElem?_eq_getElem hjl]
        simpa using this)
      rw [List.take_of_length_le (Nat.le_refl _)] at h1
      rw [if_pos rfl]
      exact h1
    | false =>
      have hm := (Wo.has_not _ _).1 hh
      have h1 := Lib.idxOfS_miss names names.length x (fun j hj e => hm (by
        rw [List.getD_eq_getElem?_getD, List.getElem?_eq_getElem hj] at e
        rw [← e]
        exact List.getElem_mem hj))
      rw [List.take_of_length_le (Nat.le_refl _)] at h1
      rw [if_neg (by simp)]
      exact h1
  obtain ⟨ad, cap, rfl, hc1, hc2, hc⟩ := id hv
  rcases Nat.eq_zero_or_pos names.length with hz | hpos
  · have h0 : names = [] := List.length_eq_zero_iff.1 hz
    subst h0
    exact (Any.slices_Index_string_empty lays109 ad cap x w).mono fun _ _ h => ⟨by rw [h.1, he], h.2.symm⟩
  · obtain ⟨g, o, rfl, -, -, -, -, hcell⟩ := hv.cells hpos
    unfold maxLen at hc2
    refine (Any.slices_Index_string lays109 g o names.length cap names x w (Nat.le_refl _) (by omega) (fun j hj => ?_)).mono fun _ _ h => ⟨by rw [h.1, List.take_of_length_le (Nat.le_refl _), he], h.2.symm⟩
    rw [List.getD_eq_getElem?_getD, List.getElem?_eq_getElem hj]
    exact hcell j _ (List.getElem?_eq_getElem hj)

set_option maxRecDepth 100000 in
set_option maxHeartbeats 4000000 in
theorem wset_any (v u : Value) (names ds : List ByteArray) (w : World) (hv : Sts w v names) (hu : Sts w u ds) :
    Calls Tryz.prog 16 #[v, u] w fun e w' => e = .returned (.tuple #[.int .i64 (Wo.setV names ds).1, .int .i64 (Wo.setV names ds).2]) ∧ w = w' := by
  have kI := fun x => index_str_any v names x w hv
  obtain ⟨ad, cap, rfl, hc1, hc2, -⟩ := id hv
  obtain ⟨bd, cbp, rfl, hd1, hd2, -⟩ := id hu
  unfold maxLen at hc2 hd2
  obtain ⟨N, hN⟩ : ∃ N, N = names.length := ⟨_, rfl⟩
  obtain ⟨M, hM⟩ : ∃ M, M = ds.length := ⟨_, rfl⟩
  obtain ⟨R, hR⟩ : ∃ R, R = Wo.setV names ds := ⟨_, rfl⟩
  rw [← hN] at kI hc1
  rw [← hM] at hd1
  rw [← hR, ← hN, ← hM]
  have HR := Lib.hid hR
  have HN := Lib.hid hN
  have HM := Lib.hid hM
  have hu' : Sts w (.slice bd M cbp) ds := by rw [hM]; exact hu
  have HU := Lib.hid hu'
  clear hv hu hu' hN hM hR
  by_cases h8 : 8 < N
  · have t1 : (8 : Int) < N := by omega
    have HE : Hid (R = (0, 1)) := Lib.hid (by rw [HR.out]; unfold Wo.setV; rw [if_pos (by rw [← HN.out]; exact h8)])
    clear kI
    go_enter Tryz.func16, Tryz.ntmps16
    go_wp2_with fail
    go_ret2
    exact ⟨by rw [HE.out]; rfl, rfl⟩
  · have t1 : ¬ ((8 : Int) < N) := by omega
    have hnl : names.length ≤ 8 := by rw [← HN.out]; omega
    have HNl := Lib.hid hnl
    have HE : Hid (R = if ds.all (Wo.has names) then ((Wo.bitsOf names ds : Int), 0) else (0, 60)) := Lib.hid (by rw [HR.out]; unfold Wo.setV; rw [if_neg (by rw [← HN.out]; exact h8)])
    clear hnl
    go_enter Tryz.func16, Tryz.ntmps16
    go_wp2_with fail
    go_loop [6, 15] (fun q i => ∃ k : Nat, i = .int .i64 k ∧ k ≤ M ∧ q = .int .i64 (Wo.bitsOf names (ds.take k)) ∧ Wo.SetOk names (ds.take k)) (fun _ i => M - (intOf i).toNat)
    case atStart => exact ⟨0, rfl, Nat.zero_le _, rfl, fun d hd => by simp at hd⟩
    case round =>
      obtain ⟨k, rfl, hk, rfl, hok⟩ := hrel
      by_cases hlt : k < M
      · obtain ⟨d, hd⟩ : ∃ d, ds[k]? = some d := ⟨_, List.getElem?_eq_getElem (by rw [← HM.out]; exact hlt)⟩
        obtain ⟨g, o, rfl, -, -, -, -, hcell⟩ := HU.out.cells (by rw [← HM.out]; omega)
        have c0 := hcell k d hd
        have key := kI d
        unfold idxV at key
        have htk : ds.take (k + 1) = ds.take k ++ [d] := by rw [List.take_add_one, hd]; rfl
        have hql := Wo.bitsOf_lt names HNl.out _ hok
        obtain ⟨q, hq⟩ : ∃ q, q = Wo.bitsOf names (ds.take k) := ⟨_, rfl⟩
        rw [← hq] at hql ⊢
        have HQ := Lib.hid hq
        have HOk := Lib.hid hok
        have HTk := Lib.hid htk
        have z1 : (k : Int) < M := by omega
        cases hh : Wo.has names d with
        | true =>
          rw [hh, if_pos rfl] at key
          have hm := (Wo.has_iff _ _).1 hh
          have hil := Wo.idx_lt hm
          have h8' := HNl.out
          obtain ⟨i, hi⟩ : ∃ i, i = Wo.idx names d := ⟨_, rfl⟩
          rw [← hi] at key hil
          have hi8 : i < 8 := by omega
          have hp1 := pow_wrap (N := i) (by omega)
          have hp2 : (2 : Nat) ^ i < 2 ^ 8 := Nat.pow_lt_pow_right (by omega) hi8
          have hp3 : ((2 : Int) ^ i) = ((2 ^ i : Nat) : Int) := by rw [Int.natCast_pow]; rfl
          rw [hp3] at hp1
          obtain ⟨p, hp⟩ : ∃ p, p = 2 ^ i := ⟨_, rfl⟩
          rw [← hp] at hp1 hp2 hp3
          have hor := or_nat q p hql hp2
          have hw : wrap64 ((2 : Int) ^ i) = p := by rw [hp3]; exact hp1
          have hqp : q ||| p < 2 ^ 8 := Nat.or_lt_two_pow (n := 8) hql hp2
          have HI := Lib.hid hi
          have HP := Lib.hid hp
          have HMm := Lib.hid hm
          have z2 : ¬ ((i : Int) < 0) := by omega
          clear hd hcell htk hq hok hi hp hh hm hp1 hp3 kI
          go_wp2_with (first | (go_at_call 29; refine key.mono ?_; rintro e w' ⟨rfl, rfl⟩) | fail)
          go_round
          case rel =>
            refine ⟨k + 1, by go_num, by omega, ?_, ?_⟩
            · rw [HTk.out, Wo.bitsOf_snoc, ← HQ.out, ← HI.out, ← HP.out]
            · rw [HTk.out]
              intro y hy
              rcases List.mem_append.1 hy with hy | hy
              · exact HOk.out y hy
              · simp at hy; subst hy; exact HMm.out
          case measure => simp [intOf]; omega
        | false =>
          rw [hh, if_neg (by simp)] at key
          have hne : R = (0, 60) := by
            rw [HE.out, if_neg]
            intro h
            rw [List.all_eq_true] at h
            rw [h d (List.mem_of_getElem? hd)] at hh
            cases hh
          have HNe := Lib.hid hne
          clear hd hcell htk hq hok hh hne kI
          go_wp2_with (first | (go_at_call 29; refine key.mono ?_; rintro e w' ⟨rfl, rfl⟩) | fail)
          go_ret2
          exact ⟨by rw [HNe.out]; rfl, rfl⟩
      · obtain rfl : k = M := by omega
        have hft : ds.take k = ds := List.take_of_length_le (by rw [← HM.out]; exact Nat.le_refl _)
        rw [hft] at hok ⊢
        have hal : ds.all (Wo.has names) = true := List.all_eq_true.2 fun d hd => (Wo.has_iff _ _).2 (hok d hd)
        have hne : R = ((Wo.bitsOf names ds : Int), 0) := by rw [HE.out, if_pos hal]
        have HNe := Lib.hid hne
        obtain ⟨q, hq⟩ : ∃ q, q = Wo.bitsOf names ds := ⟨_, rfl⟩
        rw [← hq]
        have HQ := Lib.hid hq
        clear hft hok hal hne hq kI
        go_wp2_with fail
        go_ret2
        exact ⟨by rw [HNe.out, ← HQ.out]; rfl, rfl⟩
end Go.Proofs.YtdopmmnabhcigaaGreatDoor

/- What is proved: what the document's own Same, Has and Short tell. -/
namespace Go.Proofs.YtdopmmnabhcigaaGreatDoor
open Go.RowKit Go.Shelf

theorem lit_beq (t : ByteArray) (l : List UInt8) : (t.toList == l) = decide (t = ⟨l.toArray⟩) := by
  rw [← ba_beq, Lib.toList_data ⟨l.toArray⟩]
theorem lit_no {t : ByteArray} {l : List UInt8} (h : ¬ t = ⟨l.toArray⟩) : (t.toList == l) = false := by rw [lit_beq]; exact decide_eq_false h
theorem lit_yes {t : ByteArray} {l : List UInt8} (h : t = ⟨l.toArray⟩) : (t.toList == l) = true := by rw [lit_beq]; exact decide_eq_true h
theorem lit_ne {a b : ByteArray} (h : ¬ a = b) : (a.toList == b.toList) = false := by rw [ba_beq]; exact decide_eq_false h

set_option maxRecDepth 100000 in
set_option maxHeartbeats 4000000 in
theorem rsame_any (v u : Value) (a b : List ByteArray) (w : World) (hv : Sts w v a) (hu : Sts w u b) :
    Calls Tryz.prog 11 #[v, u] w fun e w' => e = .returned (.bool (decide (a = b))) ∧ Below w.heap.size w w' := by
  obtain ⟨ad, cap, rfl, hc1, hc2, -⟩ := id hv
  obtain ⟨bd, cbp, rfl, hd1, hd2, -⟩ := id hu
  unfold maxLen at hc2 hd2
  obtain ⟨R, hR⟩ : ∃ R, R = decide (a = b) := ⟨_, rfl⟩
  obtain ⟨N, hN⟩ : ∃ N, N = a.length := ⟨_, rfl⟩
  obtain ⟨M, hM⟩ : ∃ M, M = b.length := ⟨_, rfl⟩
  rw [← hN] at hc1
  rw [← hM] at hd1
  rw [← hR, ← hN, ← hM]
  have HV : Hid (Sts w (.slice ad N cap) a) := Lib.hid (by rw [hN]; exact hv)
  have HU : Hid (Sts w (.slice bd M cbp) b) := Lib.hid (by rw [hM]; exact hu)
  have HR := Lib.hid hR
  have HN := Lib.hid hN
  have HM := Lib.hid hM
  clear hv hu hR hN hM
  by_cases hl : N = M
  · subst hl
    have t0 : ((N : Int) != N) = false := by simp
    go_enter Tryz.func11, Tryz.ntmps11
    go_wp2_with fail
    go_loopw [5] (fun i wr => ∃ k : Nat, i = .int .i64 k ∧ k ≤ N ∧ a.take k = b.take k ∧ Below w.heap.size w wr) (fun i _ => N - (intOf i).toNat)
    case atStart => exact ⟨0, rfl, Nat.zero_le _, rfl, Below.refl _ _⟩
    case round =>
      obtain ⟨k, rfl, hk, hab, hB⟩ := hrel
      by_cases hlt : k < N
      · obtain ⟨g, o, rfl, -, -, -, hg, hc⟩ := HV.out.cells (by rw [← HN.out]; omega)
        obtain ⟨g', o', rfl, -, -, -, hg', hc'⟩ := HU.out.cells (by rw [← HM.out]; omega)
        obtain ⟨x, hx⟩ : ∃ x, a[k]? = some x := ⟨_, List.getElem?_eq_getElem (by rw [← HN.out]; exact hlt)⟩
        obtain ⟨y, hy⟩ : ∃ y, b[k]? = some y := ⟨_, List.getElem?_eq_getElem (by rw [← HM.out]; exact hlt)⟩
        have d0 := (hB.cell (p := ⟨g, o + k, none⟩) hg).trans (hc k x hx)
        have d1 := (hB.cell (p := ⟨g', o' + k, none⟩) hg').trans (hc' k y hy)
        have z1 : (0 : Int) ≤ k := by omega
        have z2 : (k : Int) < N := by omega
        have HAb := Lib.hid hab
        by_cases hxy : x = y
        · subst hxy
          have hab2 : a.take (k + 1) = b.take (k + 1) := by rw [List.take_add_one, List.take_add_one, hab, hx, hy]
          have HAb2 := Lib.hid hab2
          have t4 : (x.toList != x.toList) = false := by simp
          clear hc hc' hx hy hab hab2
          go_wp2_with fail
          go_quiet (fail)
          go_wp2_with fail
          go_roundw
          case rel => exact ⟨k + 1, by go_num, by omega, HAb2.out, below_drewN hB _⟩
          case measure => simp [intOf]; omega
        · have hne : R = false := by
            rw [HR.out]
            refine decide_eq_false fun e => hxy ?_
            rw [e, hy] at hx
            exact (Option.some.inj hx).symm
          have HNe := Lib.hid hne
          have t6 := lit_ne hxy
          have t4 : (x.toList != y.toList) = true := by simpa using t6
          clear hc hc' hx hy hab hxy hne
          go_wp2_with fail
          go_quiet (fail)
          go_wp2_with fail
          go_ret
          exact ⟨by rw [HNe.out]; rfl, below_drewN hB _⟩
      · have he : R = true := by
          rw [HR.out]
          refine decide_eq_true ?_
          rw [← List.take_of_length_le (l := a) (i := k) (by rw [← HN.out]; omega), hab, List.take_of_length_le (by rw [← HM.out]; omega)]
        have HE := Lib.hid he
        clear hab he
        go_wp2_with fail
        go_ret
        exact ⟨by rw [HE.out]; rfl, hB⟩
  · have t0 : ((N : Int) != M) = true := by simpa using fun e => hl (by omega)
    have HE : Hid (R = false) := Lib.hid (by rw [HR.out]; exact decide_eq_false fun e => hl (by rw [HN.out, HM.out, e]))
    go_enter Tryz.func11, Tryz.ntmps11
    go_wp2_with fail
    go_ret
    exact ⟨by rw [HE.out]; rfl, Below.refl _ _⟩

set_option maxRecDepth 100000 in
set_option maxHeartbeats 4000000 in
theorem rhas_any (v : Value) (a : List ByteArray) (s : ByteArray) (w : World) (hv : Sts w v a) :
    Calls Tryz.prog 22 #[v, .string s] w fun e w' => e = .returned (.bool (Wo.has a s)) ∧ w = w' := by
  obtain ⟨ad, cap, rfl, hc1, hc2, -⟩ := id hv
  unfold maxLen at hc2
  obtain ⟨R, hR⟩ : ∃ R, R = Wo.has a s := ⟨_, rfl⟩
  obtain ⟨N, hN⟩ : ∃ N, N = a.length := ⟨_, rfl⟩
  rw [← hN] at hc1
  rw [← hR, ← hN]
  have HV : Hid (Sts w (.slice ad N cap) a) := Lib.hid (by rw [hN]; exact hv)
  have HR := Lib.hid hR
  have HN := Lib.hid hN
  clear hv hR hN
  go_enter Tryz.func22, Tryz.ntmps22
  go_wp2_with fail
  go_loop [5] (fun i => ∃ k : Nat, i = .int .i64 k ∧ k ≤ N ∧ s ∉ a.take k) (fun i => N - (intOf i).toNat)
  case atStart => exact ⟨0, rfl, Nat.zero_le _, by simp⟩
  case round =>
    obtain ⟨k, rfl, hk, hab⟩ := hrel
    by_cases hlt : k < N
    · obtain ⟨g, o, rfl, -, -, -, hg, hc⟩ := HV.out.cells (by rw [← HN.out]; omega)
      obtain ⟨x, hx⟩ : ∃ x, a[k]? = some x := ⟨_, List.getElem?_eq_getElem (by rw [← HN.out]; exact hlt)⟩
      have d0 := hc k x hx
      have z1 : (0 : Int) ≤ k := by omega
      have z2 : (k : Int) < N := by omega
      by_cases hxy : x = s
      · subst hxy
        have he : R = true := by rw [HR.out]; exact (Wo.has_iff _ _).2 (List.mem_of_getElem? hx)
        have HE := Lib.hid he
        have t4 : (x.toList == x.toList) = true := by simp
        clear hc hx hab he
        go_wp2_with fail
        go_ret
        exact ⟨by rw [HE.out]; rfl, rfl⟩
      · have hn2 : s ∉ a.take (k + 1) := by
          rw [List.take_add_one, hx]
          intro h
          rcases List.mem_append.1 h with h | h
          · exact hab h
          · simp at h; exact hxy h.symm
        have HN2 := Lib.hid hn2
        have t4 := lit_ne hxy
        clear hc hx hab hxy hn2
        go_wp2_with fail
        go_round
        case rel => exact ⟨k + 1, by go_num, by omega, HN2.out⟩
        case measure => simp [intOf]; omega
    · have he : R = false := by
        rw [HR.out]
        refine (Wo.has_not _ _).2 ?_
        rwa [List.take_of_length_le (by rw [← HN.out]; omega)] at hab
      have HE := Lib.hid he
      clear hab he
      go_wp2_with fail
      go_ret
      exact ⟨by rw [HE.out]; rfl, rfl⟩

/-- Are files few, and short? -/
def Wo.short (fs : Wo.Fs) (m : Nat) : Bool := decide (fs.length ≤ 6) && fs.all fun f => decide (f.2.size ≤ m) && decide (f.1.size ≤ 100)
set_option maxRecDepth 100000 in
set_option maxHeartbeats 4000000 in
theorem rshort_any (v : Value) (fs : Wo.Fs) (m : Nat) (hm : m ≤ 1000) (w : World) (hv : Fls w v fs) (hz : ∀ f ∈ fs, f.2.size ≤ maxLen ∧ f.1.size ≤ maxLen) :
    Calls Tryz.prog 5 #[v, .int .i64 m] w fun e w' => e = .returned (.bool (Wo.short fs m)) ∧ w = w' := by
  obtain ⟨ad, cap, rfl, hc1, hc2, -⟩ := id hv
  unfold maxLen at hc2
  obtain ⟨R, hR⟩ : ∃ R, R = Wo.short fs m := ⟨_, rfl⟩
  obtain ⟨N, hN⟩ : ∃ N, N = fs.length := ⟨_, rfl⟩
  rw [← hN] at hc1
  rw [← hR, ← hN]
  have HV : Hid (Fls w (.slice ad N cap) fs) := Lib.hid (by rw [hN]; exact hv)
  have HR := Lib.hid hR
  have HN := Lib.hid hN
  have HZ := Lib.hid hz
  clear hv hR hN hz
  by_cases h6 : 6 < N
  · have t0 : (6 : Int) < N := by omega
    have HE : Hid (R = false) := Lib.hid (by rw [HR.out]; unfold Wo.short; rw [decide_eq_false (by rw [← HN.out]; omega)]; rfl)
    go_enter Tryz.func5, Tryz.ntmps5
    go_wp2_with fail
    go_ret
    exact ⟨by rw [HE.out]; rfl, rfl⟩
  · have t0 : ¬ ((6 : Int) < N) := by omega
    go_enter Tryz.func5, Tryz.ntmps5
    go_wp2_with fail
    go_loop [5] (fun i => ∃ k : Nat, i = .int .i64 k ∧ k ≤ N ∧ ∀ f ∈ fs.take k, f.2.size ≤ m ∧ f.1.size ≤ 100) (fun i => N - (intOf i).toNat)
    case atStart => exact ⟨0, rfl, Nat.zero_le _, by simp⟩
    case round =>
      obtain ⟨k, rfl, hk, hab⟩ := hrel
      by_cases hlt : k < N
      · obtain ⟨g, o, rfl, -, -, -, hg, hc⟩ := HV.out.cells (by rw [← HN.out]; omega)
        obtain ⟨f, hf⟩ : ∃ f, fs[k]? = some f := ⟨_, List.getElem?_eq_getElem (by rw [← HN.out]; exact hlt)⟩
        obtain ⟨d0, d1⟩ := hc k f hf
        obtain ⟨hz1, hz2⟩ := HZ.out f (List.mem_of_getElem? hf)
        unfold maxLen at hz1 hz2
        have z1 : (0 : Int) ≤ k := by omega
        have z2 : (k : Int) < N := by omega
        have hmem := List.mem_of_getElem? hf
        have hbad : ¬ (f.2.size ≤ m ∧ f.1.size ≤ 100) → R = false := fun h => by
          rw [HR.out]
          unfold Wo.short
          rw [Bool.and_eq_false_iff]
          right
          cases ha : fs.all (fun f => decide (f.2.size ≤ m) && decide (f.1.size ≤ 100)) with
          | false => rfl
          | true =>
            have := List.all_eq_true.1 ha f hmem
            simp only [Bool.and_eq_true, decide_eq_true_eq] at this
            exact absurd this h
        have hgood : f.2.size ≤ m ∧ f.1.size ≤ 100 → ∀ q ∈ fs.take (k + 1), q.2.size ≤ m ∧ q.1.size ≤ 100 := fun h q hq => by
          rw [List.take_add_one, hf] at hq
          rcases List.mem_append.1 hq with hq | hq
          · exact hab q hq
          · simp at hq; subst hq; exact h
        have HBad := Lib.hid hbad
        have HGood := Lib.hid hgood
        obtain ⟨pa, tx⟩ := f
        dsimp only at d0 d1 hz1 hz2 HBad HGood
        clear hc hf hab hmem hbad hgood
        by_cases h1 : tx.size ≤ m
        · have t1 : ¬ ((m : Int) < tx.size) := by omega
          by_cases h2 : pa.size ≤ 100
          · have t2 : ¬ ((100 : Int) < pa.size) := by omega
            have HG := Lib.hid (HGood.out ⟨h1, h2⟩)
            go_wp2_with fail
            go_round
            case rel => exact ⟨k + 1, by go_num, by omega, HG.out⟩
            case measure => simp [intOf]; omega
          · have t2 : (100 : Int) < pa.size := by omega
            have HG := Lib.hid (HBad.out fun h => h2 h.2)
            go_wp2_with fail
            go_ret
            exact ⟨by rw [HG.out]; rfl, rfl⟩
        · have t1 : (m : Int) < tx.size := by omega
          have HG := Lib.hid (HBad.out fun h => h1 h.1)
          go_wp2_with fail
          go_ret
          exact ⟨by rw [HG.out]; rfl, rfl⟩
      · have he : R = true := by
          rw [HR.out]
          unfold Wo.short
          rw [decide_eq_true (by rw [← HN.out]; omega), Bool.true_and, List.all_eq_true]
          intro f hf
          have := hab f (by rw [List.take_of_length_le (by rw [← HN.out]; omega)]; exact hf)
          simp [this.1, this.2]
        have HE := Lib.hid he
        clear hab he
        go_wp2_with fail
        go_ret
        exact ⟨by rw [HE.out]; rfl, rfl⟩
end Go.Proofs.YtdopmmnabhcigaaGreatDoor

/- What is proved: the statements' own examples come out true. -/
namespace Go.Proofs.YtdopmmnabhcigaaGreatDoor
open Go.RowKit Go.Shelf

namespace Wo
def tA : ByteArray := ⟨#[65]⟩
def tB : ByteArray := ⟨#[66]⟩
def tC : ByteArray := ⟨#[67]⟩
def tX : ByteArray := ⟨#[88]⟩
def pA : ByteArray := ⟨#[97, 46, 99]⟩
def pB : ByteArray := ⟨#[98, 46, 104]⟩
def pX : ByteArray := ⟨#[120, 47, 121, 46, 99]⟩
def pC : ByteArray := ⟨#[46, 99]⟩
def exT : ByteArray := ⟨#[35, 105, 102, 32, 65, 32, 38, 38, 32, 100, 101, 102, 105, 110, 101, 100, 40, 66, 41, 32, 124, 124, 32, 88, 32, 62, 32, 49, 10, 35, 101, 110, 100, 105, 102, 10, 35, 100, 101, 102, 105, 110, 101, 32, 88, 32, 50, 10, 35, 105, 102, 100, 101, 102, 32, 67, 10, 35, 101, 110, 100, 105, 102]⟩
def exF : Fs := [(pA, exT)]
def exM : Fs := [(pA, ⟨#[]⟩), (pB, ⟨#[]⟩), (pX, ⟨#[]⟩), (pC, ⟨#[]⟩)]
theorem ex1 : names exF = [tA, tB, tC] := by kernel_rfl
theorem ex2 : namesE exF = 0 := by kernel_rfl
theorem ex3 : known exF = [tX] := by kernel_rfl
theorem ex4 : defsL [tA, tB, tC] 5 = [tA, tC] := by kernel_rfl
theorem ex5 : defsE [tA, tB, tC] 5 = 0 := by kernel_rfl
theorem ex6 : setV [tA, tB, tC] [tC, tA] = (5, 0) := by kernel_rfl
theorem ex7 : setV [tA] [tB] = (0, 60) := by kernel_rfl
theorem ex8 : mains exM = [pA, pX, pC] := by kernel_rfl
theorem exSmall : Small exF := by
  refine ⟨by decide, fun f hf => ?_⟩
  simp only [exF, List.mem_cons, List.not_mem_nil, or_false] at hf
  subst hf
  exact ⟨by decide, by decide⟩
end Wo

theorem sts_new (W : World) (l : List ByteArray) (hl : l.length ≤ maxLen) : Sts (W.alloc (.cells (strCells l).toArray 9)) (.slice (some ⟨W.heap.size, 0, none⟩) l.length l.length) l := by
  refine ⟨_, _, rfl, Nat.le_refl _, hl, fun i s hs => ⟨W.heap.size, 0, rfl, ?_⟩⟩
  rw [Lib.cell_of_heap (heap_alloc_new W _), Nat.zero_add, List.getElem?_toArray]
  exact strCells_get hs
theorem fls_new (W : World) (l : Wo.Fs) (hl : l.length ≤ maxLen) : Fls (W.alloc (.cells (flCells l).toArray 33)) (.slice (some ⟨W.heap.size, 0, none⟩) l.length l.length) l := by
  refine ⟨_, _, rfl, Nat.le_refl _, hl, fun i s hs => ⟨W.heap.size, 0, rfl, ?_, ?_⟩⟩
  · rw [Lib.cell_of_heap (heap_alloc_new W _), Nat.zero_add, List.getElem?_toArray]
    exact (flCells_get l i s hs).1
  · rw [Lib.cell_of_heap (heap_alloc_new W _), Nat.zero_add, List.getElem?_toArray]
    exact (flCells_get l i s hs).2
theorem same_yes (v u : Value) (a : List ByteArray) (w : World) (hv : Sts w v a) (hu : Sts w u a) :
    Calls Tryz.prog 11 #[v, u] w fun e w' => e = .returned (.bool true) ∧ Below w.heap.size w w' :=
  (rsame_any v u a a w hv hu).mono fun _ _ h => ⟨by rw [h.1, decide_eq_true rfl], h.2⟩
end Go.Proofs.YtdopmmnabhcigaaGreatDoor

/- What is proved: the statements' own examples, walked. -/
namespace Go.Proofs.YtdopmmnabhcigaaGreatDoor
open Go.RowKit Go.Shelf

set_option maxRecDepth 100000 in
set_option maxHeartbeats 8000000 in
theorem awake_any (w : World) (hG : Glob w) : Calls Tryz.prog 4 #[] w (TruePost w) := by
  have HG := Lib.hid hG
  have hB1 : Below w.heap.size w (w.alloc (.cells #[.string Wo.pA, .string Wo.exT] 33)) := (Below.refl _ w).alloc (Nat.le_refl _) _
  have hf := fls_new w Wo.exF (by decide)
  have k1 := wnames_any _ Wo.exF Wo.exSmall _ hf (hG.later hB1)
  rw [Wo.ex1, Wo.ex2] at k1
  have HB1 := Lib.hid hB1
  have Hf := Lib.hid hf
  clear hG hB1 hf
  go_enter Tryz.func4, Tryz.ntmps4
  go_wp2_with fail
  refine k1.mono ?_
  rintro e w2 ⟨a, rfl, ha, hB2⟩
  have hB2' := Below.then HB1.out hB2
  have hf2 := Hf.out.below hB2
  have k2 := wknown_any _ Wo.exF Wo.exSmall _ hf2 (HG.out.later hB2')
  rw [Wo.ex3] at k2
  have HB2 := Lib.hid hB2'
  have Ha := Lib.hid ha
  clear k1 ha hB2 hB2' hf2
  go_wp2_with fail
  refine k2.mono ?_
  rintro e w3 ⟨b, rfl, hb, hB3⟩
  have hB3' := Below.then HB2.out hB3
  have ha3 := Ha.out.below hB3
  have al3 : Below w3.heap.size w3 (w3.alloc (.cells (strCells [Wo.tA, Wo.tB, Wo.tC]).toArray 9)) := (Below.refl _ _).alloc (Nat.le_refl _) _
  have k3 := wdefs_any _ [Wo.tA, Wo.tB, Wo.tC] 5 _ (sts_new w3 [Wo.tA, Wo.tB, Wo.tC] (by decide))
  rw [Wo.ex4, Wo.ex5] at k3
  have HB3 := Lib.hid (Below.then hB3' al3)
  have Ha3 := Lib.hid (ha3.below al3)
  have Hb3 := Lib.hid (hb.below al3)
  clear k2 ha3 hb hB3 hB3' al3 Ha
  go_wp2_with fail
  refine k3.mono ?_
  rintro e w4 ⟨c, rfl, hc, hB4⟩
  have hB4' := Below.then HB3.out hB4
  have ha4 := Ha3.out.below hB4
  have hb4 := Hb3.out.below hB4
  have al4 : Below w4.heap.size w4 ((w4.alloc (.cells (strCells [Wo.tA, Wo.tB, Wo.tC]).toArray 9)).alloc (.cells (strCells [Wo.tC, Wo.tA]).toArray 9)) := ((Below.refl _ _).alloc (Nat.le_refl _) _).alloc (by simp) _
  have k4 := wset_any _ _ [Wo.tA, Wo.tB, Wo.tC] [Wo.tC, Wo.tA] _ ((sts_new w4 [Wo.tA, Wo.tB, Wo.tC] (by decide)).below ((Below.refl _ _).alloc (Nat.le_refl _) (.cells (strCells [Wo.tC, Wo.tA]).toArray 9))) (sts_new (w4.alloc (.cells (strCells [Wo.tA, Wo.tB, Wo.tC]).toArray 9)) [Wo.tC, Wo.tA] (by decide))
  rw [Wo.ex6, World.size_alloc] at k4
  have HB4 := Lib.hid (Below.then hB4' al4)
  have Ha4 := Lib.hid (ha4.below al4)
  have Hb4 := Lib.hid (hb4.below al4)
  have Hc4 := Lib.hid (hc.below al4)
  clear k3 ha4 hb4 hc hB4 hB4' al4 Ha3 Hb3
  go_wp2_with fail
  refine k4.mono ?_
  clear k4
  rintro e w5 ⟨rfl, rfl⟩
  obtain ⟨W5, hW5⟩ : ∃ W5, W5 = (w4.alloc (.cells (strCells [Wo.tA, Wo.tB, Wo.tC]).toArray 9)).alloc (.cells (strCells [Wo.tC, Wo.tA]).toArray 9) := ⟨_, rfl⟩
  rw [← hW5] at HB4 Ha4 Hb4 Hc4
  rw [← hW5]
  clear hW5
  have al5 : Below W5.heap.size W5 ((W5.alloc (.cells (strCells [Wo.tA]).toArray 9)).alloc (.cells (strCells [Wo.tB]).toArray 9)) := ((Below.refl _ _).alloc (Nat.le_refl _) _).alloc (by simp) _
  have k5 := wset_any _ _ [Wo.tA] [Wo.tB] _ ((sts_new W5 [Wo.tA] (by decide)).below ((Below.refl _ _).alloc (Nat.le_refl _) (.cells (strCells [Wo.tB]).toArray 9))) (sts_new (W5.alloc (.cells (strCells [Wo.tA]).toArray 9)) [Wo.tB] (by decide))
  rw [Wo.ex7, World.size_alloc] at k5
  have HB5 := Lib.hid (Below.then HB4.out al5)
  have Ha5 := Lib.hid (Ha4.out.below al5)
  have Hb5 := Lib.hid (Hb4.out.below al5)
  have Hc5 := Lib.hid (Hc4.out.below al5)
  clear al5 Ha4 Hb4 Hc4 HB4
  go_wp2_with fail
  refine k5.mono ?_
  clear k5
  rintro e w6 ⟨rfl, rfl⟩
  obtain ⟨W6, hW6⟩ : ∃ W6, W6 = (W5.alloc (.cells (strCells [Wo.tA]).toArray 9)).alloc (.cells (strCells [Wo.tB]).toArray 9) := ⟨_, rfl⟩
  rw [← hW6] at HB5 Ha5 Hb5 Hc5 ⊢
  clear hW6
  have al6 : Below W6.heap.size W6 (W6.alloc (.cells (flCells Wo.exM).toArray 33)) := (Below.refl _ _).alloc (Nat.le_refl _) _
  have k6 := wmains_any _ Wo.exM (by decide) (fun f hf => by
    simp only [Wo.exM, List.mem_cons, List.not_mem_nil, or_false] at hf
    rcases hf with rfl | rfl | rfl | rfl <;> decide) _ (fls_new W6 Wo.exM (by decide))
  rw [Wo.ex8] at k6
  have HB6 := Lib.hid (Below.then HB5.out al6)
  have Ha6 := Lib.hid (Ha5.out.below al6)
  have Hb6 := Lib.hid (Hb5.out.below al6)
  have Hc6 := Lib.hid (Hc5.out.below al6)
  clear al6 Ha5 Hb5 Hc5 HB5
  go_wp2_with fail
  refine k6.mono ?_
  clear k6
  rintro e w7 ⟨m, rfl, hm, hB7⟩
  have al7 : Below w7.heap.size w7 (w7.alloc (.cells (strCells [Wo.tA, Wo.tB, Wo.tC]).toArray 9)) := (Below.refl _ _).alloc (Nat.le_refl _) _
  have hB7' := Below.then hB7 al7
  have k7 := same_yes _ _ _ _ (Ha6.out.below hB7') (sts_new w7 [Wo.tA, Wo.tB, Wo.tC] (by decide))
  have HB7 := Lib.hid (Below.then HB6.out hB7')
  have Hb7 := Lib.hid (Hb6.out.below hB7')
  have Hc7 := Lib.hid (Hc6.out.below hB7')
  have Hm7 := Lib.hid (hm.below al7)
  clear al7 hB7 hB7' hm Ha6 Hb6 Hc6 HB6
  go_wp2_with fail
  refine k7.mono ?_
  clear k7
  rintro e w8 ⟨rfl, hB8⟩
  have al8 : Below w8.heap.size w8 (w8.alloc (.cells (strCells [Wo.tX]).toArray 9)) := (Below.refl _ _).alloc (Nat.le_refl _) _
  have hB8' := Below.then hB8 al8
  have k8 := same_yes _ _ _ _ (Hb7.out.below hB8') (sts_new w8 [Wo.tX] (by decide))
  have HB8 := Lib.hid (Below.then HB7.out hB8')
  have Hc8 := Lib.hid (Hc7.out.below hB8')
  have Hm8 := Lib.hid (Hm7.out.below hB8')
  clear al8 hB8 hB8' Hm7 Hb7 Hc7 HB7
  go_wp2_with fail
  refine k8.mono ?_
  clear k8
  rintro e w9 ⟨rfl, hB9⟩
  have al9 : Below w9.heap.size w9 (w9.alloc (.cells (strCells [Wo.tA, Wo.tC]).toArray 9)) := (Below.refl _ _).alloc (Nat.le_refl _) _
  have hB9' := Below.then hB9 al9
  have k9 := same_yes _ _ _ _ (Hc8.out.below hB9') (sts_new w9 [Wo.tA, Wo.tC] (by decide))
  have HB9 := Lib.hid (Below.then HB8.out hB9')
  have Hm9 := Lib.hid (Hm8.out.below hB9')
  clear al9 hB9 hB9' Hm8 Hc8 HB8
  go_wp2_with fail
  refine k9.mono ?_
  clear k9
  rintro e w10 ⟨rfl, hB10⟩
  have al10 : Below w10.heap.size w10 (w10.alloc (.cells (strCells [Wo.pA, Wo.pX, Wo.pC]).toArray 9)) := (Below.refl _ _).alloc (Nat.le_refl _) _
  have hB10' := Below.then hB10 al10
  have k10 := same_yes _ _ _ _ (Hm9.out.below hB10') (sts_new w10 [Wo.pA, Wo.pX, Wo.pC] (by decide))
  have HB10 := Lib.hid (Below.then HB9.out hB10')
  clear al10 hB10 hB10' Hm9 HB9
  go_wp2_with fail
  refine k10.mono ?_
  clear k10
  rintro e w11 ⟨rfl, hB11⟩
  have HB11 := Lib.hid (Below.then HB10.out hB11)
  clear hB11 HB10
  go_wp2_with fail
  go_ret
  exact ⟨rfl, HB11.out⟩
end Go.Proofs.YtdopmmnabhcigaaGreatDoor
