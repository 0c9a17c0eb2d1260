/- What is proved: what asking and defining make of gathered texts. (and what stands with it) -/
import Derived.Test.YtdopmmnabhcigaaGreatDoorGf
import Derived.RangeFuncNested
import Derived.RangeFuncBound
import Derived.RangeFuncCalls
import Derived.RangeFuncLeaves
import Derived.Shelf.Abstract
import Derived.Shelf.RegionOpen
import Derived.OwnWalkIn
import Derived.TacticsInMore
import Derived.LoopNIn
import Derived.LoopIn

/- What is proved: what asking and defining make of gathered texts. -/
namespace Go.Proofs.YtdopmmnabhcigaaGreatDoor
open Go.RowKit Go.Shelf

theorem ks_form {W : World} {v : Value} {ts : List K} (h : Ks W v ts) : ∃ ad cap, v = .slice ad ts.length cap ∧ ts.length ≤ cap ∧ cap ≤ maxLen := by
  obtain ⟨ad, cap, rfl, h1, h2, _⟩ := h
  exact ⟨ad, cap, rfl, h1, h2⟩
theorem Ks.alloc {W : World} {v : Value} {ts : List K} (h : Ks W v ts) (o : Obj) : Ks (W.alloc o) v ts := h.below ((Below.refl _ W).alloc (Nat.le_refl _) _)
theorem Gth.alloc {W : World} {mb n : Nat} {L : List ByteArray} (h : Gth W mb n L) (o : Obj) : Gth (W.alloc o) mb n L := h.kept (World.grownBy_alloc W o none) (by simp)

set_option maxRecDepth 100000 in
set_option maxHeartbeats 4000000 in
theorem gasking_any (mb n : Nat) (L : List ByteArray) (v : Value) (x : Ln) (hsz : ∀ t ∈ x.toks, t.text.size ≤ maxLen) (hn : n + x.toks.length < 100000000) (w : World) (hg : Gth w mb n L) (hv : Ks w v x.toks) :
    Calls Tryz.prog 18 #[.map (some mb), lnAgg x.kind x.first x.n v] w fun e w' => e = .returned (.tuple #[]) ∧ Gth w' mb (n + x.toks.length) (L ++ Wo.asks x) ∧ w.grownBy w' (some mb) := by
  obtain ⟨kd, fi, nn, ts⟩ := x
  dsimp only [lnAgg] at *
  obtain ⟨ad, cap, rfl, hc1, hc2⟩ := ks_form hv
  have key := gwords_any mb n L _ ts hsz hn _ (hg.alloc (.cells #[.int .i64 kd, .int .i64 fi, .int .i64 nn, .slice ad ts.length cap] 44)) (hv.alloc (.cells #[.int .i64 kd, .int .i64 fi, .int .i64 nn, .slice ad ts.length cap] 44))
  have gr0 : w.grownBy (w.alloc (.cells #[.int .i64 kd, .int .i64 fi, .int .i64 nn, .slice ad ts.length cap] 44)) (some mb) := World.grownBy_alloc _ _ _
  obtain ⟨A, hA⟩ : ∃ A, A = Wo.asks ⟨kd, fi, nn, ts⟩ := ⟨_, rfl⟩
  obtain ⟨N, hN⟩ : ∃ N, N = ts.length := ⟨_, rfl⟩
  rw [← hA]
  rw [← hN] at key gr0 ⊢
  have HA := Lib.hid hA
  have HG := Lib.hid (hg.alloc (.cells #[.int .i64 kd, .int .i64 fi, .int .i64 nn, .slice ad N cap] 44))
  have HGr := Lib.hid gr0
  clear hA hN hv hg gr0 hsz hn
  by_cases h : kd = 2 ∨ kd = 5 ∨ kd = 3 ∨ kd = 4
  · have hA2 : A = Wo.words ts := by
      rw [HA.out]
      unfold Wo.asks
      rw [if_pos (by rcases h with h | h | h | h <;> simp [h])]
    have HA2 := Lib.hid hA2
    clear hA2 HA
    rcases h with rfl | rfl | rfl | rfl
    all_goals
      go_enter Tryz.func18, Tryz.ntmps18
      go_wp2_with fail
      refine key.mono ?_
      rintro e w3 ⟨rfl, hg3, hgr3⟩
      have HG3 := Lib.hid hg3
      have HGr3 := Lib.hid hgr3
      clear key hg3 hgr3
      go_wp2_with fail
      go_end0
      exact ⟨rfl, by rw [HA2.out]; exact HG3.out, grown_trans HGr.out HGr3.out⟩
  · have hA2 : A = [] := by
      rw [HA.out]
      unfold Wo.asks
      rw [if_neg (fun h' : kd = 2 ∨ kd = 3 ∨ kd = 4 ∨ kd = 5 => by omega)]
    have HA2 := Lib.hid hA2
    have t1 : (kd == 2) = false := by simpa using fun e => h (.inl e)
    have t2 : (kd == 5) = false := by simpa using fun e => h (.inr (.inl e))
    have t3 : (kd == 3) = false := by simpa using fun e => h (.inr (.inr (.inl e)))
    have t4 : (kd == 4) = false := by simpa using fun e => h (.inr (.inr (.inr e)))
    clear hA2 HA h key
    go_enter Tryz.func18, Tryz.ntmps18
    go_wp2_with fail
    go_end0
    exact ⟨rfl, by rw [HA2.out, List.append_nil]; exact HG.out.mono (by omega), HGr.out⟩

set_option maxRecDepth 100000 in
set_option maxHeartbeats 4000000 in
theorem gdefining_any (mb n : Nat) (L : List ByteArray) (v : Value) (x : Ln) (hsz : ∀ t ∈ x.toks, t.text.size ≤ maxLen) (hn : n + x.toks.length < 100000000) (w : World) (hg : Gth w mb n L) (hv : Ks w v x.toks) :
    Calls Tryz.prog 19 #[.map (some mb), lnAgg x.kind x.first x.n v] w fun e w' => e = .returned (.tuple #[]) ∧ Gth w' mb (n + x.toks.length) (L ++ Wo.defs x) ∧ w.grownBy w' (some mb) := by
  obtain ⟨kd, fi, nn, ts⟩ := x
  dsimp only [lnAgg] at *
  obtain ⟨ad, cap, rfl, hc1, hc2⟩ := ks_form hv
  unfold maxLen at hc2
  have gr0 : w.grownBy (w.alloc (.cells #[.int .i64 kd, .int .i64 fi, .int .i64 nn, .slice ad ts.length cap] 44)) (some mb) := World.grownBy_alloc _ _ _
  have hg0 := hg.alloc (.cells #[.int .i64 kd, .int .i64 fi, .int .i64 nn, .slice ad ts.length cap] 44)
  have hv0 := hv.alloc (.cells #[.int .i64 kd, .int .i64 fi, .int .i64 nn, .slice ad ts.length cap] 44)
  obtain ⟨A, hA⟩ : ∃ A, A = Wo.defs ⟨kd, fi, nn, ts⟩ := ⟨_, rfl⟩
  rw [← hA]
  have HA := Lib.hid hA
  by_cases h : kd = 8 ∨ kd = 9
  · have hA2 : A = Wo.words (ts.take 1) := by
      rw [HA.out]
      unfold Wo.defs
      rw [if_pos h]
    have HA2 := Lib.hid hA2
    have HGr := Lib.hid gr0
    cases ts with
    | nil =>
      have key := gwords_any mb n L (.slice ad 0 cap) [] (fun t ht => by cases ht) (by simp at hn ⊢; omega) _ hg0 (Ks.none_at _ _ _ (by unfold maxLen; omega))
      simp only [List.length_nil] at hn hc1 key HGr ⊢
      clear hA hA2 HA hv hg hg0 hv0 gr0 hsz
      rcases h with rfl | rfl
      all_goals
        go_enter Tryz.func19, Tryz.ntmps19
        go_wp2_with fail
        refine key.mono ?_
        rintro e w3 ⟨rfl, hg3, hgr3⟩
        have HG3 := Lib.hid hg3
        have HGr3 := Lib.hid hgr3
        clear key hg3 hgr3
        go_wp2_with fail
        go_end0
        exact ⟨rfl, by rw [HA2.out]; exact HG3.out, grown_trans HGr.out HGr3.out⟩
    | cons t r =>
      obtain ⟨g, o, rfl, -, -, -, -, -⟩ := hv.cells (by simp)
      have hp := hv0.part 0 1 (by omega) (by simp)
      simp only [Nat.zero_mul, Nat.add_zero, Nat.sub_zero, List.drop_zero] at hp
      have key := gwords_any mb n L _ ((t :: r).take 1) (fun u hu => hsz u (List.mem_of_mem_take hu)) (by simp at hn ⊢; omega) _ hg0 hp
      obtain ⟨N, hN⟩ : ∃ N, N = r.length := ⟨_, rfl⟩
      simp only [List.length_cons, ← hN] at hn hc1 key HGr ⊢
      have hmin : min (1 : Int) ((N : Int) + 1) = 1 := by omega
      have hz : (1 : Int) ≤ cap := by omega
      have q1 : ¬ ((N : Int) + 1 < 1) := by omega
      clear hA hA2 HA hv hg hg0 hv0 gr0 hsz hp hN
      rcases h with rfl | rfl
      all_goals
        go_enter Tryz.func19, Tryz.ntmps19
        go_wp2_with fail
        refine key.mono ?_
        rintro e w3 ⟨rfl, hg3, hgr3⟩
        have HG3 := Lib.hid hg3
        have HGr3 := Lib.hid hgr3
        clear key hg3 hgr3
        go_wp2_with fail
        go_end0
        exact ⟨rfl, by rw [HA2.out]; exact HG3.out.mono (by simp), grown_trans HGr.out HGr3.out⟩
  · have hA2 : A = [] := by
      rw [HA.out]
      unfold Wo.defs
      rw [if_neg h]
    have HA2 := Lib.hid hA2
    have t1 : (kd == 8) = false := by simpa using fun e => h (.inl e)
    have t2 : (kd == 9) = false := by simpa using fun e => h (.inr e)
    have HG := Lib.hid hg0
    have HGr := Lib.hid gr0
    obtain ⟨N, hN⟩ : ∃ N, N = ts.length := ⟨_, rfl⟩
    rw [← hN] at HG HGr ⊢
    clear hA hA2 HA h hv hg hg0 hv0 gr0 hsz hN hc1 hn
    go_enter Tryz.func19, Tryz.ntmps19
    go_wp2_with fail
    go_end0
    exact ⟨rfl, by rw [HA2.out, List.append_nil]; exact HG.out.mono (by omega), HGr.out⟩
end Go.Proofs.YtdopmmnabhcigaaGreatDoor

/- What is proved: the iterators over the tokens and over the lines of files. -/
namespace Go.Proofs.YtdopmmnabhcigaaGreatDoor
open Go.RowKit Go.Shelf

attribute [local go_sem] Oper.semAt_some

theorem Glob.keepC {W W' : World} (h : Glob W) (k : KeepC W W') : Glob W' := by
  obtain ⟨⟨m, hm⟩, ⟨t, fz, hs⟩, t', fz', hs'⟩ := h
  exact ⟨⟨m, k.cell hm⟩, ⟨t, fz, k.same _ _ hs rfl⟩, t', fz', k.same _ _ hs' rfl⟩
theorem Fls.keepC {W W' : World} {v : Value} {fs : Wo.Fs} (h : Fls W v fs) (k : KeepC W W') : Fls W' v fs := h.keep fun _ _ hc => k.cell hc
theorem Ks.keepC {W W' : World} {v : Value} {ts : List K} (h : Ks W v ts) (k : KeepC W W') : Ks W' v ts := by
  obtain ⟨ad, cap, rfl, h1, h2, h3⟩ := h
  refine ⟨ad, cap, rfl, h1, h2, fun i t ht => ?_⟩
  obtain ⟨g, o, e, c0, c1, c2, c3, c4, c5⟩ := h3 i t ht
  exact ⟨g, o, e, k.cell c0, k.cell c1, k.cell c2, k.cell c3, k.cell c4, k.cell c5⟩
theorem LnAt.keepC {W W' : World} {g o : Nat} {x : Ln} (h : LnAt W g o x) (k : KeepC W W') : LnAt W' g o x := by
  obtain ⟨v, h0, h1, h2, h3, h4⟩ := h
  exact ⟨v, k.cell h0, k.cell h1, k.cell h2, k.cell h3, h4.keepC k⟩
theorem Lns.keepC {W W' : World} {v : Value} {ls : List Ln} (h : Lns W v ls) (k : KeepC W W') : Lns W' v ls := by
  obtain ⟨ad, cap, rfl, h1, h2, h3⟩ := h
  refine ⟨ad, cap, rfl, h1, h2, fun i t ht => ?_⟩
  obtain ⟨g, o, e, c⟩ := h3 i t ht
  exact ⟨g, o, e, c.keepC k⟩
theorem boxed_keepC {W W' : World} {b : Nat} {t : TypeId} {v : Value} (h : Boxed W b t v) (k : KeepC W W') : Boxed W' b t v := k.same _ _ h rfl
theorem KeepC.alloc (W : World) (o : Obj) : KeepC W (W.alloc o) := KeepC.below ((Below.refl _ W).alloc (Nat.le_refl _) o)
theorem own_below {β : Type} {B : Nat} {J : β → World → Prop} (hJ : OwnFrom B J) {s : β} {W W' : World} (h : J s W) (hb : Below W.heap.size W W') : J s W' :=
  hJ s W W' none h ⟨hb.os, hb.tape, hb.output, hb.size, fun k hk _ => hb.block k hk⟩ fun r e => by cases e

namespace Wo
theorem toksFrom_get : ∀ (fs : Fs) (n i : Nat) (f : ByteArray × ByteArray), fs[i]? = some f → (toksFrom n fs)[i]? = some (toks (n + i) f.2)
  | [], n, i, f, h => by simp at h
  | g :: r, n, 0, f, h => by simp at h; subst h; rfl
  | g :: r, n, i + 1, f, h => by
    simp at h
    have := toksFrom_get r (n + 1) i f h
    rw [toksFrom, List.getElem?_cons_succ, this, show n + 1 + i = n + (i + 1) by omega]
theorem toksFrom_len : ∀ (fs : Fs) (n : Nat), (toksFrom n fs).length = fs.length
  | [], n => rfl
  | g :: r, n => by rw [toksFrom, List.length_cons, toksFrom_len r (n + 1), List.length_cons]
/-- Files that are few and short. -/
def Small (fs : Fs) : Prop := fs.length ≤ 7 ∧ ∀ f ∈ fs, f.2.size ≤ 1000 ∧ f.1.size ≤ 1000
end Wo

/-- What a round over files' tokens is told. -/
def ToldT (fs : Wo.Fs) (pre : List (Value × List K)) (x : Value × List K) (W : World) : Prop := Ks W x.1 x.2 ∧ (Wo.toksFrom 0 fs)[pre.length]? = some x.2 ∧ Glob W

set_option maxRecDepth 100000 in
set_option maxHeartbeats 4000000 in
theorem wtokens1_in (n : Nat) (hn : 1 ≤ n) (l Bn : Nat) (v : Value) (fs : Wo.Fs) (hsm : Wo.Small fs) (J : List (Value × List K) → World → Prop) (W : World) (hJ : OwnFrom W.heap.size J)
    (hY : ∀ pre x V, J pre V → ToldT fs pre x V → YieldAt Fence.wide (n - 1) Tryz.prog l #[x.1] V fun e V' => e = .returned (.bool true) ∧ J (pre ++ [x]) V' ∧ KeepC V V' ∧ KeepsFrom W.heap.size V V')
    (hBn : W.cell? ⟨Bn, 0, none⟩ = some v) (hv : Fls W v fs) (hG : Glob W) (h0 : J [] W) :
    CallsIn Fence.wide n Tryz.prog 35 #[.func (.yield l) #[] #[], .pointer (some ⟨Bn, 0, none⟩)] W fun e W' => (∃ v, e = .returned v) ∧ ∃ ys, ys.map Prod.snd = Wo.toksFrom 0 fs ∧ J ys W' := by
  obtain ⟨ad, cap, rfl, hc1, hc2, -⟩ := id hv
  have hlen := Wo.toksFrom_len fs 0
  have hfs := hsm.1
  rcases Nat.eq_zero_or_pos fs.length with hz | hpos
  · have hts : fs = [] := List.length_eq_zero_iff.1 hz
    subst hts
    have H0 := Lib.hid h0
    refine callsIn_of_wp Tryz.func35 rfl trivial ?_ rfl
    simp only [Tryz.ntmps35, List.size_toArray, List.length_cons, List.length_nil, Nat.reduceAdd, Nat.reduceSub, Array.replicate_succ, Array.replicate_zero, List.push_toArray, List.append_toArray, List.nil_append, List.cons_append]
    clear hv hY h0
    gi_wp2
    gi_loopw [7] (fun k wr => k = .int .i64 0 ∧ J [] wr) (fun _ _ => 0)
    case atStart => exact ⟨rfl, H0.out⟩
    case round =>
      obtain ⟨rfl, hj⟩ := hrel
      have HJ := Lib.hid hj
      clear hj
      gi_wp2_with fail
      go_end0
      exact ⟨⟨_, rfl⟩, [], rfl, HJ.out⟩
  · obtain ⟨g, o, rfl, -, -, -, hgl, hcell⟩ := hv.cells hpos
    obtain ⟨N, hN⟩ : ∃ N, N = fs.length := ⟨_, rfl⟩
    rw [← hN] at hc1 hpos hBn hlen hfs
    have HN := Lib.hid hN
    have HC := Lib.hid hcell
    have HSm := Lib.hid hsm.2
    have HG := Lib.hid hG
    have HJ := Lib.hid hJ
    have HY := Lib.hid hY
    have H0 := Lib.hid h0
    have HLen := Lib.hid hlen
    refine callsIn_of_wp Tryz.func35 rfl trivial ?_ rfl
    simp only [Tryz.ntmps35, List.size_toArray, List.length_cons, List.length_nil, Nat.reduceAdd, Nat.reduceSub, Array.replicate_succ, Array.replicate_zero, List.push_toArray, List.append_toArray, List.nil_append, List.cons_append]
    clear hN hv hcell hsm hG hJ hY h0 hlen
    gi_wp2
    gi_loopw [7] (fun i wr => ∃ (k : Nat) (pre : List (Value × List K)), i = .int .i64 k ∧ k ≤ N ∧ pre.map Prod.snd = (Wo.toksFrom 0 fs).take k ∧ KeepC W wr ∧ J pre wr) (fun i _ => N - (intOf i).toNat)
    case atStart => exact ⟨0, [], rfl, Nat.zero_le _, rfl, KeepC.refl W, H0.out⟩
    case round =>
      obtain ⟨k, pre, rfl, hk, hpre, hkc, hj⟩ := hrel
      by_cases hlt : k < N
      · obtain ⟨f, hf⟩ : ∃ f, fs[k]? = some f := ⟨_, List.getElem?_eq_getElem (by rw [← HN.out]; exact hlt)⟩
        have hfz := (HSm.out f (List.mem_of_getElem? hf)).1
        have htk := Wo.toksFrom_get fs 0 k f hf
        rw [Nat.zero_add] at htk
        have hpl : pre.length = k := by
          have := congrArg List.length hpre
          rw [List.length_map, List.length_take, HLen.out] at this
          omega
        obtain ⟨c0, c1⟩ := HC.out k f hf
        obtain ⟨pa, tx⟩ := f
        dsimp only at c0 c1 hfz htk
        have d0 := hkc.cell c0
        have d1 := hkc.cell c1
        have HTk := Lib.hid htk
        have HPl := Lib.hid hpl
        have HPre := Lib.hid hpre
        have HKc := Lib.hid hkc
        have Hj := Lib.hid hj
        clear hf htk hpl hpre hkc hj c0 c1
        have hG1 : Glob (wr.alloc (.cells #[.string pa, .string tx] 33)) := (HG.out.keepC HKc.out).keepC (KeepC.alloc _ _)
        have key := callsIn_wide (n := n - 1) |>.2 (tokens_any (k : Int) tx (by omega) _ hG1)
        have HK1 := Lib.hid hG1
        clear hG1
        gi_wp2_with (first | (refine ⟨trivial, ?_⟩; gi_at_call 36; refine key.mono ?_; rintro e w2 ⟨u, rfl, hu, hB⟩) | (gi_at_call 36; refine key.mono ?_; rintro e w2 ⟨u, rfl, hu, hB⟩) | fail)
        have hB2 : Below wr.heap.size wr w2 := Below.then ((Below.refl _ wr).alloc (Nat.le_refl _) _) hB
        obtain ⟨fn, tmps, assign, body, hy, hR⟩ := HY.out pre (u, Wo.toks k tx) w2 (own_below HJ.out Hj.out hB2) ⟨hu.ks, by rw [HPl.out]; exact HTk.out, HK1.out.later hB⟩
        dsimp only at hy
        have HB2 := Lib.hid hB2
        clear key hu hB hB2
        rw [hy, Oper.uponIn_round]
        refine ⟨fun _ => hn, hR.mono ?_⟩
        rintro e W3 ⟨rfl, hJ3, hk3, -⟩
        have hpre3 : (pre ++ [(u, Wo.toks k tx)]).map Prod.snd = (Wo.toksFrom 0 fs).take (k + 1) := by
          rw [List.map_append, HPre.out, List.take_add_one, HTk.out]; rfl
        have HP3 := Lib.hid hpre3
        have HK3 := Lib.hid ((HKc.out.trans (KeepC.below HB2.out)).trans hk3)
        have HJ3 := Lib.hid hJ3
        clear hy hR hJ3 hk3 hpre3
        gi_wp2_with fail
        go_roundw
        case rel => exact ⟨k + 1, _, by go_num, by omega, HP3.out, HK3.out, HJ3.out⟩
        case measure => simp [intOf]; omega
      · obtain rfl : k = N := by omega
        have HF := Lib.hid (show pre.map Prod.snd = Wo.toksFrom 0 fs by rw [hpre, List.take_of_length_le (by rw [HLen.out]; exact Nat.le_refl _)])
        have Hj := Lib.hid hj
        clear hpre hj hkc
        gi_wp2_with fail
        go_end0
        exact ⟨⟨_, rfl⟩, pre, HF.out, Hj.out⟩

set_option maxHeartbeats 1000000 in
theorem wtokens_in (n : Nat) (ad : Option Addr) (m cap : Nat) (w : World) :
    CallsIn Fence.wide n Tryz.prog 26 #[.slice ad m cap] w fun e w' => e = .returned (.func (.func 35) #[] #[.pointer (some ⟨w.heap.size, 0, none⟩)]) ∧ w' = w.alloc (.cells #[.slice ad m cap] 22) := by
  refine callsIn_of_wp Tryz.func26 rfl trivial ?_ rfl
  simp only [Tryz.ntmps26, List.size_toArray, List.length_cons, List.length_nil, Nat.reduceAdd, Nat.reduceSub, Array.replicate_succ, Array.replicate_zero, List.push_toArray, List.append_toArray, List.nil_append, List.cons_append]
  gi_wp2
  go_ret
  exact ⟨rfl, rfl⟩
set_option maxHeartbeats 1000000 in
theorem wlines_in (n : Nat) (ad : Option Addr) (m cap : Nat) (w : World) :
    CallsIn Fence.wide n Tryz.prog 17 #[.slice ad m cap] w fun e w' => e = .returned (.func (.func 30) #[] #[.pointer (some ⟨w.heap.size, 0, none⟩)]) ∧ w' = w.alloc (.cells #[.slice ad m cap] 22) := by
  refine callsIn_of_wp Tryz.func17 rfl trivial ?_ rfl
  simp only [Tryz.ntmps17, List.size_toArray, List.length_cons, List.length_nil, Nat.reduceAdd, Nat.reduceSub, Array.replicate_succ, Array.replicate_zero, List.push_toArray, List.append_toArray, List.nil_append, List.cons_append]
  gi_wp2
  go_ret
  exact ⟨rfl, rfl⟩
theorem wtokens_seq (n : Nat) (hn : 1 ≤ n) (Bn : Nat) (v : Value) (fs : Wo.Fs) (hsm : Wo.Small fs) (w : World) (hc : w.cell? ⟨Bn, 0, none⟩ = some v) (hv : Fls w v fs) (hG : Glob w) :
    SeqG Fence.wide n Tryz.prog 35 #[.pointer (some ⟨Bn, 0, none⟩)] (fun x : Value × List K => #[x.1]) (ToldT fs) (fun ys => ys.map Prod.snd = Wo.toksFrom 0 fs) w := fun l J W hW hJ hY h0 =>
  wtokens1_in n hn l Bn v fs hsm J W hJ hY (below_cof hW hc) (hv.below hW) (hG.later hW) h0
end Go.Proofs.YtdopmmnabhcigaaGreatDoor
