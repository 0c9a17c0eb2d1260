/- Plain: where an invocation's signs stand; how large a rest is. (and what stands with it) -/
import Derived.Test.YtlepnafgcmeimaaGreatDoorGj
import Derived.Test.YtlepnafgcmeimaaGreatDoorGm
import Derived.Test.YtlepnafgcmeimaaGreatDoorGq
import Derived.Test.YtlepnafgcmeimaaGreatDoorGn
import Derived.Deep.QuietTactic
import Derived.BigQuiet
import Derived.Deep.LoopGhost

/- Plain: where an invocation's signs stand; how large a rest is. -/
namespace Go.Proofs.YtlepnafgcmeimaaGreatDoor
open Mx (isP LP RP CM)
open Ep (HT)

theorem Ep.cuts_facts : ∀ (l : List K) (i d : Nat) (out cs : List Nat), Ep.cuts l i d out = some cs → (∀ x ∈ out, x < i) → out.Pairwise (· < ·) →
    cs.Pairwise (· < ·) ∧ (∀ x ∈ cs, x < i + l.length) ∧ ∃ more, cs = out ++ more ∧ more ≠ []
  | [], i, d, out, cs, h, _, _ => by simp [Ep.cuts] at h
  | t :: r, i, d, out, cs, h, ho, hp => by
    have hsn : ∀ x ∈ out ++ [i], x < i + 1 := fun x hx => by
      rcases List.mem_append.1 hx with h | h
      · have := ho x h; omega
      · rw [List.mem_singleton.1 h]; omega
    have hps : (out ++ [i]).Pairwise (· < ·) := by
      rw [List.pairwise_append]
      refine ⟨hp, List.pairwise_singleton _ _, fun x hx y hy => ?_⟩
      rw [List.mem_singleton.1 hy]
      exact ho x hx
    have ho' : ∀ x ∈ out, x < i + 1 := fun x hx => by have := ho x hx; omega
    have fin : ∀ {q : Nat} {o : List Nat}, (∀ x ∈ o, x < i + 1) → o.Pairwise (· < ·) → (o = out ∨ o = out ++ [i]) → Ep.cuts r (i + 1) q o = some cs → cs.Pairwise (· < ·) ∧ (∀ x ∈ cs, x < i + (t :: r).length) ∧ ∃ more, cs = out ++ more ∧ more ≠ [] := fun h1 h2 h3 h4 => by
      obtain ⟨a, b, more, c, e⟩ := Ep.cuts_facts r _ _ _ _ h4 h1 h2
      refine ⟨a, fun x hx => by have := b x hx; simp only [List.length_cons]; omega, ?_⟩
      rcases h3 with h3 | h3
      · exact ⟨more, by rw [c, h3], e⟩
      · exact ⟨i :: more, by rw [c, h3, List.append_assoc]; rfl, by simp⟩
    unfold Ep.cuts at h
    split at h
    · split at h
      · exact fin hsn hps (.inr rfl) h
      · exact fin ho' hp (.inl rfl) h
    · split at h
      · cases h
      · split at h
        · split at h
          · injection h with h
            subst h
            exact ⟨hps, fun x hx => by have := hsn x hx; simp only [List.length_cons]; omega, [i], rfl, by simp⟩
          · exact fin ho' hp (.inl rfl) h
        · split at h
          · exact fin hsn hps (.inr rfl) h
          · exact fin ho' hp (.inl rfl) h
theorem Ep.cuts_steps {l : List K} {cs : List Nat} (h : Ep.cuts l 0 0 [] = some cs) : cs ≠ [] ∧ (∀ i j, i < j → j < cs.length → cs.getD i 0 < cs.getD j 0) ∧ (∀ i, i < cs.length → cs.getD i 0 ≤ cs.getLastD 0) ∧ cs.getLastD 0 < l.length := by
  obtain ⟨hp, hb, more, hm, hne⟩ := Ep.cuts_facts l 0 0 [] cs h (fun x hx => by cases hx) List.Pairwise.nil
  have hc : cs ≠ [] := by rw [hm, List.nil_append]; exact hne
  have hpos : 0 < cs.length := List.length_pos_iff.2 hc
  have hg : ∀ i, (hi : i < cs.length) → cs.getD i 0 = cs[i] := fun i hi => by simp [List.getD, List.getElem?_eq_getElem hi]
  have hlast : cs.getLastD 0 = cs[cs.length - 1]'(by omega) := by
    rw [List.getLastD_eq_getLast?, List.getLast?_eq_getElem?, List.getElem?_eq_getElem (by omega)]
    rfl
  have hpw := List.pairwise_iff_getElem.1 hp
  refine ⟨hc, fun i j hij hj => ?_, fun i hi => ?_, ?_⟩
  · rw [hg i (by omega), hg j hj]
    exact hpw i j (by omega) hj hij
  · rw [hg i hi, hlast]
    rcases Nat.lt_or_ge i (cs.length - 1) with h1 | h1
    · exact Nat.le_of_lt (hpw i (cs.length - 1) hi (by omega) h1)
    · have : i = cs.length - 1 := by omega
      subst this
      exact Nat.le_refl _
  · rw [hlast]
    have := hb _ (List.getElem_mem (l := cs) (n := cs.length - 1) (by omega))
    omega
/-- A rest's lists are no more than its tokens. -/
theorem Ep.flat_bounds : ∀ {st : List (List HT)}, (∀ l ∈ st, l ≠ []) → st.length ≤ (Ep.flat st).length ∧ ∀ l ∈ st, l.length ≤ (Ep.flat st).length
  | [], _ => ⟨Nat.zero_le _, fun l h => by cases h⟩
  | l :: st, h => by
    obtain ⟨a, b⟩ := Ep.flat_bounds (st := st) (fun x hx => h x (List.mem_cons_of_mem _ hx))
    have hl : (Ep.flat (l :: st)).length = l.length + (Ep.flat st).length := by simp [Ep.flat]
    have h0 : 0 < l.length := List.length_pos_iff.2 (h l List.mem_cons_self)
    rw [hl]
    refine ⟨by simp only [List.length_cons]; omega, fun x hx => ?_⟩
    rcases List.mem_cons.1 hx with rfl | hx
    · omega
    · have := b x hx; omega
end Go.Proofs.YtlepnafgcmeimaaGreatDoor

/- What is proved: take of a rest, out of its first list. -/
namespace Go.Proofs.YtlepnafgcmeimaaGreatDoor
open Go.RowKit Go.Shelf
open Ep (HT)

def TakePost (N n lb : Nat) (vs0 : List Value) (l : List HT) (st : List (List HT)) (b : Bool) (w : World) (e : Ending) (w' : World) : Prop :=
  ∃ v, e = .returned v ∧ Hs w' v l ∧ (∃ lv vs, Rs w' n lb lv vs st b ∧ Sub vs vs0) ∧ Fr false N n w w'
set_option maxRecDepth 100000 in
set_option maxHeartbeats 4000000 in
theorem etake_any (N n lb : Nat) (lv : Value) (vs : List Value) (l : List HT) (st : List (List HT)) (b : Bool) (m : Nat) (w : World) (h : Rs w n lb lv vs (l :: st) b) (hm : m ≤ l.length) (hN : N ≤ n) (hl : l.length ≤ 1000000) (hst : st.length ≤ 1000000) :
    Calls Tryz.prog 60 #[.pointer (some ⟨lb, 0, none⟩), .int .i64 m] w (TakePost N n lb vs (l.take m) (Ep.drop1 m (l :: st)) b w) := by
  have c0 := h.c0
  have hlt := h.lt
  have HH := Lib.hid h
  have HD := Lib.hid (fun (W : World) (hR : Rs W n lb lv vs (l :: st) b) => edrop_any N n lb lv vs l st b m W hR hm hN hl hst)
  obtain ⟨us, gv, ov, cv, g, cap, rfl, rfl, hus, hv, b1, b2, hl0, hgv, -, -, hgl, hc1, hc2, n1, n2, n3, cg, fg⟩ := h.top
  have hp := Hs.part hv 0 m 0 (Nat.zero_le _) hm (fun _ => rfl)
  have hsl : Ep.sl l 0 m = l.take m := rfl
  rw [hsl, Nat.sub_zero, Nat.sub_zero, Nat.add_zero] at hp
  have HP := Lib.hid hp
  obtain ⟨L, hL⟩ : ∃ L, L = l.length := ⟨_, rfl⟩
  rw [← hL] at cg b1 hl0 hm hl
  obtain ⟨U, hU⟩ : ∃ U, U = us.length := ⟨_, rfl⟩
  have hU1 : U ≤ 1000000 := by omega
  rw [← hU] at c0 cg hc1
  clear h hv hL hU hus hst fg hp hsl
  have z1 : (0 : Int) ≤ U := by omega
  have z2 : (U : Int) < U + 1 := by omega
  have z5 : ((U : Int) + 1 - 1) = U := by omega
  have z6 : IntKind.i64.wrap ((U : Int) + 1 - 1) = U := by rw [z5]; exact IntWalk.i64_in _ (by omega)
  have z8 : (0 : Int) < L := by omega
  have z9 : IntKind.i64.wrap (U : Int) = U := IntWalk.i64_in _ (by omega)
  have z3 : (m : Int) ≤ L := by omega
  have z4 : (0 : Int) ≤ m := by omega
  have z7 : m ≤ cv := by omega
  go_enter Tryz.func60, Tryz.ntmps60
  go_wp2_with fail
  go_quiet (fail)
  go_wp2_with fail
  have hR := HH.out.below (Below.drewN (Below.refl _ w) nq)
  refine (HD.out _ hR).mono ?_
  rintro e w4 ⟨rfl, ⟨lv4, vs4, hR4, hsub⟩, hF4⟩
  have hF : Fr false N n w w4 := Fr.trans (Fr.of_below (Below.drewN (Below.refl _ w) nq)) hF4
  have hp4 := hF.hs HP.out
  have HR4 := Lib.hid hR4
  have HS4 := Lib.hid hsub
  have HF := Lib.hid hF
  have HP4 := Lib.hid hp4
  clear hR hR4 hsub hF4 hF hp4 c0 cg
  go_wp2_with fail
  go_ret
  exact ⟨_, rfl, HP4.out, ⟨_, _, HR4.out, HS4.out⟩, HF.out⟩
end Go.Proofs.YtlepnafgcmeimaaGreatDoor

/- What is proved: what replace tells. -/
namespace Go.Proofs.YtlepnafgcmeimaaGreatDoor
open Go.RowKit Go.Shelf
open Ep (HT XS)
open Mx (M)

theorem Ls.ne {W : World} : ∀ {st : List (List HT)} {vs : List Value}, Ls W st vs → ∀ l ∈ st, l ≠ []
  | [], _, _, l, hl => by cases hl
  | a :: st, _, ⟨us, v, _, _, hn, h⟩, l, hl => by
    rcases List.mem_cons.1 hl with rfl | hl
    · exact hn
    · exact Ls.ne h l hl
theorem getLastD_getD (cs : List Nat) : cs.getLastD 0 = cs.getD (cs.length - 1) 0 := by
  rw [List.getLastD_eq_getLast?, List.getLast?_eq_getElem?, List.getD_eq_getElem?_getD]
/-- What an invocation's signs say. -/
theorem InvOk.of_cuts {st : List (List HT)} {l : List HT} {cs : List Nat} (h : Ep.cuts (Ep.flat st) 0 0 [] = some cs) (hl : cs.getLastD 0 + 1 ≤ l.length) (hb : l.length ≤ 1000000) : InvOk (l.take (cs.getLastD 0 + 1)) cs := by
  obtain ⟨h1, h2, h3, h4⟩ := Ep.cuts_steps h
  have hlen : (l.take (cs.getLastD 0 + 1)).length = cs.getLastD 0 + 1 := by rw [List.length_take]; omega
  refine ⟨List.length_pos_iff.2 h1, h2, fun i hi => ?_, ?_, by omega⟩
  · have := h3 i hi; omega
  · rw [hlen, getLastD_getD]
/-- How replace goes, in parts. -/
theorem Ep.replace_parts {run : XS → List HT → Ep.R (XS × List HT)} {ms : List M} {X : XS} {j : Nat} {m : M} {x : HT} {st : List (List HT)} {r : Except Int (XS × List HT × List (List HT))} {ins : List HT} {cs : List Nat} {h : Nat} {st' : List (List HT)}
    (hr : Ep.replace run ms X j m x st = some r) (ht : Ep.takeInv m x st = some (.ok (ins, cs, h, st'))) :
    ∃ X1 q ra, Ep.stepOf X j = some (X1, q) ∧ (match Ep.shared m ins cs with | .error e => some (.error e) | .ok raws => Ep.argsOf run (Ep.pieces m) 0 X1 raws) = some ra ∧ Ep.behind m x h q st' ra = some r := by
  unfold Ep.replace at hr
  rw [ht] at hr
  dsimp only at hr
  cases hs : Ep.stepOf X j with
  | none => rw [hs] at hr; cases hr
  | some y =>
    obtain ⟨X1, q⟩ := y
    rw [hs] at hr
    dsimp only at hr
    cases hsh : Ep.shared m ins cs with
    | error e => rw [hsh] at hr; exact ⟨X1, q, .error e, rfl, rfl, hr⟩
    | ok raws =>
      rw [hsh] at hr
      dsimp only at hr
      cases ha : Ep.argsOf run (Ep.pieces m) 0 X1 raws with
      | none => rw [ha] at hr; cases hr
      | some ra =>
        rw [ha] at hr
        refine ⟨X1, q, ra, rfl, ha, ?_⟩
        cases ra with
        | error e => exact hr
        | ok y => exact hr

set_option maxRecDepth 100000 in
set_option maxHeartbeats 4000000 in
/-- A macro that takes no arguments. -/
theorem ereplace_plain (w0 : World) (n lb xb mb : Nat) (kb : Nat → Nat) (ms : List M) (run : XS → List HT → Ep.R (XS × List HT)) (hRUN : RunAny w0 xb mb kb ms run) (X : XS) (st : List (List HT)) (lv : Value) (vs : List Value) (x : HT) (p : Option Addr) (j : Nat) (m : M) (w : World)
    (h : XM w0 w xb mb kb ms X) (hR : Rs w n lb lv vs st false) (hp : HidP w p x.hd) (hG : Glob w0) (hm : MOk m) (hj : ms[j]? = some m) (hj' : Ep.ixOf m.name ms 0 = some j) (hf : m.fn = false)
    (r : Except Int (XS × List HT × List (List HT))) (hr : Ep.replace run ms X j m x st = some r) :
    Calls Tryz.prog 43 #[.pointer (some ⟨xb, 0, none⟩), .pointer (some ⟨kb j, 0, none⟩), htAgg x p, .pointer (some ⟨lb, 0, none⟩)] w (ReplPost w0 n lb xb mb kb ms X vs w r) := by
  have ht : Ep.takeInv m x st = some (.ok ([], [], x.hd, st)) := by simp [Ep.takeInv, hf]
  obtain ⟨X1, q, ra, hs, hra, hr2⟩ := Ep.replace_parts hr ht
  obtain ⟨⟨kd, tx, fl, fr, en, bl⟩, hd, mk⟩ := x
  have hal : Below w.heap.size w (w.alloc (.cells #[.int .i64 kd, .string tx, .int .i64 fl, .int .i64 fr, .int .i64 en, .bool bl, .pointer p, .bool mk] 92)) := (Below.refl _ w).alloc (Nat.le_refl _) _
  have hbx := heap_alloc_new w (.cells #[.int .i64 kd, .string tx, .int .i64 fl, .int .i64 fr, .int .i64 en, .bool bl, .pointer p, .bool mk] 92)
  have hL : RpL w0 w (w.alloc (.cells #[.int .i64 kd, .string tx, .int .i64 fl, .int .i64 fr, .int .i64 en, .bool bl, .pointer p, .bool mk] 92)) n lb xb mb kb ms vs X X st w.heap.size ⟨⟨kd, tx, fl, fr, en, bl⟩, hd, mk⟩ p hd :=
    ⟨h.below hal, Ep.Le.refl _, ⟨lv, vs, hR.below hal, Sub.refl _⟩, Fr.of_below hal, ⟨p, hbx⟩, hp.keep (Kept.of_below hal _)⟩
  obtain ⟨_, _, _, k1, -⟩ := hL.xm.kn j m hj hj'
  obtain ⟨-, f1, -⟩ := box6_cells k1
  rw [hf] at f1
  obtain ⟨b0, b1, b2, b3, b4, b5, b6, b7, -⟩ := box8_cells hbx
  have HL := Lib.hid hL
  have HJ := Lib.hid (And.intro hj hj')
  have HRUN := Lib.hid hRUN
  have HRA := Lib.hid hra
  have HR2 := Lib.hid hr2
  have HS := Lib.hid hs
  clear h hR hp hj hj' hRUN hra hr2 hs hr ht hal k1 hbx hL
  unfold htAgg
  dsimp only
  go_enter Tryz.func43, Tryz.ntmps43
  show Code.wp Tryz.prog (secs 0 replBody) _ _ _
  refine wp_sec 0 replBody rfl ?_
  conv => arg 2; whnf
  go_wp2_with fail
  generalize (w.alloc (.cells #[.int .i64 kd, .string tx, .int .i64 fl, .int .i64 fr, .int .i64 en, .bool bl, .pointer p, .bool mk] 92)) = W at HL f1 b0 b1 b2 b3 b4 b5 b6 b7 ⊢
  generalize w.heap.size = B6 at HL b0 b1 b2 b3 b4 b5 b6 b7 ⊢
  refine wp_sec 1 replBody rfl ?_
  conv => arg 2; whnf
  go_wp2_with fail
  refine wp_sec 2 replBody rfl ?_
  conv => arg 2; whnf
  go_wp2_with fail
  refine wp_sec 3 replBody rfl ?_
  conv => arg 2; whnf
  go_wp2_with fail
  refine wp_sec 4 replBody rfl ?_
  conv => arg 2; whnf
  go_wp2_with fail
  exact repl_step w0 w W n lb xb mb kb ms vs run HRUN.out X st B6 ⟨⟨kd, tx, fl, fr, en, bl⟩, hd, mk⟩ p hd j m _ _ [] [] _ _ _ _ _ _ _ _ _ _ _ _ _ _ _ _ _ _ _ _ _ _ _ _ _ _ _ _ _ _ _ _ _ _ _ _ _ _ _ _ _ _ _ _ _ _ _ _ _ _ _ _ _ _ _ _ _ _ _ _ _ _ _ _ _ _ _ _ _ _ _ _ _ _ _ _ _ _ _ _ _ _ _ _ _ _ _ _ _ _ _ _ HL.out hG hm HJ.out.1 HJ.out.2 (fun e => by rw [hf] at e; cases e) (Nat.zero_le _) r X1 q HS.out ra HRA.out HR2.out
end Go.Proofs.YtlepnafgcmeimaaGreatDoor

/- What is proved: what replace tells of a macro that takes arguments. -/
namespace Go.Proofs.YtlepnafgcmeimaaGreatDoor
open Go.RowKit Go.Shelf
open Ep (HT XS)
open Mx (M)

theorem Ep.takeS_some {k : Nat} {st : List (List HT)} {ins : List HT} {st' : List (List HT)} (h : Ep.takeS k st = some (ins, st')) : ∃ l r, st = l :: r ∧ k ≤ l.length ∧ ins = l.take k ∧ st' = Ep.drop1 k (l :: r) := by
  unfold Ep.takeS at h
  split at h
  · cases h
  · rename_i l r
    split at h
    · rename_i hk
      injection h with h
      injection h with h1 h2
      exact ⟨l, r, rfl, hk, h1.symm, h2.symm⟩
    · cases h
section
variable {w0 w W W' : World} {n lb xb mb : Nat} {kb : Nat → Nat} {ms : List M} {vs0 : List Value} {X X' : XS} {st st' : List (List HT)} {B6 : Nat} {x : HT} {hp : Option Addr} {h : Nat}
/-- Tokens were taken. -/
theorem RpL.took (k : RpL w0 w W n lb xb mb kb ms vs0 X X' st B6 x hp h) (hf : Fr false w0.heap.size n W W') (hr : ∃ lv vs, Rs W' n lb lv vs st' false ∧ Sub vs vs0) : RpL w0 w W' n lb xb mb kb ms vs0 X X' st' B6 x hp h := by
  obtain ⟨p, hb⟩ := k.bx
  exact ⟨k.xm.fr hf, k.le, hr, k.fr.trans hf.any, ⟨p, hf.ht _ _ _ hb⟩, hf.hid k.hd⟩
theorem RpL.hide {hp' : Option Addr} {h' : Nat} (k : RpL w0 w W n lb xb mb kb ms vs0 X X' st B6 x hp h) (hd : HidP W hp' h') : RpL w0 w W n lb xb mb kb ms vs0 X X' st B6 x hp' h' := ⟨k.xm, k.le, k.rs, k.fr, k.bx, hd⟩
end

theorem eql_ints (w : World) (a : Option Addr) (n c n' c' : Nat) : (binOp .eql 115 (.slice a n c) (.slice none n' c')).run Tryz.prog w = .ok (.bool a.isNone) w := Lib.run_eql_slice_nil w _ _ a n c n' c' Tryz.underlying115
set_option maxRecDepth 100000 in
set_option maxHeartbeats 8000000 in
theorem ereplace_fn (w0 : World) (n lb xb mb : Nat) (kb : Nat → Nat) (ms : List M) (run : XS → List HT → Ep.R (XS × List HT)) (hRUN : RunAny w0 xb mb kb ms run) (X : XS) (st : List (List HT)) (lv : Value) (vs : List Value) (x : HT) (p : Option Addr) (j : Nat) (m : M) (w : World)
    (h : XM w0 w xb mb kb ms X) (hR : Rs w n lb lv vs st false) (hp : HidP w p x.hd) (hN : w0.heap.size ≤ n) (hG : Glob w0) (hm : MOk m) (hj : ms[j]? = some m) (hj' : Ep.ixOf m.name ms 0 = some j) (hf : m.fn = true)
    (r : Except Int (XS × List HT × List (List HT))) (hr : Ep.replace run ms X j m x st = some r) :
    Calls Tryz.prog 43 #[.pointer (some ⟨xb, 0, none⟩), .pointer (some ⟨kb j, 0, none⟩), htAgg x p, .pointer (some ⟨lb, 0, none⟩)] w (ReplPost w0 n lb xb mb kb ms X vs w r) := by
  have hne := hR.ls.ne
  have hfl : (Ep.flat st).length ≤ 1000000 := by
    rcases Nat.lt_or_ge 1000000 (Ep.flat st).length with hlt | hge
    · unfold Ep.replace Ep.takeInv at hr
      rw [hf, if_pos rfl, if_pos hlt] at hr
      cases hr
    · exact hge
  obtain ⟨hst, hll⟩ := Ep.flat_bounds hne
  obtain ⟨⟨kd, tx, fl, fr, en, bl⟩, hd, mk⟩ := x
  have hal : Below w.heap.size w (w.alloc (.cells #[.int .i64 kd, .string tx, .int .i64 fl, .int .i64 fr, .int .i64 en, .bool bl, .pointer p, .bool mk] 92)) := (Below.refl _ w).alloc (Nat.le_refl _) _
  have hbx := heap_alloc_new w (.cells #[.int .i64 kd, .string tx, .int .i64 fl, .int .i64 fr, .int .i64 en, .bool bl, .pointer p, .bool mk] 92)
  have hL : RpL w0 w (w.alloc (.cells #[.int .i64 kd, .string tx, .int .i64 fl, .int .i64 fr, .int .i64 en, .bool bl, .pointer p, .bool mk] 92)) n lb xb mb kb ms vs X X st w.heap.size ⟨⟨kd, tx, fl, fr, en, bl⟩, hd, mk⟩ p hd :=
    ⟨h.below hal, Ep.Le.refl _, ⟨lv, vs, hR.below hal, Sub.refl _⟩, Fr.of_below hal, ⟨p, hbx⟩, hp.keep (Kept.of_below hal _)⟩
  obtain ⟨_, _, _, k1, -⟩ := hL.xm.kn j m hj hj'
  obtain ⟨-, f1, -⟩ := box6_cells k1
  rw [hf] at f1
  obtain ⟨b0, b1, b2, b3, b4, b5, b6, b7, -⟩ := box8_cells hbx
  have HL := Lib.hid hL
  have HJ := Lib.hid (And.intro hj hj')
  have HRUN := Lib.hid hRUN
  have HR := Lib.hid hr
  have HLL := Lib.hid (And.intro (Nat.le_trans hst hfl) (And.intro (fun l hl => Nat.le_trans (hll l hl) hfl) hfl))
  clear h hR hp hj hj' hRUN hr hal k1 hbx hL hne hst hll hfl
  unfold htAgg
  dsimp only
  go_enter Tryz.func43, Tryz.ntmps43
  show Code.wp Tryz.prog (secs 0 replBody) _ _ _
  refine wp_sec 0 replBody rfl ?_
  conv => arg 2; whnf
  go_wp2_with fail
  generalize (w.alloc (.cells #[.int .i64 kd, .string tx, .int .i64 fl, .int .i64 fr, .int .i64 en, .bool bl, .pointer p, .bool mk] 92)) = W at HL f1 b0 b1 b2 b3 b4 b5 b6 b7 ⊢
  generalize w.heap.size = B6 at HL b0 b1 b2 b3 b4 b5 b6 b7 ⊢
  refine wp_sec 1 replBody rfl ?_
  conv => arg 2; whnf
  go_wp2_with fail
  refine wp_sec 2 replBody rfl ?_
  conv => arg 2; whnf
  go_wp2_with fail
  refine wp_sec 3 replBody rfl ?_
  conv => arg 2; whnf
  go_wp2_with fail
  have KALL := Lib.hid (eall_any lb W)
  have hnil := fun (W : World) (a : Option Addr) (n c : Nat) => eql_ints W a n c 0 0
  refine wp_sec 4 replBody rfl ?_
  conv => arg 2; whnf
  go_wp2_with fail
  refine KALL.out.mono ?_
  rintro e1 W1 ⟨rfl, rfl⟩
  have hal2 : Below W.heap.size W (W.alloc (.cells #[.pointer (some ⟨lb, 0, none⟩)] 97)) := (Below.refl _ W).alloc (Nat.le_refl _) _
  have hpb := heap_alloc_new W (.cells #[.pointer (some ⟨lb, 0, none⟩)] 97)
  have hpc : (W.alloc (.cells #[.pointer (some ⟨lb, 0, none⟩)] 97)).cell? ⟨W.heap.size, 0, none⟩ = some (.pointer (some ⟨lb, 0, none⟩)) := (Lib.cell_of_heap hpb 0).trans rfl
  have hL1 := HL.out.below hal2
  obtain ⟨lv1, vs1, hR1, -⟩ := hL1.rs
  have KC := Lib.hid (cuts_any W.heap.size n lb lv1 vs1 st false _ hR1 hpc HLL.out.1 HLL.out.2.1 HLL.out.2.2)
  have HL1 := Lib.hid hL1
  clear hal2 hpb hpc hL1 hR1 b0 b1 b2 b3 b4 b5 b6 b7 f1
  generalize (W.alloc (.cells #[.pointer (some ⟨lb, 0, none⟩)] 97)) = W1 at KC HL1 ⊢
  go_wp2_with fail
  refine KC.out.mono ?_
  rintro e2 W2 ⟨u, rfl, hu, hb2⟩
  have HL2 := Lib.hid (HL1.out.below hb2)
  clear hb2
  cases hc : Ep.cuts (Ep.flat st) 0 0 [] with
  | none =>
    rw [hc] at hu
    have hu : u = .slice none 0 0 := hu
    subst hu
    have hr := HR.out
    unfold Ep.replace Ep.takeInv at hr
    rw [hf, if_pos rfl, if_neg (by have := HLL.out.2.2; omega), hc] at hr
    injection hr with hr
    have hfin : ReplPost w0 n lb xb mb kb ms X vs w r (.returned (.tuple #[.slice none 0 0, .int .i64 80])) W2 := by
      rw [← hr]
      exact ⟨HL2.out.fr, rfl, by decide⟩
    have HF := Lib.hid hfin
    clear hfin hr hc
    go_wp2_with fail
    go_ret2
    exact HF.out
  | some cs =>
    rw [hc] at hu
    obtain ⟨hrow, -⟩ : IRow W2 W1.heap.size u cs ∧ u ≠ .slice none 0 0 := hu
    have hcne := (Ep.cuts_steps hc).1
    have hcpos : 0 < cs.length := List.length_pos_iff.2 hcne
    obtain ⟨cg, ccap, rfl, hcl, hcc⟩ := irow_get hrow hcpos
    have hr := HR.out
    obtain ⟨ins, st', hts⟩ : ∃ ins st', Ep.takeS (cs.getLastD 0 + 1) st = some (ins, st') := by
      unfold Ep.replace Ep.takeInv at hr
      rw [hf, if_pos rfl, if_neg (by have := HLL.out.2.2; omega), hc] at hr
      dsimp only at hr
      cases ht : Ep.takeS (cs.getLastD 0 + 1) st with
      | none => rw [ht] at hr; cases hr
      | some y => exact ⟨y.1, y.2, rfl⟩
    obtain ⟨l, rst, rfl, hk, hins, hst'⟩ := Ep.takeS_some hts
    have hll := HLL.out.2.1 l List.mem_cons_self
    have hfl := HLL.out.2.2
    have hio : InvOk ins cs := by rw [hins]; exact InvOk.of_cuts hc hk (by omega)
    have hpos : 0 < ins.length := by have := hio.last; omega
    obtain ⟨z, hz⟩ : ∃ z, ins.getLast? = some z := by
      rw [List.getLast?_eq_getElem?]
      exact ⟨_, List.getElem?_eq_getElem (by omega)⟩
    have ht : Ep.takeInv m ⟨⟨kd, tx, fl, fr, en, bl⟩, hd, mk⟩ (l :: rst) = some (.ok (ins, cs, hd &&& z.hd, st')) := by
      unfold Ep.takeInv
      rw [hf, if_pos rfl, if_neg (by omega), hc]
      dsimp only
      rw [hts]
      dsimp only
      rw [hz]
    obtain ⟨X1, q, ra, hs, hra, hr2⟩ := Ep.replace_parts hr ht
    have HS := Lib.hid (And.intro hs (And.intro hra hr2))
    have hlast := hcc (cs.length - 1) (by omega)
    rw [← getLastD_getD] at hlast
    obtain ⟨T, hT⟩ : ∃ T, T = cs.getLastD 0 + 1 := ⟨_, rfl⟩
    obtain ⟨a, ha⟩ : ∃ a, a = cs.getLastD 0 := ⟨_, rfl⟩
    rw [← ha] at hlast hT
    have hTl : T ≤ l.length := by rw [hT, ha]; exact hk
    have hinsT : ins = l.take T := by rw [hins, hT, ha]
    have hstT : st' = Ep.drop1 T (l :: rst) := by rw [hst', hT, ha]
    obtain ⟨lv2, vs2, hR2, hsub2⟩ := HL2.out.rs
    have KT := Lib.hid (etake_any w0.heap.size n lb lv2 vs2 l rst false T W2 hR2 hTl hN (by omega) (by have := HLL.out.1; simp only [List.length_cons] at this; omega))
    obtain ⟨c1, hc1⟩ : ∃ c1, c1 = cs.length - 1 := ⟨_, rfl⟩
    rw [← hc1] at hlast
    have hsz := hio.size
    have hib := hio.bound
    have z1 : IntKind.i64.wrap ((cs.length : Int) - 1) = (c1 : Int) := by rw [IntWalk.i64_in _ (by omega)]; omega
    have z2 : (0 : Int) ≤ c1 := by omega
    have z3 : (c1 : Int) < cs.length := by omega
    have z4 : IntKind.i64.wrap ((a : Int) + 1) = (T : Int) := by rw [IntWalk.i64_in _ (by omega)]; omega
    have HIO := Lib.hid hio
    have HROW := Lib.hid hrow
    have HZ := Lib.hid hz
    have HIN := Lib.hid (And.intro hinsT hstT)
    clear hc hcne hrow hcc hr hts hins hst' hio hz ht hs hra hr2 hR2 hinsT hstT hk hll ha hT hc1
    go_wp2_with fail
    refine KT.out.mono ?_
    rintro e3 W3 ⟨iv, rfl, hiv, ⟨lv3, vs3, hR3, hsub3⟩, hF3⟩
    rw [← HIN.out.1] at hiv
    rw [← HIN.out.2] at hR3
    have hL3 := HL2.out.took hF3 ⟨lv3, vs3, hR3, hsub3.trans hsub2⟩
    have hrow3 : IRow W3 W1.heap.size (.slice (some ⟨cg, 0, none⟩) cs.length ccap) cs := row_keepK HROW.out (hF3.kept (by decide) (by decide) (by decide) (by decide))
    have hz3 : ins[ins.length - 1]? = some z := by rw [← List.getLast?_eq_getElem?]; exact HZ.out
    obtain ⟨iad, icap, rfl, -, -⟩ := hiv.form
    obtain ⟨ig, io, rfl, -, -, p2, d6, -, hp2⟩ := hs_some hiv hz3
    obtain ⟨i1, hi1⟩ : ∃ i1, i1 = ins.length - 1 := ⟨_, rfl⟩
    rw [← hi1] at d6
    obtain ⟨L, hLL⟩ : ∃ L, L = ins.length := ⟨_, rfl⟩
    have KB := Lib.hid (eboth_any p p2 hd z.hd W3 hL3.hd hp2)
    have y1 : IntKind.i64.wrap ((L : Int) - 1) = (i1 : Int) := by rw [IntWalk.i64_in _ (by omega)]; omega
    have y2 : (0 : Int) ≤ i1 := by omega
    have y3 : (i1 : Int) < L := by omega
    have HL3 := Lib.hid hL3
    have HIV := Lib.hid hiv
    have HROW3 := Lib.hid hrow3
    have HLL2 := Lib.hid hLL
    rw [← hLL]
    clear hiv hR3 hF3 hsub3 hL3 hrow3 hz3 hp2 hi1 hlast z1 z4 hLL hpos hib hsz
    go_wp2_with fail
    refine KB.out.mono ?_
    rintro e4 W4 ⟨hp4, rfl, hh4, -, hb4⟩
    have HL4 := Lib.hid ((HL3.out.below hb4).hide hh4)
    have HIV4 := Lib.hid (HIV.out.below hb4)
    have HROW4 := Lib.hid (row_below HROW3.out hb4)
    clear hb4 hh4 d6 y1
    go_wp2_with fail
    exact repl_step w0 w W4 n lb xb mb kb ms vs run HRUN.out X st' B6 ⟨⟨kd, tx, fl, fr, en, bl⟩, hd, mk⟩ hp4 (hd &&& z.hd) j m _ _ ins cs _ _ _ _ _ _ _ _ _ _ _ _ _ _ _ _ _ _ _ _ _ _ _ _ _ _ _ _ _ _ _ _ _ _ _ _ _ _ _ _ _ _ _ _ _ _ _ _ _ _ _ _ _ _ _ _ _ _ _ _ _ _ _ _ _ _ _ _ _ _ _ _ _ _ _ _ _ _ _ _ _ _ _ _ _ _ _ _ _ _ _ _ HL4.out hG hm HJ.out.1 HJ.out.2 (fun _ => ⟨by rw [HLL2.out]; exact HIV4.out, ⟨_, HROW4.out⟩, HIO.out⟩) HIO.out.bound r X1 q HS.out.1 ra HS.out.2.1 HS.out.2.2
theorem ereplace_any (w0 : World) (n lb xb mb : Nat) (kb : Nat → Nat) (ms : List M) (run : XS → List HT → Ep.R (XS × List HT)) (hRUN : RunAny w0 xb mb kb ms run) (X : XS) (st : List (List HT)) (lv : Value) (vs : List Value) (x : HT) (p : Option Addr) (j : Nat) (m : M) (w : World)
    (h : XM w0 w xb mb kb ms X) (hR : Rs w n lb lv vs st false) (hp : HidP w p x.hd) (hN : w0.heap.size ≤ n) (hG : Glob w0) (hm : MOk m) (hj : ms[j]? = some m) (hj' : Ep.ixOf m.name ms 0 = some j)
    (r : Except Int (XS × List HT × List (List HT))) (hr : Ep.replace run ms X j m x st = some r) :
    Calls Tryz.prog 43 #[.pointer (some ⟨xb, 0, none⟩), .pointer (some ⟨kb j, 0, none⟩), htAgg x p, .pointer (some ⟨lb, 0, none⟩)] w (ReplPost w0 n lb xb mb kb ms X vs w r) := by
  cases hf : m.fn with
  | false => exact ereplace_plain w0 n lb xb mb kb ms run hRUN X st lv vs x p j m w h hR hp hG hm hj hj' hf r hr
  | true => exact ereplace_fn w0 n lb xb mb kb ms run hRUN X st lv vs x p j m w h hR hp hN hG hm hj hj' hf r hr
end Go.Proofs.YtlepnafgcmeimaaGreatDoor

/- What is proved: what macroOf tells. -/
namespace Go.Proofs.YtlepnafgcmeimaaGreatDoor
open Go.RowKit Go.Shelf
open Ep (HT XS)
open Mx (M)

set_option maxRecDepth 100000 in
set_option maxHeartbeats 4000000 in
theorem emacroOf_any (w0 : World) (xb mb : Nat) (kb : Nat → Nat) (ms : List M) (X : XS) (x : HT) (p : Option Addr) (w : World) (h : XM w0 w xb mb kb ms X) (hp : HidP w p x.hd) :
    Calls Tryz.prog 41 #[.pointer (some ⟨xb, 0, none⟩), htAgg x p] w fun e w' => e = .returned (.pointer ((Ep.macroOf ms X x).map fun j => ⟨kb j, 0, none⟩)) ∧ Below w.heap.size w w' := by
  obtain ⟨⟨kd, tx, f, fr, en, bl⟩, hd, mk⟩ := x
  have hA : Below w.heap.size w (w.alloc (.cells #[.int .i64 kd, .string tx, .int .i64 f, .int .i64 fr, .int .i64 en, .bool bl, .pointer p, .bool mk] 92)) := (Below.refl _ w).alloc (Nat.le_refl _) _
  have hlook := fun nn => ((h.below hA).below (Below.drewN (Below.refl _ _) nn)).look tx
  have hx := h.below hA
  have hp1 : HidP _ p hd := hp.keep (Kept.of_below hA _)
  obtain ⟨x0, x1, x2, -⟩ := box3_cells hx.blk
  have HA := Lib.hid hA
  unfold htAgg
  dsimp only
  by_cases hk : kd = 1
  · subst hk
    cases hix : Ep.ixOf tx ms 0 with
    | none =>
      simp only [hix, Option.map_none] at hlook
      have hr : Ep.macroOf ms X ⟨⟨1, tx, f, fr, en, bl⟩, hd, mk⟩ = none := by simp [Ep.macroOf, hix]
      rw [hr]
      rw [Option.map_none]
      clear h hx hp hp1 hA hr
      go_enter Tryz.func41, Tryz.ntmps41
      go_wp2_with fail
      go_quiet (fail)
      go_wp2_with fail
      go_quiet (fail)
      go_wp2_with fail
      go_ret
      exact ⟨rfl, Below.drewN (Below.drewN HA.out _) _⟩
    | some j =>
      simp only [hix, Option.map_some] at hlook
      obtain ⟨m, hm1, hm2⟩ := Ep.ixOf_some hix
      obtain ⟨pv, bv, pp, hb, -, -, hpl⟩ := hx.kn j m hm1 (by rw [hm2]; exact hix)
      obtain ⟨-, -, -, -, -, k5⟩ := box6_cells hb
      rcases hpl with ⟨hq, rfl⟩ | ⟨i, pb, sv, uv, hq, rfl, hpl⟩
      · have hr : Ep.macroOf ms X ⟨⟨1, tx, f, fr, en, bl⟩, hd, mk⟩ = some j := by simp [Ep.macroOf, hix, hq]
        rw [hr, Option.map_some]
        clear h hx hp hp1 hA hr hb
        go_enter Tryz.func41, Tryz.ntmps41
        go_wp2_with fail
        go_quiet (fail)
        go_wp2_with fail
        go_quiet (fail)
        go_wp2_with fail
        go_ret
        exact ⟨rfl, Below.drewN (Below.drewN HA.out _) _⟩
      · have hi : i < 60 := by have := (Ep.planIx_lt j X.pl 0 i hq).2; have := hx.np; omega
        have hr : Ep.macroOf ms X ⟨⟨1, tx, f, fr, en, bl⟩, hd, mk⟩ = if hd.testBit i then none else some j := by simp [Ep.macroOf, hix, hq]
        obtain ⟨p0, -, -, -⟩ := box3_cells hpl.blk
        rw [hr]
        have KH := Lib.hid (fun (n : Nat) => ehas_any p hd i ((w.alloc (.cells #[.int .i64 1, .string tx, .int .i64 f, .int .i64 fr, .int .i64 en, .bool bl, .pointer p, .bool mk] 92)).drewN n) (HidP.keep (W := (w.alloc (.cells #[.int .i64 1, .string tx, .int .i64 f, .int .i64 fr, .int .i64 en, .bool bl, .pointer p, .bool mk] 92))) hp1 (fun _ _ _ h => h)) hi)
        clear h hx hp hp1 hA hr hb hpl
        generalize hd.testBit i = c at KH ⊢
        cases c with
        | true =>
          rw [if_pos rfl, Option.map_none]
          go_enter Tryz.func41, Tryz.ntmps41
          go_wp2_with fail
          go_quiet (fail)
          go_wp2_with fail
          go_quiet ((go_at_call 56; exact (KH.out _).mono fun _ _ hh => ⟨hh.1, _, hh.2⟩))
          go_wp2_with fail
          go_ret
          exact ⟨rfl, Below.drewN (Below.drewN HA.out _) _⟩
        | false =>
          rw [if_neg (by decide), Option.map_some]
          go_enter Tryz.func41, Tryz.ntmps41
          go_wp2_with fail
          go_quiet (fail)
          go_wp2_with fail
          go_quiet ((go_at_call 56; exact (KH.out _).mono fun _ _ hh => ⟨hh.1, _, hh.2⟩))
          go_wp2_with fail
          go_ret
          exact ⟨rfl, Below.drewN (Below.drewN HA.out _) _⟩
  · have hr : Ep.macroOf ms X ⟨⟨kd, tx, f, fr, en, bl⟩, hd, mk⟩ = none := by simp [Ep.macroOf, hk]
    rw [hr, Option.map_none]
    have hk' : ¬ (kd = 1) := hk
    clear h hx hp hp1 hA hr hlook x0 x1 x2
    go_enter Tryz.func41, Tryz.ntmps41
    go_wp2_with fail
    go_ret
    exact ⟨rfl, HA.out⟩
end Go.Proofs.YtlepnafgcmeimaaGreatDoor

/- What a run keeps between its rounds; put and next once more, with what their lists are. -/
namespace Go.Proofs.YtlepnafgcmeimaaGreatDoor
open Go.RowKit Go.Shelf
open Ep (HT XS)
open Mx (M)

theorem Off.append {B : Nat} {vs : List Value} {v : Value} (h : Off B vs) (hv : v.ownBlock ≠ some B) : Off B (vs ++ [v]) := fun u hu => by
  rcases List.mem_append.1 hu with hu | hu
  · exact h u hu
  · rw [List.mem_singleton.1 hu]; exact hv
def PutPost (N n lb : Nat) (st : List (List HT) × Bool) (vs : List Value) (v : Value) (w : World) (e : Ending) (w' : World) : Prop :=
  e = .returned (.tuple #[]) ∧ (∃ lv' vs', Rs w' n lb lv' vs' st.1 st.2 ∧ ∀ B, Off B vs → v.ownBlock ≠ some B → Off B vs') ∧ Fr false N n w w'
set_option maxRecDepth 100000 in
set_option maxHeartbeats 4000000 in
theorem eput2_any (N n lb : Nat) (lv : Value) (vs : List Value) (st : List (List HT)) (v : Value) (l : List HT) (b' : Bool) (w : World) (h : Rs w n lb lv vs st false) (hv : Hs w v l) (hN : N ≤ n) (hst : st.length ≤ 1000000) :
    Calls Tryz.prog 39 #[.pointer (some ⟨lb, 0, none⟩), v, .bool b'] w (PutPost N n lb (Ep.put l b' st) vs v w) := by
  obtain ⟨i0, hi, hz0, hz1, hz2⟩ := info_parts infoHts
  have c0 := h.c0
  have c1 := h.c1
  have f0 := h.froz 0
  have f1 := h.froz 1
  have hlt := h.lt
  obtain ⟨ad, cap, rfl, -, -⟩ := hv.form
  cases l with
  | nil =>
    have key : PutPost N n lb (Ep.put [] b' st) vs (.slice ad 0 cap) w (.returned (.tuple #[])) (w.setCell ⟨lb, 1, none⟩ (.bool b')) := by
      refine ⟨rfl, ⟨lv, vs, ?_, fun B hB _ => hB⟩, Fr.set_rest h.blk (.inl rfl) h.hn hN⟩
      refine ⟨by simp [World.setCell, Array.getElem?_modify, h.blk, Ep.put], h.hn, ownsRow_setCell_other h.row h.off _, h.ls.keep (Kept.set h.blk (by decide)) (Kept.set h.blk (by decide))⟩
    have KEY := Lib.hid key
    clear key h hv
    rw [List.length_nil]
    go_enter Tryz.func39, Tryz.ntmps39
    go_wp2_with fail
    exact bodyPost_ret (results_none rfl _ _ _) rfl KEY.out
  | cons x r =>
    have hrow := h.row
    obtain ⟨U, hU⟩ : ∃ U, U = vs.length := ⟨_, rfl⟩
    have hU1 : U ≤ 1000000 := by rw [hU, h.ls.length]; exact hst
    have hnb : n ≤ w.heap.size := Nat.le_trans h.hn (Nat.le_of_lt hlt)
    have off := Ne.symm h.off
    have HH := Lib.hid h
    have Hv := Lib.hid hv
    have HU := Lib.hid hU
    rw [← hU] at hrow
    have q0 : ¬ ((x :: r).length = 0) := by simp
    have q1 : ¬ (((x :: r).length : Int) = 0) := by simp; omega
    obtain ⟨L, hL⟩ : ∃ L, L = (x :: r).length := ⟨_, rfl⟩
    rw [← hL] at q0 q1 ⊢
    have qb : ((L : Int) == 0) = false := beq_eq_false_iff_ne.2 (by omega)
    rw [← hL] at Hv
    have hal : Below w.heap.size w (w.alloc (.cells #[.slice ad L cap] 54)) := (Below.refl _ w).alloc (Nat.le_refl _) _
    have d0 := (hal.cell (p := ⟨lb, 0, none⟩) hlt).trans c0
    have g0 := (hal.frozen (p := ⟨lb, 0, none⟩) hlt).trans f0
    have hlt1 : lb < (w.alloc (.cells #[.slice ad L cap] 54)).heap.size := by simp; omega
    have HAL := Lib.hid hal
    clear h hv hU hst hL c1 f1 f0 hal
    go_enter Tryz.func39, Tryz.ntmps39
    go_wp2_with (at_builtin; refine wpList_append_lies _ rfl _ _ 86 rfl n 54 i0 _ 1 24 Tryz.underlying86 hi hz0 hz1 hz2 rfl (by decide) lv U vs rfl (hrow.alloc _) ⟨w.heap.size, 0, none⟩ 1 1 [.slice ad L cap] rfl rfl (World.news_of_block (cs := #[.slice ad L cap]) (t := 54) (fr := (0, 0)) (heap_alloc_new w _)) (by simp [Value.oneCell']) (by decide) (by unfold maxLen; omega) (by omega) (by simp; omega) _ rfl ?_; intro gg cap' w2 hown hgrow hat hlt2; have e0 := (hgrow.cell_far ⟨lb, 0, none⟩ hlt1 off).trans d0; have e1 := (hgrow.frozen_far ⟨lb, 0, none⟩ hlt1 off).trans g0)
    go_end0
    rw [HU.out] at hown
    have hp := HH.out.push Hv.out (by simp) HAL.out hown hgrow (by
      simp only [Value.ownBlock, ne_eq, Option.some.injEq]
      rcases hat with hat | hat
      · rintro rfl; exact off hat.symm
      · simp at hat; omega) hN
    rw [← HU.out] at hp
    exact ⟨rfl, ⟨_, _, hp.1, fun B hB hvB => hB.append hvB⟩, hp.2⟩
def NextPost (N n lb : Nat) (vs : List Value) (st : List (List HT)) (b : Bool) (w : World) (e : Ending) (w' : World) : Prop :=
  ∃ x p, e = .returned (.tuple #[htAgg x p, .bool (Ep.next st b).isSome]) ∧ HidP w' p x.hd ∧ Fr false N n w w' ∧
    match Ep.next st b with
    | none => st = [] ∧ ∃ lv', Rs w' n lb lv' vs [] b
    | some (y, st') => x = y ∧ ∃ lv' vs', Rs w' n lb lv' vs' st' false ∧ Sub vs' vs
theorem enext_any (N n lb : Nat) (lv : Value) (vs : List Value) (st : List (List HT)) (b : Bool) (w : World) (h : Rs w n lb lv vs st b) (hN : N ≤ n) (hl : ∀ l ∈ st, l.length ≤ 1000000) (hst : st.length ≤ 1000000) :
    Calls Tryz.prog 40 #[.pointer (some ⟨lb, 0, none⟩)] w (NextPost N n lb vs st b w) := by
  cases st with
  | nil =>
    refine (enext_none n lb lv vs b w h).mono ?_
    rintro e w' ⟨rfl, hb⟩
    exact ⟨⟨Ep.zeroK, 0, false⟩, none, rfl, HidP.zero _, Fr.of_below hb, rfl, lv, h.below hb⟩
  | cons l st =>
    cases l with
    | nil => exact absurd rfl (h.ls.ne _ List.mem_cons_self)
    | cons x r =>
      refine (enext_some N n lb lv vs x r st b w h hN (hl _ List.mem_cons_self) (by simp only [List.length_cons] at hst; omega)).mono ?_
      rintro e w' ⟨p, rfl, hp, ⟨lv', vs', hr, hs⟩, hf⟩
      exact ⟨_, p, rfl, hp, hf, rfl, lv', vs', hr, hs⟩

/-! ### plain -/
/-- What is done with a token. -/
def Ep.go (ms : List M) (n k : Nat) (X : XS) (x : HT) (st' : List (List HT)) : Ep.R (XS × List HT) :=
  if 1000000 < x.t.text.size then none
  else
    match Ep.macroOf ms X x with
    | none => if k < 4000 then Ep.stays x (Ep.run ms n (k + 1) X st' false) else none
    | some j =>
      match ms[j]? with
      | none => none
      | some m =>
        if m.fn && !Ep.opens st' then (if k < 4000 then Ep.stays x (Ep.run ms n (k + 1) X st' false) else none)
        else
          match Ep.replace (fun X l => Ep.run ms n 0 X (Ep.put l false []).1 false) ms X j m x st' with
          | none => none
          | some (.error e) => some (.error e)
          | some (.ok (X', l, st'')) => Ep.run ms n k X' (Ep.put l x.t.bl st'').1 (Ep.put l x.t.bl st'').2
theorem Ep.run_next (ms : List M) (n k : Nat) (X : XS) (st : List (List HT)) (b : Bool) : Ep.run ms (n + 1) k X st b = match Ep.next st b with | none => some (.ok (X, [])) | some (x, st') => Ep.go ms n k X x st' := rfl
def Ep.joinR (acc : List HT) : Except Int (XS × List HT) → Except Int (XS × List HT)
  | .ok (X, l) => .ok (X, acc ++ l)
  | .error e => .error e
theorem Ep.stays_some {x : HT} {o : Ep.R (XS × List HT)} {r' : Except Int (XS × List HT)} (h : Ep.stays x o = some r') (acc : List HT) : ∃ r'', o = some r'' ∧ Ep.joinR acc r' = Ep.joinR (acc ++ [x]) r'' := by
  unfold Ep.stays at h
  split at h
  · rename_i X l
    injection h with h
    subst h
    exact ⟨_, rfl, by simp [Ep.joinR]⟩
  · rename_i o' hno
    cases o with
    | none => cases h
    | some r'' =>
      injection h with h
      subst h
      refine ⟨r'', rfl, ?_⟩
      cases r'' with
      | error e => rfl
      | ok y => exact absurd rfl (hno y.1 y.2)
theorem Ep.put_len (l : List HT) (b : Bool) (st : List (List HT)) : (Ep.put l b st).1.length ≤ st.length + 1 ∧ ∀ x ∈ (Ep.put l b st).1, x = l ∨ x ∈ st := by
  unfold Ep.put
  split
  · exact ⟨by show st.length ≤ _; omega, fun x hx => .inr hx⟩
  · exact ⟨by show (l :: st).length ≤ _; simp, fun x hx => by rcases List.mem_cons.1 hx with h | h; exact .inl h; exact .inr h⟩
theorem Ep.drop1_len (k : Nat) (st : List (List HT)) (B : Nat) (h : ∀ l ∈ st, l.length ≤ B) : (Ep.drop1 k st).length ≤ st.length ∧ ∀ l ∈ Ep.drop1 k st, l.length ≤ B := by
  cases st with
  | nil => exact ⟨Nat.le_refl _, h⟩
  | cons a r =>
    rw [show Ep.drop1 k (a :: r) = if a.length ≤ k then r else a.drop k :: r from rfl]
    split
    · exact ⟨by simp, fun l hl => h l (List.mem_cons_of_mem _ hl)⟩
    · refine ⟨by simp, fun l hl => ?_⟩
      rcases List.mem_cons.1 hl with rfl | hl
      · rw [List.length_drop]; have := h a List.mem_cons_self; omega
      · exact h l (List.mem_cons_of_mem _ hl)
theorem Ep.next_len {st : List (List HT)} {b : Bool} {x : HT} {st' : List (List HT)} (h : Ep.next st b = some (x, st')) (B : Nat) (hl : ∀ l ∈ st, l.length ≤ B) : st'.length ≤ st.length ∧ ∀ l ∈ st', l.length ≤ B := by
  unfold Ep.next at h
  split at h
  · rename_i y r st2
    injection h with h
    injection h with _ h
    subst h
    exact Ep.drop1_len 1 _ B hl
  · cases h
theorem Ep.replace_len {run : XS → List HT → Ep.R (XS × List HT)} {ms : List M} {X : XS} {j : Nat} {m : M} {x : HT} {st : List (List HT)} {X' : XS} {l : List HT} {st' : List (List HT)} (h : Ep.replace run ms X j m x st = some (.ok (X', l, st'))) (B : Nat) (hl : ∀ l ∈ st, l.length ≤ B) : st'.length ≤ st.length ∧ ∀ l ∈ st', l.length ≤ B := by
  cases ht : Ep.takeInv m x st with
  | none => unfold Ep.replace at h; rw [ht] at h; cases h
  | some y =>
    cases y with
    | error e => unfold Ep.replace at h; rw [ht] at h; cases h
    | ok z =>
      obtain ⟨ins, cs, hh, st2⟩ := z
      obtain ⟨X1, q, ra, -, -, hb⟩ := Ep.replace_parts h ht
      have hs : st' = st2 := by
        cases ra with
        | error e => unfold Ep.behind at hb; injection hb with hb; cases hb
        | ok y =>
          obtain ⟨X2, ags⟩ := y
          rw [Ep.behind_ok] at hb
          cases hf : Ep.filled (Ep.pieces m) ags with
          | none => rw [hf] at hb; cases hb
          | some y =>
            cases y with
            | error e => rw [hf] at hb; injection hb with hb; cases hb
            | ok l2 =>
              rw [hf] at hb
              simp only [Option.some.injEq, Except.ok.injEq, Prod.mk.injEq] at hb
              exact hb.2.2.symm
      subst hs
      unfold Ep.takeInv at ht
      split at ht
      · split at ht
        · cases ht
        · split at ht
          · cases ht
          · split at ht
            · cases ht
            · rename_i hts
              obtain ⟨a, r, rfl, -, -, e⟩ := Ep.takeS_some hts
              split at ht
              · cases ht
              · simp only [Option.some.injEq, Except.ok.injEq, Prod.mk.injEq] at ht
                obtain ⟨-, -, -, rfl⟩ := ht
                rw [e]
                exact Ep.drop1_len _ _ B hl
      · simp only [Option.some.injEq, Except.ok.injEq, Prod.mk.injEq] at ht
        obtain ⟨-, -, -, rfl⟩ := ht
        exact ⟨Nat.le_refl _, hl⟩
end Go.Proofs.YtlepnafgcmeimaaGreatDoor

/- What a run keeps between its rounds: what each step does to it. -/
namespace Go.Proofs.YtlepnafgcmeimaaGreatDoor
open Go.RowKit Go.Shelf
open Ep (HT XS)
open Mx (M)

section
variable {W W' : World} {o : Option Nat}
/-- One block of tokens has grown. -/
def GrT (W : World) (o : Option Nat) : Prop := ∀ B, o = some B → ∃ cs fz, W.heap[B]? = some (.cells cs 92 fz)
theorem GrT.kept (hg : W.grownBy W' o) (ht : GrT W o) {t : TypeId} (h : t ≠ 92) : Kept t W W' := fun b cs fz hb => (hg.block b (lt_of_heap hb) fun e => by
  obtain ⟨ds, fy, h2⟩ := ht b e.symm
  rw [hb] at h2
  cases h2
  exact h rfl).trans hb
theorem GrT.stay (hg : W.grownBy W' o) (ht : GrT W o) : StayX W W' := fun b ob hb hok => (hg.block b (lt_of_heap hb) fun e => by
  obtain ⟨ds, fy, h2⟩ := ht b e.symm
  rw [hb] at h2
  cases h2
  exact hok.2.2.1 rfl).trans hb
theorem Hs.grown {v : Value} {l : List HT} (h : Hs W v l) (hg : W.grownBy W' o) (ht : GrT W o) (ho : ∀ B, o = some B → v.ownBlock ≠ some B) : Hs W' v l := by
  obtain ⟨ad, cap, rfl, a1, a2, a3⟩ := h
  refine ⟨ad, cap, rfl, a1, a2, fun i x hx => ?_⟩
  obtain ⟨g, q, rfl, ⟨ds, fy, hgb⟩, hk, p, c6, c7, hp⟩ := a3 i x hx
  have hb : W'.heap[g]? = W.heap[g]? := hg.block g (lt_of_heap hgb) fun e => ho g e.symm rfl
  exact ⟨g, q, rfl, ⟨ds, fy, hb.trans hgb⟩, hk.kept hb, p, (World.cell?_of_block (a := ⟨g, q + i * 8 + 6, none⟩) hb).trans c6, (World.cell?_of_block (a := ⟨g, q + i * 8 + 7, none⟩) hb).trans c7, hp.keep (GrT.kept hg ht (by decide))⟩
theorem Ls.grown (hg : W.grownBy W' o) (ht : GrT W o) : ∀ {st : List (List HT)} {vs : List Value}, Ls W st vs → (∀ B, o = some B → Off B vs) → Ls W' st vs
  | [], _, h, _ => h
  | _ :: _, _, ⟨us, v, e, hv, hn, h⟩, ho => ⟨us, v, e, hv.grown hg ht (fun B hB => ho B hB v (by rw [e]; simp)), hn, Ls.grown hg ht h (fun B hB x hx => ho B hB x (by rw [e]; simp [hx]))⟩
theorem Rs.grown {n lb : Nat} {lv : Value} {vs : List Value} {st : List (List HT)} {b : Bool} (h : Rs W n lb lv vs st b) (hg : W.grownBy W' o) (ht : GrT W o) (ho : ∀ B, o = some B → Off B vs) : Rs W' n lb lv vs st b :=
  ⟨GrT.kept hg ht (by decide) _ _ _ h.blk, h.hn, row_keepK h.row (GrT.kept hg ht (by decide)), h.ls.grown hg ht ho⟩
theorem HRow.grT {n : Nat} {v : Value} {l : List HT} (h : HRow W n v l) : GrT W v.ownBlock := fun B hB => by
  obtain ⟨cs, hr, -⟩ := h
  rcases hr.2 with ⟨h', _⟩ | ⟨g, cap, cur, h', _, h2, _⟩
  · rw [h'] at hB; cases hB
  · rw [h'] at hB
    simp only [Value.ownBlock, Option.some.injEq] at hB
    subst hB
    exact ⟨cur, _, h2⟩
theorem HRow.lt {n : Nat} {v : Value} {l : List HT} (h : HRow W n v l) {B : Nat} (hB : v.ownBlock = some B) : n ≤ B ∧ B < W.heap.size := by
  obtain ⟨cs, hr, -⟩ := h
  exact hr.lt B hB
theorem HRow.only {n B : Nat} {v : Value} {l : List HT} {cs : Array Value} {fz : Nat × Nat} (h : HRow W n v l) (k : Only1 B W W') (hB : W.heap[B]? = some (.cells cs 92 fz)) (ho : v.ownBlock ≠ some B) : HRow W' n v l := by
  obtain ⟨ds, hr, hcs⟩ := h
  refine ⟨ds, ⟨hr.1, ?_⟩, hcs.keep (k.kept hB (by decide))⟩
  rcases hr.2 with h' | ⟨g, cap, cur, h', a1, a2, a3⟩
  · exact .inl h'
  · exact .inr ⟨g, cap, cur, h', a1, (k g (fun e => ho (by rw [h', ← e]; rfl))).trans a2, a3⟩
theorem Fr.grownOwn {x : Bool} {N n e sz m : Nat} {v : Value} {xs : List Value} {w : World} (h : Fr x N n w W) (hr : W.ownsRow w.heap.size e sz v m xs) (hg : W.grownBy W' v.ownBlock) : Fr x N n w W' :=
  ⟨hg.os.trans h.os, hg.tape.trans h.tape, hg.output.trans h.output, Nat.le_trans h.size hg.size, fun b o hb ho => by
    have hlt := lt_of_heap hb
    refine (hg.block b (by have := h.size; omega) fun e' => ?_).trans (h.block b o hb ho)
    have := (hr.lt b e'.symm).1
    omega⟩
end

/-- What a run keeps. -/
structure Lp (w0 w W : World) (lb xb mb : Nat) (kb : Nat → Nat) (ms : List M) (X X1 : XS) (st : List (List HT)) (b : Bool) (acc : List HT) (sv : Value) : Prop where
  xm : XM w0 W xb mb kb ms X1
  le : Ep.Le X X1
  fr : Fr true w0.heap.size w.heap.size w W
  rs : ∃ lv vs, Rs W w.heap.size lb lv vs st b ∧ ∀ B, sv.ownBlock = some B → Off B vs
  row : HRow W w.heap.size sv acc
  lens : ∀ l ∈ st, l.length ≤ 1000000
  cnt : st.length ≤ X1.steps + 1
  hw : w0.heap.size ≤ w.heap.size
/-- The token at hand, in its box. -/
structure Bx8 (w W : World) (B : Nat) (x : HT) (p : Option Addr) (sv : Value) : Prop where
  blk : W.heap[B]? = some (.cells #[.int .i64 x.t.kind, .string x.t.text, .int .i64 x.t.file, .int .i64 x.t.fr, .int .i64 x.t.en, .bool x.t.bl, .pointer p, .bool x.mark] 92 (0, 0))
  hid : HidP W p x.hd
  hB : w.heap.size ≤ B
  off : sv.ownBlock ≠ some B
section
variable {w0 w W W' : World} {lb xb mb B : Nat} {kb : Nat → Nat} {ms : List M} {X X1 X2 : XS} {st st' : List (List HT)} {b b' : Bool} {acc : List HT} {sv sv' : Value} {x y : HT} {p : Option Addr}
theorem Lp.below (h : Lp w0 w W lb xb mb kb ms X X1 st b acc sv) (hb : Below W.heap.size W W') : Lp w0 w W' lb xb mb kb ms X X1 st b acc sv := by
  obtain ⟨lv, vs, hr, ho⟩ := h.rs
  exact ⟨h.xm.below hb, h.le, h.fr.trans (Fr.of_below hb), ⟨lv, vs, hr.below hb, ho⟩, h.row.below hb, h.lens, h.cnt, h.hw⟩
theorem Bx8.below (h : Bx8 w W B x p sv) (hb : Below W.heap.size W W') : Bx8 w W' B x p sv := ⟨(hb.block _ (lt_of_heap h.blk)).trans h.blk, h.hid.keep (Kept.of_below hb _), h.hB, h.off⟩
theorem Bx8.fr {N n : Nat} {z : Bool} (h : Bx8 w W B x p sv) (hf : Fr z N n W W') : Bx8 w W' B x p sv := ⟨hf.ht _ _ _ h.blk, hf.hid h.hid, h.hB, h.off⟩
/-- A token stays. -/
theorem Lp.append {cs : List Value} {tmp : Obj} {w2 : World} (h : Lp w0 w W lb xb mb kb ms X X1 st b acc sv) (hx : Bx8 w W B x p sv) (hrow : W.ownsRow w.heap.size 92 8 sv acc.length cs) (hcs : HCs W acc cs)
    (hown : w2.ownsRow w.heap.size 92 8 sv' (acc.length + 1) (cs ++ htCells x p)) (hg : (W.alloc tmp).grownBy w2 sv.ownBlock) (hat : ∀ g, sv'.ownBlock = some g → sv.ownBlock = some g ∨ (W.alloc tmp).heap.size ≤ g) :
    Lp w0 w w2 lb xb mb kb ms X X1 st b (acc ++ [x]) sv' ∧ Bx8 w w2 B x p sv' := by
  have hal : Below W.heap.size W (W.alloc tmp) := (Below.refl _ W).alloc (Nat.le_refl _) _
  have h1 := h.below hal
  have hx1 := hx.below hal
  obtain ⟨lv, vs, hr, ho⟩ := h1.rs
  have ht := h1.row.grT
  have hcs1 := hcs.keep (Kept.of_below hal 137)
  have hrow1 := hrow.alloc tmp
  have hblt : Below w0.heap.size w0 w2 := h1.xm.bl.grown hg h1.xm.bl.size (fun j e => Nat.le_trans h.hw (h1.row.lt e).1)
  have hBw := lt_of_heap hx.blk
  refine ⟨⟨h1.xm.stay (GrT.stay hg ht) hblt, h.le, h1.fr.grownOwn hrow1 hg, ⟨lv, vs, hr.grown hg ht ho, fun g hgg => ?_⟩, ⟨_, by rw [List.length_append]; exact hown, (hcs1.keep (GrT.kept hg ht (by decide))).snoc (hx1.hid.keep (GrT.kept hg ht (by decide)))⟩, h.lens, h.cnt, h.hw⟩, ⟨?_, hx1.hid.keep (GrT.kept hg ht (by decide)), hx.hB, fun e => ?_⟩⟩
  · rcases hat g hgg with h2 | h2
    · exact ho g h2
    · exact hr.ls.off h2
  · exact (hg.block B (lt_of_heap hx1.blk) (fun e => hx.off e.symm)).trans hx1.blk
  · rcases hat B e with h2 | h2
    · exact hx.off h2
    · simp at h2; omega
/-- A box more, for the next token. -/
theorem Lp.box (h : Lp w0 w W lb xb mb kb ms X X1 st b acc sv) (o : Obj) : Lp w0 w (W.alloc o) lb xb mb kb ms X X1 st b acc sv ∧ w.heap.size ≤ W.heap.size ∧ sv.ownBlock ≠ some W.heap.size :=
  ⟨h.below ((Below.refl _ W).alloc (Nat.le_refl _) _), h.fr.size, fun e => by have := (h.row.lt e).2; omega⟩
/-- The next token is told: the rest, and the token's own box. -/
theorem Lp.nexted {cs : Array Value} {vs0 : List Value} {lv0 : Value} (h : Lp w0 w W lb xb mb kb ms X X1 st b acc sv) (hrs : Rs W w.heap.size lb lv0 vs0 st b) (hoff0 : ∀ g, sv.ownBlock = some g → Off g vs0) (hBx : W.heap[B]? = some (.cells cs 92 (0, 0))) (hB : w.heap.size ≤ B) (hsv : sv.ownBlock ≠ some B) (hoffB : Off B vs0)
    (hf : Fr false w0.heap.size w.heap.size W W') (hn : match Ep.next st b with | none => st = [] ∧ ∃ lv', Rs W' w.heap.size lb lv' vs0 [] b | some (y, st') => x = y ∧ ∃ lv' vs', Rs W' w.heap.size lb lv' vs' st' false ∧ Sub vs' vs0) (hp : HidP W' p x.hd)
    {a0 a1 a2 a3 a4 a5 a6 a7 : Value} (hcs : cs = #[a0, a1, a2, a3, a4, a5, a6, a7]) :
    ∃ st2 b2, Lp w0 w (set8 W' B (.int .i64 x.t.kind) (.string x.t.text) (.int .i64 x.t.file) (.int .i64 x.t.fr) (.int .i64 x.t.en) (.bool x.t.bl) (.pointer p) (.bool x.mark)) lb xb mb kb ms X X1 st2 b2 acc sv ∧
      Bx8 w (set8 W' B (.int .i64 x.t.kind) (.string x.t.text) (.int .i64 x.t.file) (.int .i64 x.t.fr) (.int .i64 x.t.en) (.bool x.t.bl) (.pointer p) (.bool x.mark)) B x p sv ∧ (∀ y st', Ep.next st b = some (y, st') → x = y ∧ st2 = st' ∧ b2 = false) := by
  subst hcs
  have hB2 := hf.ht _ _ _ hBx
  have ho := set8_only W' B (.int .i64 x.t.kind) (.string x.t.text) (.int .i64 x.t.file) (.int .i64 x.t.fr) (.int .i64 x.t.en) (.bool x.t.bl) (.pointer p) (.bool x.mark)
  have hblk := set8_at hB2 (.int .i64 x.t.kind) (.string x.t.text) (.int .i64 x.t.file) (.int .i64 x.t.fr) (.int .i64 x.t.en) (.bool x.t.bl) (.pointer p) (.bool x.mark)
  have hbl := set8_below (Below.refl w.heap.size W') hB (.int .i64 x.t.kind) (.string x.t.text) (.int .i64 x.t.file) (.int .i64 x.t.fr) (.int .i64 x.t.en) (.bool x.t.bl) (.pointer p) (.bool x.mark)
  have hfr2 : Fr true w0.heap.size w.heap.size w (set8 W' B (.int .i64 x.t.kind) (.string x.t.text) (.int .i64 x.t.file) (.int .i64 x.t.fr) (.int .i64 x.t.en) (.bool x.t.bl) (.pointer p) (.bool x.mark)) := (h.fr.trans hf.any).set8 hB _ _ _ _ _ _ _ _
  generalize set8 W' B (.int .i64 x.t.kind) (.string x.t.text) (.int .i64 x.t.file) (.int .i64 x.t.fr) (.int .i64 x.t.en) (.bool x.t.bl) (.pointer p) (.bool x.mark) = W2 at ho hblk hbl hfr2 ⊢
  have hxm2 : XM w0 W2 xb mb kb ms X1 := (h.xm.fr hf).stay (StayX.only1 ho hB2 (.inl rfl)) ((h.xm.fr hf).bl.trans (hbl.mono h.hw))
  have hrow2 : HRow W2 w.heap.size sv acc := (h.row.kept hf.ht hf.nm).only ho hB2 hsv
  have hbx : Bx8 w W2 B x p sv := ⟨hblk, hp.keep (ho.kept hB2 (by decide)), hB, hsv⟩
  cases hnx : Ep.next st b with
  | none =>
    rw [hnx] at hn
    obtain ⟨rfl, lv', hr'⟩ := hn
    exact ⟨[], b, ⟨hxm2, h.le, hfr2, ⟨lv', vs0, hr'.only ho hB2 hoffB, hoff0⟩, hrow2, (fun l hl => by cases hl), Nat.zero_le _, h.hw⟩, hbx, (fun y st' e => by cases e)⟩
  | some z =>
    obtain ⟨y, st'⟩ := z
    rw [hnx] at hn
    obtain ⟨hxy, lv', vs', hr', hsub⟩ := hn
    obtain ⟨l1, l2⟩ := Ep.next_len hnx 1000000 h.lens
    refine ⟨st', false, ⟨hxm2, h.le, hfr2, ⟨lv', vs', hr'.only ho hB2 (hsub.off hoffB), fun g hg => hsub.off (hoff0 g hg)⟩, hrow2, l2, by have := h.cnt; omega, h.hw⟩, hbx, fun y2 st2 e => ?_⟩
    simp only [Option.some.injEq, Prod.mk.injEq] at e
    exact ⟨hxy.trans e.1, e.2, rfl⟩
end
end Go.Proofs.YtlepnafgcmeimaaGreatDoor

/- What is proved: what run tells. -/
namespace Go.Proofs.YtlepnafgcmeimaaGreatDoor
open Go.RowKit Go.Shelf
open Ep (HT XS)
open Mx (M)

theorem Ep.advance {ms : List M} {f k : Nat} {X : XS} {st st2 : List (List HT)} {b b2 : Bool} {r : Except Int (XS × List HT)} {y : HT} (hrun : Ep.run ms f k X st b = some r) (h6 : ∀ y' st', Ep.next st b = some (y', st') → y = y' ∧ st2 = st' ∧ b2 = false) :
    (Value.bool (Ep.next st b).isSome = .bool false ∧ r = .ok (X, [])) ∨ ∃ f', Value.bool (Ep.next st b).isSome = .bool true ∧ f' < f ∧ b2 = false ∧ Ep.go ms f' k X y st2 = some r := by
  cases f with
  | zero => cases hrun
  | succ f =>
    rw [Ep.run_next] at hrun
    cases hn : Ep.next st b with
    | none =>
      rw [hn] at hrun
      injection hrun with hrun
      exact .inl ⟨rfl, hrun.symm⟩
    | some z =>
      obtain ⟨y', st'⟩ := z
      rw [hn] at hrun
      obtain ⟨e1, e2, e3⟩ := h6 y' st' hn
      subst e1 e2
      exact .inr ⟨f, rfl, Nat.lt_succ_self f, e3, hrun⟩
theorem Ep.macroOf_some {ms : List M} {X : XS} {x : HT} {j : Nat} (h : Ep.macroOf ms X x = some j) : ∃ m, ms[j]? = some m ∧ Ep.ixOf m.name ms 0 = some j := by
  unfold Ep.macroOf at h
  split at h
  · cases hi : Ep.ixOf x.t.text ms 0 with
    | none => rw [hi] at h; cases h
    | some i =>
      rw [hi] at h
      dsimp only at h
      have hij : i = j := by
        cases hq : Ep.planIx i X.pl 0 with
        | none => rw [hq] at h; injection h
        | some q =>
          rw [hq] at h
          dsimp only at h
          split at h
          · cases h
          · injection h
      subst hij
      obtain ⟨m, h1, h2⟩ := Ep.ixOf_some hi
      exact ⟨m, h1, by rw [h2]; exact hi⟩
  · cases h
theorem Ep.go_stays {ms : List M} {n k : Nat} {X : XS} {x : HT} {st : List (List HT)} {r : Except Int (XS × List HT)} (h : Ep.go ms n k X x st = some r) (hm : Ep.macroOf ms X x = none) (acc : List HT) :
    k < 4000 ∧ ∃ r2, Ep.run ms n (k + 1) X st false = some r2 ∧ Ep.joinR acc r = Ep.joinR (acc ++ [x]) r2 := by
  unfold Ep.go at h
  split at h
  · cases h
  · rw [hm] at h
    dsimp only at h
    split at h
    · rename_i hk
      exact ⟨hk, Ep.stays_some h acc⟩
    · cases h
theorem Ep.go_call {ms : List M} {n k j : Nat} {X : XS} {x : HT} {st : List (List HT)} {r : Except Int (XS × List HT)} {m : M} (h : Ep.go ms n k X x st = some r) (hm : Ep.macroOf ms X x = some j) (hj : ms[j]? = some m) (acc : List HT) :
    ((m.fn && !Ep.opens st) = true ∧ k < 4000 ∧ ∃ r2, Ep.run ms n (k + 1) X st false = some r2 ∧ Ep.joinR acc r = Ep.joinR (acc ++ [x]) r2) ∨
      ((m.fn && !Ep.opens st) = false ∧ ∃ rr, Ep.replace (fun X l => Ep.run ms n 0 X (Ep.put l false []).1 false) ms X j m x st = some rr ∧
        match rr with
        | .error e => r = .error e
        | .ok (X', l, st'') => Ep.run ms n k X' (Ep.put l x.t.bl st'').1 (Ep.put l x.t.bl st'').2 = some r) := by
  unfold Ep.go at h
  split at h
  · cases h
  · rw [hm] at h
    dsimp only at h
    rw [hj] at h
    dsimp only at h
    split at h
    · rename_i hc
      split at h
      · rename_i hk
        exact .inl ⟨hc, hk, Ep.stays_some h acc⟩
      · cases h
    · rename_i hc
      right
      refine ⟨by simpa using hc, ?_⟩
      cases hr : Ep.replace (fun X l => Ep.run ms n 0 X (Ep.put l false []).1 false) ms X j m x st with
      | none => rw [hr] at h; cases h
      | some rr =>
        rw [hr] at h
        refine ⟨rr, rfl, ?_⟩
        cases rr with
        | error e => injection h with h; exact h.symm
        | ok z => exact h
section
variable {w0 w W W' : World} {lb xb mb B : Nat} {kb : Nat → Nat} {ms : List M} {X X1 X2 : XS} {st st' : List (List HT)} {b b' : Bool} {acc l : List HT} {sv v : Value} {x : HT} {p : Option Addr}
theorem Lp.putted {vs : List Value} (h : Lp w0 w W lb xb mb kb ms X X1 st false acc sv) (hoff : ∀ g, sv.ownBlock = some g → Off g vs) (hpost : PutPost w0.heap.size w.heap.size lb (Ep.put l b' st) vs v W (.returned (.tuple #[])) W') (hv : ∀ g, sv.ownBlock = some g → v.ownBlock ≠ some g)
    (hl : l.length ≤ 1000000) (hcnt : st.length + 1 ≤ X1.steps + 1) : Lp w0 w W' lb xb mb kb ms X X1 (Ep.put l b' st).1 (Ep.put l b' st).2 acc sv ∧ (∀ {B x p}, Bx8 w W B x p sv → Bx8 w W' B x p sv) := by
  obtain ⟨-, ⟨lv', vs', hr, hvs⟩, hf⟩ := hpost
  obtain ⟨l1, l2⟩ := Ep.put_len l b' st
  refine ⟨⟨h.xm.fr hf, h.le, h.fr.trans hf.any, ⟨lv', vs', hr, fun g hg => hvs g (hoff g hg) (hv g hg)⟩, h.row.kept hf.ht hf.nm, fun y hy => ?_, by omega, h.hw⟩, fun hb => hb.fr hf⟩
  rcases l2 y hy with rfl | hy
  · exact hl
  · exact h.lens y hy
/-- The first token, in its box. -/
theorem Lp.first {vs0 : List Value} (h : Lp w0 w W lb xb mb kb ms X X1 st b acc sv) (hoff0 : ∀ g, sv.ownBlock = some g → Off g vs0)
    (hf : Fr false w0.heap.size w.heap.size W W') (hn : match Ep.next st b with | none => st = [] ∧ ∃ lv', Rs W' w.heap.size lb lv' vs0 [] b | some (y, st') => x = y ∧ ∃ lv' vs', Rs W' w.heap.size lb lv' vs' st' false ∧ Sub vs' vs0) (hp : HidP W' p x.hd) :
    ∃ st2 b2, Lp w0 w (W'.alloc (.cells #[.int .i64 x.t.kind, .string x.t.text, .int .i64 x.t.file, .int .i64 x.t.fr, .int .i64 x.t.en, .bool x.t.bl, .pointer p, .bool x.mark] 92)) lb xb mb kb ms X X1 st2 b2 acc sv ∧
      Bx8 w (W'.alloc (.cells #[.int .i64 x.t.kind, .string x.t.text, .int .i64 x.t.file, .int .i64 x.t.fr, .int .i64 x.t.en, .bool x.t.bl, .pointer p, .bool x.mark] 92)) W'.heap.size x p sv ∧ (∀ y st', Ep.next st b = some (y, st') → x = y ∧ st2 = st' ∧ b2 = false) := by
  have hal : Below W'.heap.size W' (W'.alloc (.cells #[.int .i64 x.t.kind, .string x.t.text, .int .i64 x.t.file, .int .i64 x.t.fr, .int .i64 x.t.en, .bool x.t.bl, .pointer p, .bool x.mark] 92)) := (Below.refl _ W').alloc (Nat.le_refl _) _
  have hblk := heap_alloc_new W' (.cells #[.int .i64 x.t.kind, .string x.t.text, .int .i64 x.t.file, .int .i64 x.t.fr, .int .i64 x.t.en, .bool x.t.bl, .pointer p, .bool x.mark] 92)
  have hrow2 := h.row.kept hf.ht hf.nm
  have hbx : Bx8 w (W'.alloc (.cells #[.int .i64 x.t.kind, .string x.t.text, .int .i64 x.t.file, .int .i64 x.t.fr, .int .i64 x.t.en, .bool x.t.bl, .pointer p, .bool x.mark] 92)) W'.heap.size x p sv :=
    ⟨hblk, hp.keep (Kept.of_below hal _), (h.fr.trans hf.any).size, fun e => by have := (hrow2.lt e).2; omega⟩
  have hfr := h.fr.trans hf.any
  cases hnx : Ep.next st b with
  | none =>
    rw [hnx] at hn
    obtain ⟨rfl, lv', hr'⟩ := hn
    have hL : Lp w0 w W' lb xb mb kb ms X X1 [] b acc sv := ⟨h.xm.fr hf, h.le, hfr, ⟨lv', vs0, hr', hoff0⟩, hrow2, (fun l hl => by cases hl), Nat.zero_le _, h.hw⟩
    exact ⟨[], b, hL.below hal, hbx, (fun y st' e => by cases e)⟩
  | some z =>
    obtain ⟨y, st'⟩ := z
    rw [hnx] at hn
    obtain ⟨hxy, lv', vs', hr', hsub⟩ := hn
    obtain ⟨l1, l2⟩ := Ep.next_len hnx 1000000 h.lens
    have hL : Lp w0 w W' lb xb mb kb ms X X1 st' false acc sv := ⟨h.xm.fr hf, h.le, hfr, ⟨lv', vs', hr', fun g hg => hsub.off (hoff0 g hg)⟩, hrow2, l2, by have := h.cnt; omega, h.hw⟩
    refine ⟨st', false, hL.below hal, hbx, fun y2 st2 e => ?_⟩
    simp only [Option.some.injEq, Prod.mk.injEq] at e
    exact ⟨hxy.trans e.1, e.2, rfl⟩
end
noncomputable def runBody : Code := Tryz.f21.body.getD .skip
set_option maxRecDepth 100000 in
set_option maxHeartbeats 4000000 in
theorem run_end (w0 w W : World) (lb xb mb : Nat) (kb : Nat → Nat) (ms : List M) (X X1 : XS) (st : List (List HT)) (b : Bool) (acc : List HT) (sv : Value) c0 c1 c2 c3 c4 c5 c7 c8 c9 c10 c11 c12 c13 c14 c15 c16 c17 c18 c19 c20 c21 c22 c23 c24 c25 c26 c27 c28 c29 c30 c31 c32 c33 c34 c35 c36 c37 c38 c39 c40 c41 c42 c43 c44 c45 c46 c47 c48 c49 c50 c51 c52 c53 c54 c55 c56 c57 c58 c59 c60 c61 c62 c63 c64 c65 c66 (h : Lp w0 w W lb xb mb kb ms X X1 st b acc sv) (ha : acc.length ≤ 4000) (r : Except Int (XS × List HT)) (hr : r = Ep.joinR acc (.ok (X1, []))) :
    Code.wp Tryz.prog (secs 5 runBody) (bodyPost Tryz.prog Tryz.f21 (RunPost w0 w xb mb kb ms X r)) ⟨#[c0, c1, c2, c3, c4, c5, sv, c7, c8, c9, c10, c11, c12, c13, c14, c15, c16, c17, c18, c19, c20, c21, c22, c23, c24, c25, c26, c27, c28, c29, c30, c31, c32, c33, c34, c35, c36, c37, c38, c39, c40, c41, c42, c43, c44, c45, c46, c47, c48, c49, c50, c51, c52, c53, c54, c55, c56, c57, c58, c59, c60, c61, c62, c63, c64, c65, c66], []⟩ W := by
  obtain ⟨ad, cap, rfl, -, -⟩ := h.row.hs.form
  have hfin : RunPost w0 w xb mb kb ms X r (.returned (.tuple #[.slice ad acc.length cap, .int .i64 0])) W := by
    rw [hr]
    show RunPost w0 w xb mb kb ms X (.ok (X1, acc ++ [])) _ W
    rw [List.append_nil]
    exact ⟨h.fr, ⟨_, rfl, h.row.hs⟩, ha, h.xm, h.le⟩
  have HF := Lib.hid hfin
  clear hfin h hr
  have z : ¬ (4000 : Int) < acc.length := by omega
  have z2 : ¬ 4000 < acc.length := by omega
  refine wp_sec 5 runBody rfl ?_
  conv => arg 2; whnf
  go_wp2_with fail
  refine wp_sec 6 runBody rfl ?_
  conv => arg 2; whnf
  go_wp2_with fail
  conv => arg 2; whnf
  go_wp2_with fail
  go_ret2
  exact HF.out

set_option maxRecDepth 100000 in
set_option maxHeartbeats 16000000 in
theorem erun_step (w0 : World) (xb mb : Nat) (kb : Nat → Nat) (ms : List M) (hG : Glob w0) (hms : ∀ m ∈ ms, MOk m) (n : Nat) (ih : ∀ k, k < n → RunAny w0 xb mb kb ms (fun X l => Ep.run ms k 0 X (Ep.put l false []).1 false)) :
    RunAny w0 xb mb kb ms (fun X l => Ep.run ms n 0 X (Ep.put l false []).1 false) := by
  intro X l v w r hX hv hl hr
  obtain ⟨i0, hi, hz0, hz1, hz2⟩ := info_parts infoHt
  have hw := hX.bl.size
  dsimp only at hr
  have hpb : (Ep.put l false []).2 = false := by unfold Ep.put; split <;> rfl
  have hal : Below w.heap.size w (w.alloc (.cells #[.slice none 0 0, .bool false] 88)) := (Below.refl _ w).alloc (Nat.le_refl _) _
  have hrb := heap_alloc_new w (.cells #[.slice none 0 0, .bool false] 88)
  have hrs : Rs (w.alloc (.cells #[.slice none 0 0, .bool false] 88)) w.heap.size w.heap.size (.slice none 0 0) [] [] false := ⟨hrb, Nat.le_refl _, World.ownsRow_nil _ _ _ _, rfl⟩
  have hL0 : Lp w0 w (w.alloc (.cells #[.slice none 0 0, .bool false] 88)) w.heap.size xb mb kb ms X X [] false [] (.slice none 0 0) :=
    ⟨hX.below hal, Ep.Le.refl _, Fr.of_below hal, ⟨_, _, hrs, fun B hB => by cases hB⟩, HRow.nil _ _, (fun l hl => by cases hl), Nat.zero_le _, hw⟩
  have KP := Lib.hid (eput2_any w0.heap.size w.heap.size w.heap.size _ _ _ v l false _ hrs (hv.below hal) hw (by simp))
  have HL0 := Lib.hid hL0
  have HR := Lib.hid hr
  have IH := Lib.hid ih
  have HMS := Lib.hid hms
  have HP := Lib.hid hpb
  clear hX hv hr ih hms hal hrb hrs hL0 hpb
  obtain ⟨lb, hlb⟩ : ∃ lb, lb = w.heap.size := ⟨_, rfl⟩
  have HLB := Lib.hid hlb
  go_enter Tryz.func21, Tryz.ntmps21
  show Code.wp Tryz.prog (secs 0 runBody) _ _ _
  refine wp_sec 0 runBody rfl ?_
  conv => arg 2; whnf
  go_wp2_with fail
  refine wp_sec 1 runBody rfl ?_
  conv => arg 2; whnf
  go_wp2_with fail
  refine wp_sec 2 runBody rfl ?_
  conv => arg 2; whnf
  go_wp2_with fail
  generalize (w.alloc (.cells #[.slice none 0 0, .bool false] 88)) = W1 at KP HL0 ⊢
  refine wp_sec 3 runBody rfl ?_
  conv => arg 2; whnf
  go_wp2_with fail
  refine KP.out.mono ?_
  rintro e2 W2 hpp
  obtain rfl := hpp.1
  have hL2 := (HL0.out.putted (fun B hB => by cases hB) hpp (fun B hB => by cases hB) hl (by simp)).1
  rw [HP.out] at hL2
  obtain ⟨lv2, vs2, hr2, hoff2⟩ := id hL2.rs
  have KN := Lib.hid (enext_any w0.heap.size w.heap.size w.heap.size lv2 vs2 _ false W2 hr2 hw hL2.lens (by have := hL2.cnt; have := hL2.xm.st; omega))
  have HL2 := Lib.hid hL2
  have HO2 := Lib.hid hoff2
  clear hpp hL2 hr2 hoff2
  go_wp2_with fail
  refine wp_sec 4 runBody rfl ?_
  conv => arg 2; whnf
  go_wp2_with fail
  refine KN.out.mono ?_
  rintro e3 W3 ⟨x, p, rfl, hp3, hf3, hn3⟩
  obtain ⟨st3, b3, hL3, hB3, h3⟩ := HL2.out.first HO2.out hf3 hn3 hp3
  have hadv := Ep.advance HR.out h3
  have HL3 := Lib.hid hL3
  have HB3 := Lib.hid hB3
  have HADV := Lib.hid hadv
  clear hp3 hf3 hn3 hL3 hB3 h3 hadv
  generalize hok : (Ep.next (Ep.put l false []).1 false).isSome = okb at HADV ⊢
  clear hok
  obtain ⟨⟨kd, tx, fl, fr, en, bl⟩, hd, mk⟩ := x
  dsimp only [htAgg] at HL3 HB3 ⊢
  go_wp2_with fail
  go_loopg [6, 8, 9] n (fun g sv tb ok wr => ∃ (X1 : XS) (st : List (List HT)) (b : Bool) (acc : List HT) (B : Nat) (x : HT) (p : Option Addr) (r' : Except Int (XS × List HT)), tb = .pointer (some ⟨B, 0, none⟩) ∧ Lp w0 w wr w.heap.size xb mb kb ms X X1 st b acc sv ∧ Bx8 w wr B x p sv ∧ acc.length ≤ 4000 ∧ r = Ep.joinR acc r' ∧
    ((ok = .bool false ∧ r' = .ok (X1, [])) ∨ ∃ f, ok = .bool true ∧ f < g ∧ g ≤ n ∧ b = false ∧ Ep.go ms f acc.length X1 x st = some r'))
  case atStart =>
    refine ⟨X, st3, b3, [], _, _, p, r, rfl, HL3.out, HB3.out, Nat.zero_le _, by cases r with | error e => rfl | ok y => rfl, ?_⟩
    rcases HADV.out with h | ⟨f', h1, h2, h3, h4⟩
    · exact .inl h
    · exact .inr ⟨f', h1, h2, Nat.le_refl _, h3, h4⟩
  case round =>
    obtain ⟨X1, st, b, acc, B, x, p, r', rfl, hL, hB, hacc, hjoin, hok⟩ := hrel
    rcases hok with ⟨rfl, hr'⟩ | ⟨f, rfl, hfg, hgn, rfl, hgo⟩
    · subst hr'
      have HL := Lib.hid hL
      have HJ := Lib.hid hjoin
      clear hL hB hjoin
      go_wp2_with fail
      exact run_end w0 w wr w.heap.size xb mb kb ms X X1 st b acc _ _ _ _ _ _ _ _ _ _ _ _ _ _ _ _ _ _ _ _ _ _ _ _ _ _ _ _ _ _ _ _ _ _ _ _ _ _ _ _ _ _ _ _ _ _ _ _ _ _ _ _ _ _ _ _ _ _ _ _ _ _ _ _ _ _ _ HL.out hacc r HJ.out
    · have KM := Lib.hid (emacroOf_any w0 xb mb kb ms X1 x p wr hL.xm hB.hid)
      obtain ⟨b0, b1, b2, b3, b4, b5, b6, b7, -⟩ := box8_cells hB.blk
      have HL := Lib.hid hL
      have HB := Lib.hid hB
      have HJ := Lib.hid hjoin
      have HGO := Lib.hid hgo
      clear hL hB hjoin hgo
      go_wp2_with fail
      refine KM.out.mono ?_
      rintro e5 W5 ⟨rfl, hb5⟩
      have HL5 := Lib.hid (HL.out.below hb5)
      have HB5 := Lib.hid (HB.out.below hb5)
      clear hb5 b0 b1 b2 b3 b4 b5 b6 b7
      cases hmo : Ep.macroOf ms X1 x with
      | none =>
        rw [Option.map_none]
        obtain ⟨hk4, r2, hr2, hj2⟩ := Ep.go_stays HGO.out hmo acc
        have HS := Lib.hid (And.intro hr2 hj2)
        clear hmo hr2 hj2
        obtain ⟨cs, hrow, hcs⟩ := id HL5.out.row
        have hvb := HL5.out.fr.size
        obtain ⟨ad, cap, hsv, -, -⟩ := HL5.out.row.hs.form
        obtain ⟨b0, b1, b2, b3, b4, b5, b6, b7, -⟩ := box8_cells HB5.out.blk
        have HCS := Lib.hid (And.intro hrow hcs)
        have hal : Below W5.heap.size W5 (W5.alloc (.cells #[.int .i64 x.t.kind, .string x.t.text, .int .i64 x.t.file, .int .i64 x.t.fr, .int .i64 x.t.en, .bool x.t.bl, .pointer p, .bool x.mark] 92)) := (Below.refl _ W5).alloc (Nat.le_refl _) _
        have zz : (acc.length : Int) ≤ 4000 := by omega
        subst hsv
        go_wp2_with (at_builtin; refine wpList_append_lies _ rfl _ _ 54 rfl w.heap.size 92 i0 _ 8 72 Tryz.underlying54 hi hz0 hz1 hz2 rfl (by decide) _ acc.length cs rfl (hrow.alloc _) ⟨W5.heap.size, 0, none⟩ 1 1 (htCells x p) rfl rfl (World.news_of_block (cs := #[.int .i64 x.t.kind, .string x.t.text, .int .i64 x.t.file, .int .i64 x.t.fr, .int .i64 x.t.en, .bool x.t.bl, .pointer p, .bool x.mark]) (t := 92) (fr := (0, 0)) (heap_alloc_new W5 _)) (by simp [Value.oneCell', htCells, kCells]) (by decide) (by unfold maxLen; omega) (by omega) (by simp; omega) _ rfl ?_; intro gg cap' V hown hgrow hat hlt2; have hap := HL5.out.append HB5.out HCS.out.1 HCS.out.2 hown hgrow (fun g hg => by rcases hat with h | h; exact .inl (by injection hg with hg; rw [← hg]; exact h); exact .inr (by injection hg with hg; rw [← hg, h]; exact Nat.le_refl _)); have HLV := Lib.hid hap.1; have HBV := Lib.hid hap.2; obtain ⟨b0, b1, b2, b3, b4, b5, b6, b7, -⟩ := box8_cells HBV.out.blk)
        have HRV := HS
        clear hal
        obtain ⟨lvA, vsA, hrA, hoffA⟩ := id HLV.out.rs
        have hBoff := hrA.ls.off (Nat.le_refl _)
        obtain ⟨hLB, hBge, hBsv⟩ := HLV.out.box (.cells #[.int .i64 x.t.kind, .string x.t.text, .int .i64 x.t.file, .int .i64 x.t.fr, .int .i64 x.t.en, .bool x.t.bl, .pointer p, .bool x.mark] 92)
        have hrB := hrA.below ((Below.refl _ V).alloc (Nat.le_refl _) (.cells #[.int .i64 x.t.kind, .string x.t.text, .int .i64 x.t.file, .int .i64 x.t.fr, .int .i64 x.t.en, .bool x.t.bl, .pointer p, .bool x.mark] 92))
        have hblkB := heap_alloc_new V (.cells #[.int .i64 x.t.kind, .string x.t.text, .int .i64 x.t.file, .int .i64 x.t.fr, .int .i64 x.t.en, .bool x.t.bl, .pointer p, .bool x.mark] 92)
        have KNA := Lib.hid (enext_any w0.heap.size w.heap.size w.heap.size lvA vsA st false _ hrB hw hLB.lens (by have := hLB.cnt; have := hLB.xm.st; omega))
        obtain ⟨b0, b1, b2, b3, b4, b5, b6, b7, -⟩ := box8_cells HBV.out.blk
        have HLB := Lib.hid hLB
        have HRB := Lib.hid (And.intro hrB hoffA)
        have HBB := Lib.hid (And.intro hblkB (And.intro hBge (And.intro hBsv hBoff)))
        clear hrA hoffA hBoff hLB hBge hBsv hrB hblkB
        go_wp2_with fail
        refine KNA.out.mono ?_
        rintro e9 W9 ⟨y, q, rfl, hq9, hf9, hn9⟩
        have hblk9 := hf9.ht _ _ _ HBB.out.1
        obtain ⟨st9, bb9, hL9, hB9, h9⟩ := Lp.nexted HLB.out HRB.out.1 HRB.out.2 HBB.out.1 HBB.out.2.1 HBB.out.2.2.1 HBB.out.2.2.2 hf9 hn9 hq9 rfl
        have hadv := Ep.advance HRV.out.1 h9
        have HL9 := Lib.hid hL9
        have HB9 := Lib.hid hB9
        have HADV9 := Lib.hid hadv
        obtain ⟨v0, v1, v2, v3, v4, v5, v6, v7, vf⟩ := box8_cells hblk9
        clear hq9 hf9 hn9 hblk9 hL9 hB9 h9 hadv b0 b1 b2 b3 b4 b5 b6 b7
        generalize (Ep.next st false).isSome = okb at HADV9 ⊢
        obtain ⟨⟨kd9, tx9, fl9, fr9, en9, bl9⟩, hd9, mk9⟩ := y
        dsimp only [htAgg] at HL9 HB9 ⊢
        unfold set8 at HL9 HB9
        go_wp2_with fail
        go_roundg f
        case measure => omega
        case rel =>
          refine ⟨X1, st9, bb9, acc ++ [x], _, _, q, r2, rfl, HL9.out, HB9.out, by simp; omega, HJ.out.trans HRV.out.2, ?_⟩
          rcases HADV9.out with h | ⟨f', h1, h2, h3, h4⟩
          · exact .inl h
          · exact .inr ⟨f', h1, h2, by omega, h3, by rw [List.length_append]; exact h4⟩
      | some j =>
        rw [Option.map_some]
        obtain ⟨m, hj, hj'⟩ := Ep.macroOf_some hmo
        have hmok := HMS.out m (List.mem_of_getElem? hj)
        obtain ⟨pv, bv, pp, hkb, -⟩ := HL5.out.xm.kn j m hj hj'
        obtain ⟨-, k1, -⟩ := box6_cells hkb
        have hcall := Ep.go_call HGO.out hmo hj acc
        have HJJ := Lib.hid (And.intro hj hj')
        obtain ⟨lv5, vs5, hr5, hoff5⟩ := HL5.out.rs
        have KO := Lib.hid (eopens_any w.heap.size w.heap.size lv5 vs5 st false W5 hr5 (by have := HL5.out.cnt; have := HL5.out.xm.st; omega))
        clear hmo hj hj' hkb hr5 hoff5
        rcases hcall with ⟨hc, hk4, r2, hr2, hj2⟩ | ⟨hc, rr, hrr, hcont⟩
        · obtain ⟨hf1, hop⟩ : m.fn = true ∧ Ep.opens st = false := by simpa using hc
          rw [hf1] at k1
          rw [hop] at KO
          have HS := Lib.hid (And.intro hr2 hj2)
          clear hr2 hj2 hc
          go_wp2_with fail
          refine KO.out.mono ?_
          rintro e6 W6 ⟨rfl, hb6⟩
          have HL6 := Lib.hid (HL5.out.below hb6)
          have HB6 := Lib.hid (HB5.out.below hb6)
          clear hb6 k1
          obtain ⟨cs, hrow, hcs⟩ := id HL6.out.row
          have hvb := HL6.out.fr.size
          obtain ⟨ad, cap, hsv, -, -⟩ := HL6.out.row.hs.form
          obtain ⟨b0, b1, b2, b3, b4, b5, b6, b7, -⟩ := box8_cells HB6.out.blk
          have HCS := Lib.hid (And.intro hrow hcs)
          have hal : Below W6.heap.size W6 (W6.alloc (.cells #[.int .i64 x.t.kind, .string x.t.text, .int .i64 x.t.file, .int .i64 x.t.fr, .int .i64 x.t.en, .bool x.t.bl, .pointer p, .bool x.mark] 92)) := (Below.refl _ W6).alloc (Nat.le_refl _) _
          have zz : (acc.length : Int) ≤ 4000 := by omega
          subst hsv
          go_wp2_with (at_builtin; refine wpList_append_lies _ rfl _ _ 54 rfl w.heap.size 92 i0 _ 8 72 Tryz.underlying54 hi hz0 hz1 hz2 rfl (by decide) _ acc.length cs rfl (hrow.alloc _) ⟨W6.heap.size, 0, none⟩ 1 1 (htCells x p) rfl rfl (World.news_of_block (cs := #[.int .i64 x.t.kind, .string x.t.text, .int .i64 x.t.file, .int .i64 x.t.fr, .int .i64 x.t.en, .bool x.t.bl, .pointer p, .bool x.mark]) (t := 92) (fr := (0, 0)) (heap_alloc_new W6 _)) (by simp [Value.oneCell', htCells, kCells]) (by decide) (by unfold maxLen; omega) (by omega) (by simp; omega) _ rfl ?_; intro gg cap' V hown hgrow hat hlt2; have hap := HL6.out.append HB6.out HCS.out.1 HCS.out.2 hown hgrow (fun g hg => by rcases hat with h | h; exact .inl (by injection hg with hg; rw [← hg]; exact h); exact .inr (by injection hg with hg; rw [← hg, h]; exact Nat.le_refl _)); have HLV := Lib.hid hap.1; have HBV := Lib.hid hap.2; obtain ⟨b0, b1, b2, b3, b4, b5, b6, b7, -⟩ := box8_cells HBV.out.blk)
          have HRV := HS
          clear hal
          obtain ⟨lvA, vsA, hrA, hoffA⟩ := id HLV.out.rs
          have hBoff := hrA.ls.off (Nat.le_refl _)
          obtain ⟨hLB, hBge, hBsv⟩ := HLV.out.box (.cells #[.int .i64 x.t.kind, .string x.t.text, .int .i64 x.t.file, .int .i64 x.t.fr, .int .i64 x.t.en, .bool x.t.bl, .pointer p, .bool x.mark] 92)
          have hrB := hrA.below ((Below.refl _ V).alloc (Nat.le_refl _) (.cells #[.int .i64 x.t.kind, .string x.t.text, .int .i64 x.t.file, .int .i64 x.t.fr, .int .i64 x.t.en, .bool x.t.bl, .pointer p, .bool x.mark] 92))
          have hblkB := heap_alloc_new V (.cells #[.int .i64 x.t.kind, .string x.t.text, .int .i64 x.t.file, .int .i64 x.t.fr, .int .i64 x.t.en, .bool x.t.bl, .pointer p, .bool x.mark] 92)
          have KNA := Lib.hid (enext_any w0.heap.size w.heap.size w.heap.size lvA vsA st false _ hrB hw hLB.lens (by have := hLB.cnt; have := hLB.xm.st; omega))
          obtain ⟨b0, b1, b2, b3, b4, b5, b6, b7, -⟩ := box8_cells HBV.out.blk
          have HLB := Lib.hid hLB
          have HRB := Lib.hid (And.intro hrB hoffA)
          have HBB := Lib.hid (And.intro hblkB (And.intro hBge (And.intro hBsv hBoff)))
          clear hrA hoffA hBoff hLB hBge hBsv hrB hblkB
          go_wp2_with fail
          refine KNA.out.mono ?_
          rintro e9 W9 ⟨y, q, rfl, hq9, hf9, hn9⟩
          have hblk9 := hf9.ht _ _ _ HBB.out.1
          obtain ⟨st9, bb9, hL9, hB9, h9⟩ := Lp.nexted HLB.out HRB.out.1 HRB.out.2 HBB.out.1 HBB.out.2.1 HBB.out.2.2.1 HBB.out.2.2.2 hf9 hn9 hq9 rfl
          have hadv := Ep.advance HRV.out.1 h9
          have HL9 := Lib.hid hL9
          have HB9 := Lib.hid hB9
          have HADV9 := Lib.hid hadv
          obtain ⟨v0, v1, v2, v3, v4, v5, v6, v7, vf⟩ := box8_cells hblk9
          clear hq9 hf9 hn9 hblk9 hL9 hB9 h9 hadv b0 b1 b2 b3 b4 b5 b6 b7
          generalize (Ep.next st false).isSome = okb at HADV9 ⊢
          obtain ⟨⟨kd9, tx9, fl9, fr9, en9, bl9⟩, hd9, mk9⟩ := y
          dsimp only [htAgg] at HL9 HB9 ⊢
          unfold set8 at HL9 HB9
          go_wp2_with fail
          go_roundg f
          case measure => omega
          case rel =>
            refine ⟨X1, st9, bb9, acc ++ [x], _, _, q, r2, rfl, HL9.out, HB9.out, by simp; omega, HJ.out.trans HRV.out.2, ?_⟩
            rcases HADV9.out with h | ⟨f', h1, h2, h3, h4⟩
            · exact .inl h
            · exact .inr ⟨f', h1, h2, by omega, h3, by rw [List.length_append]; exact h4⟩
        · have HRR := Lib.hid hrr
          have HCO := Lib.hid hcont
          have hc2 : m.fn = false ∨ (m.fn = true ∧ Ep.opens st = true) := by
            cases hf1 : m.fn with
            | false => exact .inl rfl
            | true => rw [hf1] at hc; exact .inr ⟨rfl, by simpa using hc⟩
          clear hrr hcont hc
          rcases hc2 with hf1 | ⟨hf1, hop⟩
          · rw [hf1] at k1
            obtain ⟨b0, b1, b2, b3, b4, b5, b6, b7, -⟩ := box8_cells HB5.out.blk
            obtain ⟨lvR, vsR, hrR, hoffR⟩ := HL5.out.rs
            have KRR := Lib.hid (ereplace_any w0 w.heap.size w.heap.size xb mb kb ms _ (IH.out f (by omega)) X1 st lvR vsR x p j m W5 HL5.out.xm hrR HB5.out.hid hw hG hmok HJJ.out.1 HJJ.out.2 rr HRR.out)
            have HOR := Lib.hid hoffR
            clear hrR hoffR
            go_wp2_with fail
            refine KRR.out.mono ?_
            rintro e7 W7 ⟨hf7, hr7⟩
            have hfr7 := HL5.out.fr.trans hf7
            have HB7 := Lib.hid (HB5.out.fr hf7)
            have HROW7 := Lib.hid (HL5.out.row.kept hf7.ht hf7.nm)
            have HFR7 := Lib.hid hfr7
            clear hf7 hfr7 b0 b1 b2 b3 b4 b5 b6 b7
            cases rr with
            | error ek =>
              obtain ⟨rfl, hk0⟩ := hr7
              have hfin : RunPost w0 w xb mb kb ms X r (.returned (.tuple #[.slice none 0 0, .int .i64 ek])) W7 := by
                have he := HCO.out
                dsimp only at he
                rw [HJ.out, he]
                exact ⟨HFR7.out, rfl, hk0⟩
              have HF := Lib.hid hfin
              have q0 : ¬ (ek = 0) := hk0
              clear hfin
              go_wp2_with fail
              go_ret2
              exact HF.out
            | ok z =>
              obtain ⟨X2, l2, st2⟩ := z
              obtain ⟨⟨v7, rfl, hv7, hvb⟩, hl2, hx7, hle7, hst7, lv7, vs7, hr8, hsub7⟩ := hr7
              obtain ⟨d1, d2⟩ := Ep.replace_len HRR.out 1000000 HL5.out.lens
              have hL7 : Lp w0 w W7 w.heap.size xb mb kb ms X X2 st2 false acc _ := ⟨hx7, HL5.out.le.trans hle7, HFR7.out, ⟨lv7, vs7, hr8, fun g hg => hsub7.off (HOR.out g hg)⟩, HROW7.out, d2, by have := HL5.out.cnt; omega, hw⟩
              have KPP := Lib.hid (eput2_any w0.heap.size w.heap.size w.heap.size lv7 vs7 st2 v7 l2 x.t.bl W7 hr8 hv7 hw (by have := hL7.cnt; have := hL7.xm.st; omega))
              have HPP := Lib.hid (fun (W8 : World) (hp : PutPost w0.heap.size w.heap.size w.heap.size (Ep.put l2 x.t.bl st2) vs7 v7 W7 (.returned (.tuple #[])) W8) => hL7.putted (fun g hg => hsub7.off (HOR.out g hg)) hp (fun g hg e => by have h1 := hvb g e; have h2 := (HL5.out.row.lt hg).2; omega) (by omega) (by have := HL5.out.cnt; omega))
              obtain ⟨b0, b1, b2, b3, b4, b5, b6, b7, -⟩ := box8_cells HB7.out.blk
              obtain ⟨ad7, cap7, rfl, -, -⟩ := hv7.form
              clear hv7 hvb hx7 hle7 hr8 hsub7 d1 d2 hL7
              go_wp2_with fail
              refine KPP.out.mono ?_
              rintro e8 V hpp8
              obtain rfl := hpp8.1
              have h8 := HPP.out V hpp8
              have HLV := Lib.hid h8.1
              have HBV := Lib.hid (h8.2 HB7.out)
              have HRV := Lib.hid (And.intro HCO.out HJ.out)
              obtain ⟨r2, hr2e⟩ : ∃ r2, r2 = r' := ⟨_, rfl⟩
              rw [← hr2e] at HRV
              clear hpp8 h8 b0 b1 b2 b3 b4 b5 b6 b7 hr2e
              obtain ⟨lvA, vsA, hrA, hoffA⟩ := id HLV.out.rs
              have hBoff := hrA.ls.off (Nat.le_refl _)
              obtain ⟨hLB, hBge, hBsv⟩ := HLV.out.box (.cells #[.int .i64 x.t.kind, .string x.t.text, .int .i64 x.t.file, .int .i64 x.t.fr, .int .i64 x.t.en, .bool x.t.bl, .pointer p, .bool x.mark] 92)
              have hrB := hrA.below ((Below.refl _ V).alloc (Nat.le_refl _) (.cells #[.int .i64 x.t.kind, .string x.t.text, .int .i64 x.t.file, .int .i64 x.t.fr, .int .i64 x.t.en, .bool x.t.bl, .pointer p, .bool x.mark] 92))
              have hblkB := heap_alloc_new V (.cells #[.int .i64 x.t.kind, .string x.t.text, .int .i64 x.t.file, .int .i64 x.t.fr, .int .i64 x.t.en, .bool x.t.bl, .pointer p, .bool x.mark] 92)
              have KNA := Lib.hid (enext_any w0.heap.size w.heap.size w.heap.size lvA vsA (Ep.put l2 x.t.bl st2).1 (Ep.put l2 x.t.bl st2).2 _ hrB hw hLB.lens (by have := hLB.cnt; have := hLB.xm.st; omega))
              obtain ⟨b0, b1, b2, b3, b4, b5, b6, b7, -⟩ := box8_cells HBV.out.blk
              have HLB := Lib.hid hLB
              have HRB := Lib.hid (And.intro hrB hoffA)
              have HBB := Lib.hid (And.intro hblkB (And.intro hBge (And.intro hBsv hBoff)))
              clear hrA hoffA hBoff hLB hBge hBsv hrB hblkB
              go_wp2_with fail
              refine KNA.out.mono ?_
              rintro e9 W9 ⟨y, q, rfl, hq9, hf9, hn9⟩
              have hblk9 := hf9.ht _ _ _ HBB.out.1
              obtain ⟨st9, bb9, hL9, hB9, h9⟩ := Lp.nexted HLB.out HRB.out.1 HRB.out.2 HBB.out.1 HBB.out.2.1 HBB.out.2.2.1 HBB.out.2.2.2 hf9 hn9 hq9 rfl
              have hadv := Ep.advance HRV.out.1 h9
              have HL9 := Lib.hid hL9
              have HB9 := Lib.hid hB9
              have HADV9 := Lib.hid hadv
              obtain ⟨v0, v1, v2, v3, v4, v5, v6, v7, vf⟩ := box8_cells hblk9
              clear hq9 hf9 hn9 hblk9 hL9 hB9 h9 hadv b0 b1 b2 b3 b4 b5 b6 b7
              generalize (Ep.next (Ep.put l2 x.t.bl st2).1 (Ep.put l2 x.t.bl st2).2).isSome = okb at HADV9 ⊢
              obtain ⟨⟨kd9, tx9, fl9, fr9, en9, bl9⟩, hd9, mk9⟩ := y
              dsimp only [htAgg] at HL9 HB9 ⊢
              unfold set8 at HL9 HB9
              go_wp2_with fail
              go_roundg f
              case measure => omega
              case rel =>
                refine ⟨X2, st9, bb9, acc, _, _, q, r2, rfl, HL9.out, HB9.out, hacc, HRV.out.2, ?_⟩
                rcases HADV9.out with h | ⟨f', h1, h2, h3, h4⟩
                · exact .inl h
                · exact .inr ⟨f', h1, h2, by omega, h3, h4⟩
          · rw [hf1] at k1
            rw [hop] at KO
            go_wp2_with fail
            refine KO.out.mono ?_
            rintro e6 W6 ⟨rfl, hb6⟩
            have HL6 := Lib.hid (HL5.out.below hb6)
            have HB6 := Lib.hid (HB5.out.below hb6)
            clear hb6 k1
            obtain ⟨b0, b1, b2, b3, b4, b5, b6, b7, -⟩ := box8_cells HB6.out.blk
            obtain ⟨lvR, vsR, hrR, hoffR⟩ := HL6.out.rs
            have KRR := Lib.hid (ereplace_any w0 w.heap.size w.heap.size xb mb kb ms _ (IH.out f (by omega)) X1 st lvR vsR x p j m W6 HL6.out.xm hrR HB6.out.hid hw hG hmok HJJ.out.1 HJJ.out.2 rr HRR.out)
            have HOR := Lib.hid hoffR
            clear hrR hoffR
            go_wp2_with fail
            refine KRR.out.mono ?_
            rintro e7 W7 ⟨hf7, hr7⟩
            have hfr7 := HL6.out.fr.trans hf7
            have HB7 := Lib.hid (HB6.out.fr hf7)
            have HROW7 := Lib.hid (HL6.out.row.kept hf7.ht hf7.nm)
            have HFR7 := Lib.hid hfr7
            clear hf7 hfr7 b0 b1 b2 b3 b4 b5 b6 b7
            cases rr with
            | error ek =>
              obtain ⟨rfl, hk0⟩ := hr7
              have hfin : RunPost w0 w xb mb kb ms X r (.returned (.tuple #[.slice none 0 0, .int .i64 ek])) W7 := by
                have he := HCO.out
                dsimp only at he
                rw [HJ.out, he]
                exact ⟨HFR7.out, rfl, hk0⟩
              have HF := Lib.hid hfin
              have q0 : ¬ (ek = 0) := hk0
              clear hfin
              go_wp2_with fail
              go_ret2
              exact HF.out
            | ok z =>
              obtain ⟨X2, l2, st2⟩ := z
              obtain ⟨⟨v7, rfl, hv7, hvb⟩, hl2, hx7, hle7, hst7, lv7, vs7, hr8, hsub7⟩ := hr7
              obtain ⟨d1, d2⟩ := Ep.replace_len HRR.out 1000000 HL6.out.lens
              have hL7 : Lp w0 w W7 w.heap.size xb mb kb ms X X2 st2 false acc _ := ⟨hx7, HL6.out.le.trans hle7, HFR7.out, ⟨lv7, vs7, hr8, fun g hg => hsub7.off (HOR.out g hg)⟩, HROW7.out, d2, by have := HL6.out.cnt; omega, hw⟩
              have KPP := Lib.hid (eput2_any w0.heap.size w.heap.size w.heap.size lv7 vs7 st2 v7 l2 x.t.bl W7 hr8 hv7 hw (by have := hL7.cnt; have := hL7.xm.st; omega))
              have HPP := Lib.hid (fun (W8 : World) (hp : PutPost w0.heap.size w.heap.size w.heap.size (Ep.put l2 x.t.bl st2) vs7 v7 W7 (.returned (.tuple #[])) W8) => hL7.putted (fun g hg => hsub7.off (HOR.out g hg)) hp (fun g hg e => by have h1 := hvb g e; have h2 := (HL6.out.row.lt hg).2; omega) (by omega) (by have := HL6.out.cnt; omega))
              obtain ⟨b0, b1, b2, b3, b4, b5, b6, b7, -⟩ := box8_cells HB7.out.blk
              obtain ⟨ad7, cap7, rfl, -, -⟩ := hv7.form
              clear hv7 hvb hx7 hle7 hr8 hsub7 d1 d2 hL7
              go_wp2_with fail
              refine KPP.out.mono ?_
              rintro e8 V hpp8
              obtain rfl := hpp8.1
              have h8 := HPP.out V hpp8
              have HLV := Lib.hid h8.1
              have HBV := Lib.hid (h8.2 HB7.out)
              have HRV := Lib.hid (And.intro HCO.out HJ.out)
              obtain ⟨r2, hr2e⟩ : ∃ r2, r2 = r' := ⟨_, rfl⟩
              rw [← hr2e] at HRV
              clear hpp8 h8 b0 b1 b2 b3 b4 b5 b6 b7 hr2e
              obtain ⟨lvA, vsA, hrA, hoffA⟩ := id HLV.out.rs
              have hBoff := hrA.ls.off (Nat.le_refl _)
              obtain ⟨hLB, hBge, hBsv⟩ := HLV.out.box (.cells #[.int .i64 x.t.kind, .string x.t.text, .int .i64 x.t.file, .int .i64 x.t.fr, .int .i64 x.t.en, .bool x.t.bl, .pointer p, .bool x.mark] 92)
              have hrB := hrA.below ((Below.refl _ V).alloc (Nat.le_refl _) (.cells #[.int .i64 x.t.kind, .string x.t.text, .int .i64 x.t.file, .int .i64 x.t.fr, .int .i64 x.t.en, .bool x.t.bl, .pointer p, .bool x.mark] 92))
              have hblkB := heap_alloc_new V (.cells #[.int .i64 x.t.kind, .string x.t.text, .int .i64 x.t.file, .int .i64 x.t.fr, .int .i64 x.t.en, .bool x.t.bl, .pointer p, .bool x.mark] 92)
              have KNA := Lib.hid (enext_any w0.heap.size w.heap.size w.heap.size lvA vsA (Ep.put l2 x.t.bl st2).1 (Ep.put l2 x.t.bl st2).2 _ hrB hw hLB.lens (by have := hLB.cnt; have := hLB.xm.st; omega))
              obtain ⟨b0, b1, b2, b3, b4, b5, b6, b7, -⟩ := box8_cells HBV.out.blk
              have HLB := Lib.hid hLB
              have HRB := Lib.hid (And.intro hrB hoffA)
              have HBB := Lib.hid (And.intro hblkB (And.intro hBge (And.intro hBsv hBoff)))
              clear hrA hoffA hBoff hLB hBge hBsv hrB hblkB
              go_wp2_with fail
              refine KNA.out.mono ?_
              rintro e9 W9 ⟨y, q, rfl, hq9, hf9, hn9⟩
              have hblk9 := hf9.ht _ _ _ HBB.out.1
              obtain ⟨st9, bb9, hL9, hB9, h9⟩ := Lp.nexted HLB.out HRB.out.1 HRB.out.2 HBB.out.1 HBB.out.2.1 HBB.out.2.2.1 HBB.out.2.2.2 hf9 hn9 hq9 rfl
              have hadv := Ep.advance HRV.out.1 h9
              have HL9 := Lib.hid hL9
              have HB9 := Lib.hid hB9
              have HADV9 := Lib.hid hadv
              obtain ⟨v0, v1, v2, v3, v4, v5, v6, v7, vf⟩ := box8_cells hblk9
              clear hq9 hf9 hn9 hblk9 hL9 hB9 h9 hadv b0 b1 b2 b3 b4 b5 b6 b7
              generalize (Ep.next (Ep.put l2 x.t.bl st2).1 (Ep.put l2 x.t.bl st2).2).isSome = okb at HADV9 ⊢
              obtain ⟨⟨kd9, tx9, fl9, fr9, en9, bl9⟩, hd9, mk9⟩ := y
              dsimp only [htAgg] at HL9 HB9 ⊢
              unfold set8 at HL9 HB9
              go_wp2_with fail
              go_roundg f
              case measure => omega
              case rel =>
                refine ⟨X2, st9, bb9, acc, _, _, q, r2, rfl, HL9.out, HB9.out, hacc, HRV.out.2, ?_⟩
                rcases HADV9.out with h | ⟨f', h1, h2, h3, h4⟩
                · exact .inl h
                · exact .inr ⟨f', h1, h2, by omega, h3, h4⟩
theorem erun_any (w0 : World) (xb mb : Nat) (kb : Nat → Nat) (ms : List M) (hG : Glob w0) (hms : ∀ m ∈ ms, MOk m) (n : Nat) : RunAny w0 xb mb kb ms (fun X l => Ep.run ms n 0 X (Ep.put l false []).1 false) := by
  induction n using Nat.strongRecOn with
  | _ n ih => exact erun_step w0 xb mb kb ms hG hms n ih
end Go.Proofs.YtlepnafgcmeimaaGreatDoor

/- What is proved: what Expand tells. -/
namespace Go.Proofs.YtlepnafgcmeimaaGreatDoor
open Go.RowKit Go.Shelf
open Ep (HT XS)
open Mx (M)

def ExpPost (w : World) (r : Except Int (XS × List HT)) (e : Ending) (w' : World) : Prop :=
  Below w.heap.size w w' ∧
  match r with
  | .ok (_, l) => ∃ u, e = .returned (.tuple #[u, .int .i64 0]) ∧ Ks w' u (Ep.bareH l)
  | .error k => k ≠ 0 ∧ ∃ u, e = .returned (.tuple #[u, .int .i64 k]) ∧ Ks w' u []
set_option maxRecDepth 100000 in
set_option maxHeartbeats 4000000 in
theorem expand_any (mv v : Value) (ms : List M) (l : List K) (w : World) (hM : MsV w mv ms) (hK : Ks w v l) (hG : Glob w) (hms : ∀ m ∈ ms, MOk m) (hml : ms.length ≤ 1000000) (hl : l.length ≤ 1000000) (n : Nat) (r : Except Int (XS × List HT)) (hr : Ep.expand ms n l = some r) :
    Calls Tryz.prog 10 #[mv, v] w (ExpPost w r) := by
  have KB := Lib.hid (ebegun_any mv ms w hM hml)
  have HK := Lib.hid hK
  have HG := Lib.hid hG
  have HR := Lib.hid hr
  have HMS := Lib.hid hms
  clear hM hK hG hr hms
  go_enter Tryz.func10, Tryz.ntmps10
  go_wp2_with fail
  refine KB.out.mono ?_
  rintro e1 w1 ⟨xb, mb, kb, rfl, hx1⟩
  have KL := Lib.hid (elined_any v l w1 (HK.out.below hx1.bl) hl)
  have HX1 := Lib.hid hx1
  clear hx1
  go_wp2_with fail
  refine KL.out.mono ?_
  rintro e2 w2 ⟨lv, rfl, hrow, hb2⟩
  have hx2 := HX1.out.below hb2
  have hll : (Ep.lined false l).length ≤ 1000000 := by
    have : ∀ (b : Bool) (l : List K), (Ep.lined b l).length ≤ l.length := fun b l => by
      induction l generalizing b with
      | nil => exact Nat.le_refl _
      | cons t r ih =>
        rw [Ep.lined]
        split
        · have := ih true; simp only [List.length_cons]; omega
        · have := ih false; simp only [List.length_cons]; omega
    exact Nat.le_trans (this false l) hl
  have KR := Lib.hid (erun_any w xb mb kb ms HG.out HMS.out n ⟨[], 0⟩ (Ep.lined false l) lv w2 r hx2 hrow.hs hll HR.out)
  have HB2 := Lib.hid hx2.bl
  clear hrow hb2 hx2 hll
  go_wp2_with fail
  refine KR.out.mono ?_
  rintro e3 w3 ⟨hf3, hr3⟩
  have hb3 : Below w.heap.size w w3 := HB2.out.trans (hf3.below HB2.out.size)
  have HB3 := Lib.hid hb3
  clear hf3 hb3
  cases r with
  | error k =>
    obtain ⟨rfl, hk0⟩ := hr3
    have KA := Lib.hid (ebare_any (.slice none 0 0) [] w3 (Hs.nil w3 none 0 (Nat.zero_le _)) (Nat.zero_le _))
    go_wp2_with fail
    refine KA.out.mono ?_
    rintro e4 w4 ⟨u, rfl, hrow, hb4⟩
    have hks : Ks w4 u [] := Ks.of_row hrow
    have hfin : ExpPost w (.error k) (.returned (.tuple #[u, .int .i64 k])) w4 := ⟨HB3.out.trans (hb4.mono HB3.out.size), hk0, u, rfl, hks⟩
    have HF := Lib.hid hfin
    clear hrow hb4 hks hfin
    go_wp2_with fail
    go_ret2
    exact HF.out
  | ok y =>
    obtain ⟨X2, l2⟩ := y
    obtain ⟨⟨v3, rfl, hv3⟩, hl2, -, -⟩ := hr3
    have KA := Lib.hid (ebare_any v3 l2 w3 hv3 (by omega))
    clear hv3
    go_wp2_with fail
    refine KA.out.mono ?_
    rintro e4 w4 ⟨u, rfl, hrow, hb4⟩
    have hks : Ks w4 u (Ep.bareH l2) := Ks.of_row (by rw [show l2.length = (Ep.bareH l2).length by simp [Ep.bareH]] at hrow; exact hrow)
    have hfin : ExpPost w (.ok (X2, l2)) (.returned (.tuple #[u, .int .i64 0])) w4 := ⟨HB3.out.trans (hb4.mono HB3.out.size), u, rfl, hks⟩
    have HF := Lib.hid hfin
    clear hrow hb4 hks hfin
    go_wp2_with fail
    go_ret2
    exact HF.out
end Go.Proofs.YtlepnafgcmeimaaGreatDoor

/- What is proved: what the laws' comes tells, where a text comes, or an error. -/
namespace Go.Proofs.YtlepnafgcmeimaaGreatDoor
open Go.RowKit Go.Shelf
open Mx (M)
open Ep (XS HT)

namespace Ep
def saysT (ds : List ByteArray) (s : ByteArray) (t : List UInt8) : Bool :=
  match readR ds with
  | none => false
  | some ms => match expand ms 100 (toksAt 0 s.data.toList) with
    | some (.ok (_, l)) => (Gl.txt false false false (bareH l) == t) && (decide ((bareH l).length ≤ 4000) && (bareH l).all fun x => decide (x.text.size ≤ 400))
    | _ => false
def saysE (ds : List ByteArray) (s : ByteArray) (e : Int) : Bool :=
  match readR ds with
  | none => false
  | some ms => match expand ms 100 (toksAt 0 s.data.toList) with
    | some (.error k) => decide (k = e)
    | _ => false
theorem saysTout {ds : List ByteArray} {s : ByteArray} {t : List UInt8} (h : saysT ds s t = true) : ∃ ms X l, readR ds = some ms ∧ expand ms 100 (toksAt 0 s.data.toList) = some (.ok (X, l)) ∧ Gl.txt false false false (bareH l) = t ∧ (bareH l).length ≤ 4000 ∧ ∀ x ∈ bareH l, x.text.size ≤ 400 := by
  unfold saysT at h
  split at h
  · cases h
  · rename_i ms hms
    split at h
    · rename_i X l he
      simp only [Bool.and_eq_true, beq_iff_eq, List.all_eq_true, decide_eq_true_eq] at h
      exact ⟨ms, X, l, hms, he, h.1, h.2.1, h.2.2⟩
    · cases h
theorem saysEout {ds : List ByteArray} {s : ByteArray} {e : Int} (h : saysE ds s e = true) : ∃ ms, readR ds = some ms ∧ expand ms 100 (toksAt 0 s.data.toList) = some (.error e) := by
  unfold saysE at h
  split at h
  · cases h
  · rename_i ms hms
    split at h
    · rename_i k he
      obtain rfl := of_decide_eq_true h
      exact ⟨ms, hms, he⟩
    · cases h
end Ep

theorem lexpand_any (mv tv : Value) (ds : List ByteArray) (s : ByteArray) (ms : List M) (w : World) (hG : Glob w) (hr : Ep.readR ds = some ms) (hM : MsV w mv ms) (hT : Ks w tv (Ep.toksAt 0 s.data.toList)) (hs : s.size ≤ 1000000) (n : Nat) (r : Except Int (XS × List HT)) (he : Ep.expand ms n (Ep.toksAt 0 s.data.toList) = some r) :
    Calls Tryz.prog 10 #[mv, tv] w (ExpPost w r) := by
  obtain ⟨-, h12, hok⟩ := Ep.readR_small hr
  have h1 := Ep.toksAt_len 0 s.data.toList
  have h2 : s.data.toList.length = s.size := size_list s
  exact expand_any mv tv ms _ w hM hT hG (fun m hm => (hok m hm).ok) (by omega) (by omega) n r he
set_option maxRecDepth 100000 in
set_option maxHeartbeats 4000000 in
theorem lcomes_text (v : Value) (ds : List ByteArray) (s : ByteArray) (t : List UInt8) (w : World) (hG : Glob w) (hv : Sts w v ds) (hl : ds.length ≤ 2000000) (hds : ∀ d ∈ ds, d.size ≤ 2000000) (hs : s.size ≤ 1000000) (ht : t.length ≤ 1000000) (hsay : Ep.saysT ds s t = true) :
    Calls Tryz.prog 14 #[v, .string s] w fun e w' => e = .returned (.string ⟨t.toArray⟩) ∧ Below w.heap.size w w' := by
  obtain ⟨ms, X, l, hr, he, hx, hy, hz⟩ := Ep.saysTout hsay
  have KR := Lib.hid (lread_any v ds w hG hv hl hds)
  rw [hr] at KR
  have HR := Lib.hid hr
  have HE := Lib.hid he
  have HX := Lib.hid hx
  have HZ := Lib.hid hz
  have HY := Lib.hid hy
  have HG := Lib.hid hG
  clear hv hr he hx hy hz hsay hG hl hds
  go_enter Tryz.func14, Tryz.ntmps14
  go_wp2_with fail
  refine KR.out.mono ?_
  rintro e1 w1 ⟨hB1, mv, rfl, hM⟩
  have HM := Lib.hid hM
  have HB1 := Lib.hid hB1
  clear hM hB1
  go_wp2_with fail
  refine (tokens_any 0 s (by omega) _ (HG.out.later HB1.out)).mono ?_
  rintro e2 w2 ⟨tv, rfl, htv, hB2⟩
  have HB2 := Lib.hid (Below.then HB1.out hB2)
  have KE := Lib.hid (lexpand_any mv tv ds s ms w2 (HG.out.later HB2.out) HR.out (HM.out.below hB2) htv.ks hs 100 _ HE.out)
  clear htv hB2
  go_wp2_with fail
  refine KE.out.mono ?_
  rintro e3 w3 ⟨hB3, u, rfl, hu⟩
  have HB3 := Lib.hid (Below.then HB2.out hB3)
  have HT := Lib.hid (rtext_any u false (Ep.bareH l) w3 hu (by have := HY.out; omega) (fun x hx => by have := HZ.out x hx; omega) (by rw [HX.out]; omega))
  clear hu hB3
  go_wp2_with fail
  refine HT.out.mono ?_
  rintro e4 w4 ⟨rfl, hB4⟩
  have HB4 := Lib.hid (Below.then HB3.out hB4)
  clear hB4
  go_wp2_with fail
  go_ret
  rw [HX.out]
  exact ⟨rfl, HB4.out⟩
set_option maxRecDepth 100000 in
set_option maxHeartbeats 4000000 in
theorem lcomes_err (v : Value) (ds : List ByteArray) (s : ByteArray) (k : Int) (b : UInt8) (w : World) (hG : Glob w) (hv : Sts w v ds) (hl : ds.length ≤ 2000000) (hds : ∀ d ∈ ds, d.size ≤ 2000000) (hs : s.size ≤ 1000000) (hk : (k = 80 ∧ b = 58) ∨ (k = 81 ∧ b = 59)) (hsay : Ep.saysE ds s k = true) :
    Calls Tryz.prog 14 #[v, .string s] w fun e w' => e = .returned (.string ⟨#[b]⟩) ∧ Below w.heap.size w w' := by
  obtain ⟨ms, hr, he⟩ := Ep.saysEout hsay
  have KR := Lib.hid (lread_any v ds w hG hv hl hds)
  rw [hr] at KR
  have HR := Lib.hid hr
  have HE := Lib.hid he
  have HG := Lib.hid hG
  clear hv hr he hsay hG hl hds
  go_enter Tryz.func14, Tryz.ntmps14
  go_wp2_with fail
  refine KR.out.mono ?_
  rintro e1 w1 ⟨hB1, mv, rfl, hM⟩
  have HM := Lib.hid hM
  have HB1 := Lib.hid hB1
  clear hM hB1
  go_wp2_with fail
  refine (tokens_any 0 s (by omega) _ (HG.out.later HB1.out)).mono ?_
  rintro e2 w2 ⟨tv, rfl, htv, hB2⟩
  have HB2 := Lib.hid (Below.then HB1.out hB2)
  have KE := Lib.hid (lexpand_any mv tv ds s ms w2 (HG.out.later HB2.out) HR.out (HM.out.below hB2) htv.ks hs 100 _ HE.out)
  clear htv hB2
  go_wp2_with fail
  refine KE.out.mono ?_
  rintro e3 w3 ⟨hB3, hk0, u, rfl, hu⟩
  have HB3 := Lib.hid (Below.then HB2.out hB3)
  obtain ⟨ua, uc, rfl, -⟩ := id hu
  clear hu hB3 hk0
  rcases hk with ⟨rfl, rfl⟩ | ⟨rfl, rfl⟩
  · go_wp2_with fail
    go_ret
    exact ⟨rfl, HB3.out⟩
  · go_wp2_with fail
    go_ret
    exact ⟨rfl, HB3.out⟩
end Go.Proofs.YtlepnafgcmeimaaGreatDoor
