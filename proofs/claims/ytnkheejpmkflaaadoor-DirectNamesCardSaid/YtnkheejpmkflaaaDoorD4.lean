/- What is proved: what Lines tells of any tokens: their lines, in new memory. -/
import Derived.Test.YtnkheejpmkflaaaDoorD3
import Derived.Maps.AppendAt
import Derived.Deep.RegionHeld
import Derived.Deep.AppendLies
namespace Go.Proofs.YtnkheejpmkflaaaDoor
open Go.RowKit Go.Shelf

attribute [local go_sem] Oper.semAt_some

/-! ### A region that draws its order, in a round: as everywhere -/
theorem op_round {P : Program} {n l : Nat} {o : Oper} {a : Act} {w : World} {K : Act → World → Prop} {Q : Exit → Act → World → Prop} (hnd : ∀ c, o.op ≠ .defer c) (h : o.wp P a w K Q) :
    o.wpIn (Fence.wide.inRound l) n P a w K Q := by
  unfold Oper.wp at h
  unfold Oper.wpIn
  refine ⟨fun _ _ => trivial, ?_⟩
  rw [Oper.semAt_plain _ _ _ hnd]
  generalize (execOp a.eval o).run P w = r at *
  cases r with
  | ok x w' =>
    cases x <;> simp only [Oper.upon, Oper.uponIn] at h ⊢ <;>
      first
        | exact h
        | exact ⟨fun e => by simp [Fence.wide] at e, CallsIn.inRound l (callsIn_wide.2 h)⟩
        | exact ⟨fun e => by simp [Fence.wide] at e, fun c cs _ => let ⟨v, w', r, s⟩ := h c cs; ⟨v, w', r, stepsIn_wide.2 s⟩⟩
  | halt x w' => cases x <;> simp only [Oper.upon, Oper.uponIn] at h ⊢ <;> exact h

theorem any_round {P : Program} {n l : Nat} {md : Region.Mode} {ops : Array Oper} {Q : Exit → Act → World → Prop} (hnd : ∀ (i : Nat) (o : Oper), ops[i]? = some o → ∀ c, o.op ≠ .defer c) (hno : ¬ LetsOut Q) :
    ∀ (fuel : Nat) (listed : Array Bool) (a : Act) (w : World), wpAny P md ops Q fuel listed a w → wpAnyIn (Fence.wide.inRound l) n P md ops Q fuel listed a w := by
  intro fuel
  induction fuel with
  | zero => intro listed a w h; exact h
  | succ fuel ih =>
    intro listed a w h
    refine ⟨h.1, fun i hi => ?_⟩
    have hk := h.2 i hi
    unfold wpOp at hk
    unfold wpOpIn
    cases ho : ops[i]? with
    | none => rw [ho] at hk; exact ih _ _ _ hk
    | some o =>
      rw [ho] at hk
      dsimp only at hk ⊢
      split
      · rename_i hw
        rw [if_pos hw] at hk
        rcases hk with hk | ⟨_, hk⟩
        · exact Oper.wpIn_mono (fun a w => ih _ a w) (op_round (hnd i o ho) hk)
        · exact absurd hk hno
      · rename_i hw
        rw [if_neg hw] at hk
        exact ⟨fun _ _ => trivial, ih _ _ _ hk⟩

def noDefer (o : Oper) : Bool := match o.op with
  | .defer _ => false
  | _ => true
theorem noDefers {ops : Array Oper} (h : ops.toList.all noDefer = true) : ∀ (i : Nat) (o : Oper), ops[i]? = some o → ∀ c, o.op ≠ .defer c := by
  intro i o ho c e
  have := List.all_eq_true.1 h o (List.mem_of_getElem? (by rw [Array.getElem?_toList]; exact ho))
  unfold noDefer at this
  rw [e] at this
  cases this

theorem region_round {P : Program} {n l id : Nat} {ops : Array Oper} {Q : Exit → Act → World → Prop} {a : Act} {w : World} (hm : P.follows .mixedOrders = true) (hnd : ops.toList.all noDefer = true) (hno : ¬ LetsOut Q)
    (h : wpAny P .any ops Q ops.size (Array.replicate ops.size false) a w.drew) : (Code.region id ops true).wpIn (Fence.wide.inRound l) n P Q a w :=
  wpIn_region_any hm (any_round (noDefers hnd) hno _ _ _ _ h)

theorem row_base {W : World} {base base' e sz n : Nat} {v : Value} {cs : List Value} (h : W.ownsRow base e sz v n cs) (hb : base' ≤ base) : W.ownsRow base' e sz v n cs := by
  refine ⟨h.1, ?_⟩
  rcases h.2 with h' | ⟨g, cap, cur, h', h1, h2, h3⟩
  · exact .inl h'
  · exact .inr ⟨g, cap, cur, h', Nat.le_trans hb h1, h2, h3⟩

/-- Slices that own lines' tokens. -/
def SlO (b : Nat) (W : World) (vs : List Value) (ls : List Ln) : Prop := vs.length = ls.length ∧ ∀ (i : Nat) (v : Value) (x : Ln), vs[i]? = some v → ls[i]? = some x → W.ownsRow b 40 6 v x.toks.length (ksCells x.toks)
theorem SlO.nil (b : Nat) (W : World) : SlO b W [] [] := ⟨rfl, fun i v x h => by simp at h⟩
theorem SlO.below {b : Nat} {W W' : World} {vs : List Value} {ls : List Ln} (h : SlO b W vs ls) (hb : Below W.heap.size W W') : SlO b W' vs ls :=
  ⟨h.1, fun i v x h1 h2 => row_below (h.2 i v x h1 h2) hb⟩
theorem SlO.kept {b : Nat} {W W' : World} {row : Option Nat} {vs : List Value} {ls : List Ln} (h : SlO b W vs ls) (hg : W.grownBy W' row) (hr : ∀ r, row = some r → ∀ cur, W.heap[r]? ≠ some (.cells cur 40 (0, 0))) : SlO b W' vs ls := by
  refine ⟨h.1, fun i v x h1 h2 => ?_⟩
  have hw := h.2 i v x h1 h2
  refine hw.kept hg ?_
  rcases hw.2 with ⟨rfl, _⟩ | ⟨g, cap, cur, rfl, _, hgb, _⟩
  · exact .inl rfl
  · exact .inr fun e => hr g (by simpa [Value.ownBlock] using e.symm) cur hgb
theorem SlO.snoc {b : Nat} {W : World} {vs : List Value} {ls : List Ln} {v : Value} {x : Ln} (h : SlO b W vs ls) (hv : W.ownsRow b 40 6 v x.toks.length (ksCells x.toks)) : SlO b W (vs ++ [v]) (ls ++ [x]) := by
  refine ⟨by simp [h.1], fun i u y h1 h2 => ?_⟩
  rcases Nat.lt_trichotomy i vs.length with hi | hi | hi
  · rw [List.getElem?_append_left hi] at h1
    rw [List.getElem?_append_left (by rw [← h.1]; exact hi)] at h2
    exact h.2 i u y h1 h2
  · rw [List.getElem?_append_right (by omega), hi, Nat.sub_self] at h1
    rw [List.getElem?_append_right (by have := h.1; omega), hi, ← h.1, Nat.sub_self] at h2
    simp at h1 h2
    subst h1 h2
    exact hv
  · rw [List.getElem?_eq_none (by simp; omega)] at h1; cases h1
theorem SlO.slK {b : Nat} {W : World} {vs : List Value} {ls : List Ln} (h : SlO b W vs ls) : SlK W vs ls := by
  refine ⟨h.1, fun i v x h1 h2 => ?_⟩
  have hk := Ks.of_row (h.2 i v x h1 h2)
  refine ⟨hk, ?_⟩
  obtain ⟨ad, cap, rfl, _⟩ := hk
  rfl

/-- What is at hand between two rounds: the list so far in its box, its tokens' slices, and two boxes of the argument. -/
def LinesI (n0 B0 B1 B2 : Nat) (v : Value) (f : List (Nat × Nat) → List Ln) (pre : List (Nat × Nat)) (W : World) : Prop :=
  (∃ u vs, Boxed W B1 23 u ∧ W.ownsRow n0 34 4 u (f pre).length (lnCells vs (f pre)) ∧ SlO n0 W vs (f pre)) ∧ Boxed W B0 25 v ∧ Boxed W B2 25 v

theorem linesI_own (n0 B0 B1 B2 : Nat) (v : Value) {β : Type} (h : β → List (Nat × Nat)) (f : List (Nat × Nat) → List Ln) : Own (fun (pre : β) W => LinesI n0 B0 B1 B2 v f (h pre) W) := by
  rintro s X Y row ⟨⟨u, vs, hu, hr, hs⟩, b0, b2⟩ hg hrow
  have nb : ∀ {B : Nat} {t : TypeId} {z : Value}, Boxed X B t z → some B ≠ row := fun hb e => by
    obtain ⟨o, ho, hc⟩ := hrow _ e.symm
    rw [show X.heap[_]? = _ from hb] at ho; cases ho; cases hc
  refine ⟨⟨u, vs, hu.kept hg (nb hu), hr.kept hg ?_, hs.kept hg fun r e cur hc => ?_⟩, b0.kept hg (nb b0), b2.kept hg (nb b2)⟩
  · rcases hr.2 with ⟨rfl, _⟩ | ⟨g, cap, cur, rfl, _, hgb, _⟩
    · exact .inl rfl
    · refine .inr fun e' => ?_
      obtain ⟨o, ho, hc⟩ := hrow g (by simpa [Value.ownBlock] using e'.symm)
      rw [hgb] at ho; cases ho; cases hc
  · obtain ⟨o, ho, hc'⟩ := hrow r e
    rw [hc] at ho; cases ho; cases hc'

theorem SlO.appended {n0 B k : Nat} {w5 w6 : World} {u v' : Value} {xs vs : List Value} {ls : List Ln} {tmp : Obj} (h : SlO n0 w5 vs ls) (hrow : w5.ownsRow n0 34 4 u k xs)
    (hgrow : (w5.alloc tmp).grownBy w6 u.ownBlock) (hb : Boxed w6 B 23 u) : SlO n0 (w6.setCell ⟨B, 0, none⟩ v') vs ls := by
  refine ((h.below ((Below.refl _ _).alloc (Nat.le_refl _) tmp)).kept hgrow fun r e cur hc => ?_).kept (grownBy_setCell' w6 B v') fun r e cur hc => ?_
  · rcases (hrow.alloc tmp).2 with ⟨rfl, _⟩ | ⟨g, cap, cur', rfl, _, hgb, _⟩
    · cases e
    · obtain rfl : g = r := by simpa [Value.ownBlock] using e
      rw [hgb] at hc
      simp at hc
  · injection e with e
    subst e
    rw [show w6.heap[B]? = _ from hb] at hc
    simp at hc

theorem lnCells_snoc (vs : List Value) (ls : List Ln) (v : Value) (x : Ln) (h : vs.length = ls.length) : lnCells (vs ++ [v]) (ls ++ [x]) = lnCells vs ls ++ [.int .i64 x.kind, .int .i64 x.first, .int .i64 x.n, v] := by
  rw [lnCells_append _ _ _ _ h]
  simp [lnCells]

theorem keepsFrom_below {B : Nat} {W W' : World} (h : Below W.heap.size W W') : KeepsFrom B W W' := ⟨h.size, fun k _ _ hk _ => (h.block k (Array.getElem?_eq_some_iff.1 hk).1).trans hk⟩

theorem news_line (w : World) (a b c d : Value) (t : TypeId) : ∀ j u, [a, b, c, d][j]? = some u → (w.alloc (.cells #[a, b, c, d] t)).cell? ((⟨w.heap.size, 0, none⟩ : Addr).add j) = some u := by
  intro j u hj
  match j, hj with
  | 0, hj => simp at hj; subst hj; simp [Addr.add]
  | 1, hj => simp at hj; subst hj; simp [Addr.add]
  | 2, hj => simp at hj; subst hj; simp [Addr.add]
  | 3, hj => simp at hj; subst hj; simp [Addr.add]

set_option maxRecDepth 100000 in
set_option maxHeartbeats 8000000 in
theorem lines_in (m : Nat) (hm : 3 ≤ m) (v : Value) (ts : List K) (w : World) (hv : Ks w v ts) (hl : ts.length * 56 ≤ 140737488355328) (hG : Glob w) :
    CallsIn Fence.wide m Tryd.prog 10 #[v] w fun e W' => ∃ u, e = .returned u ∧ Lns W' u (Dx.lines ts) ∧ Below w.heap.size w W' := by
  have h1 : 1 ≤ m := by omega
  obtain ⟨i0, hi, hz0, hz1, hz2⟩ := info_parts infoLn
  obtain ⟨ad, cap, rfl, hc1, hc2, -⟩ := id hv
  have HG := Lib.hid hG
  obtain ⟨N, hN⟩ : ∃ N, N = ts.length := ⟨_, rfl⟩
  have hcl := Dx.cuts_length ts
  rw [← hN] at hl hc1 hcl ⊢
  have HN := Lib.hid hN
  have hu : 0 < ts.length → Under (.slice ad N cap) w.heap.size := fun hp g o n' cap' e => by
    obtain ⟨g', o', e', -, -, -, hg, -⟩ := hv.cells hp
    injection e with e1 e2 e3
    rw [e'] at e1
    injection e1 with e1
    injection e1 with e1
    omega
  have hv' : Ks w (.slice ad N cap) ts := by rw [hN]; exact hv
  have HV := Lib.hid hv'
  clear hG hv hv' hN
  refine callsIn_of_wp_marks Tryd.func10 rfl trivial ?_ rfl
  simp only [Tryd.ntmps10, List.size_toArray, List.length_cons, List.length_nil, Nat.reduceAdd, Nat.reduceSub, Array.replicate_succ, Array.replicate_zero, List.push_toArray, List.append_toArray, List.nil_append, List.cons_append]
  gi_wp2_with fail
  refine ⟨trivial, (places_in _ ad N cap _).mono ?_⟩
  rintro e w' ⟨rfl, rfl⟩
  gi_wp2_with fail
  have b0 := ((Boxed.new w 25 (.slice ad N cap)).alloc (.cells #[.slice none 0 0] 23)).alloc (.cells #[.slice ad N cap] 25)
  have b1 := (Boxed.new (w.alloc (.cells #[.slice ad N cap] 25)) 23 (.slice none 0 0)).alloc (.cells #[.slice ad N cap] 25)
  have b2 := Boxed.new ((w.alloc (.cells #[.slice ad N cap] 25)).alloc (.cells #[.slice none 0 0] 23)) 25 (.slice ad N cap)
  simp only [World.size_alloc, Nat.add_assoc, Nat.reduceAdd] at b1 b2
  have hB0 : Below w.heap.size w (((w.alloc (.cells #[.slice ad N cap] 25)).alloc (.cells #[.slice none 0 0] 23)).alloc (.cells #[.slice ad N cap] 25)) := (((Below.refl _ w).alloc (Nat.le_refl _) _).alloc (by simp) _).alloc (by simp; omega) _
  have hsz : (((w.alloc (.cells #[.slice ad N cap] 25)).alloc (.cells #[.slice none 0 0] 23)).alloc (.cells #[.slice ad N cap] 25)).heap.size = w.heap.size + 3 := by simp
  obtain ⟨W0, hW0⟩ : ∃ W0, ((w.alloc (.cells #[.slice ad N cap] 25)).alloc (.cells #[.slice none 0 0] 23)).alloc (.cells #[.slice ad N cap] 25) = W0 := ⟨_, rfl⟩
  rw [hW0] at b0 b1 b2 hB0 hsz ⊢
  clear hW0
  refine wpIn_rangeFunc_ownG rfl h1 (gf := 37) (lb := #[.pointer (some ⟨w.heap.size + 2, 0, none⟩)]) rfl trivial (enters_of Tryd.func37 (by kernel_rfl) rfl)
    (places_stops (m - 1) (by omega) (w.heap.size + 2) w.heap.size _ ts (by rw [← HN.out]; exact hl) hu W0 (by omega) b2.cell (HV.out.below hB0)) KeepS.trans (KeepS.put (by omega) (by omega)) (Below.refl _ _) (fun _ => rfl)
    (fun pre W => LinesI w.heap.size w.heap.size (w.heap.size + 1) (w.heap.size + 2) (.slice ad N cap) (fun l => l.map (Dx.lnOf ts)) (pre.map Subtype.val) W ∧ Below w.heap.size w W)
    (fun _ _ _ => False)
    (OwnFrom.and (Own.from (linesI_own _ _ _ _ _ (fun pre : List (Cut ts) => pre.map Subtype.val) _) _) (ownFrom_below (Nat.le_refl _) (by omega)))
    (fun _ _ _ _ _ hs _ _ => hs)
    ⟨⟨⟨_, [], b1, World.ownsRow_nil _ _ _ _, SlO.nil _ _⟩, b0, b2⟩, hB0⟩
    (fun x => { tmps := #[.slice ad N cap, .pointer (some ⟨w.heap.size, 0, none⟩), .slice none 0 0, .pointer (some ⟨w.heap.size + 1, 0, none⟩), .int .i64 x.1.1, .int .i64 x.1.2, undef, undef, undef, .slice ad N cap, .func (.func 37) #[] #[.pointer (some ⟨w.heap.size + 2, 0, none⟩)], .int .i64 x.1.1, .int .i64 x.1.2, undef, undef, undef, undef, undef, undef, undef, undef, undef, undef, undef, undef, undef, undef, undef, undef, undef, undef, undef, undef, undef, undef, undef], defers := [] }) ?assign ?body ?done ?stop
  case assign =>
    intro l x W K hK
    gi_wp2
    exact hK
  case body =>
    rintro l pre ⟨⟨f, n⟩, hok⟩ W ⟨⟨⟨u, vs, bu, hrow, hso⟩, b0', b2'⟩, hB⟩ hlt
    obtain ⟨hf, hfn⟩ := id hok
    dsimp only at hf hfn ⊢
    obtain ⟨g, o, rfl, -, -, -, hg, -⟩ := HV.out.cells (by omega)
    rw [← HN.out] at hf hfn
    have hV2 := HV.out.below hB
    have hpt := hV2.part f (f + n) (by omega) (by rw [← HN.out]; exact hfn)
    rw [show f + n - f = n by omega] at hpt
    have cL := bu.cell
    have cA := b0'.cell
    have e1 : IntKind.i64.wrap ((f : Int) + n) = (f : Int) + n := IntWalk.i64_in _ (by omega)
    have e2 : ((f : Int) + n).toNat = f + n := by omega
    have z1 : (f : Int) ≤ (f : Int) + n := by omega
    have z2 : (f : Int) + n ≤ cap := by omega
    have z3 : (0 : Int) ≤ f := by omega
    have z4 : f < cap := by omega
    have HK := Lib.hid hpt
    have hble := Dx.begins_le ((ts.drop f).take n)
    have htl : ((ts.drop f).take n).length = n := by have := HN.out; rw [List.length_take, List.length_drop]; omega
    obtain ⟨tl, htl'⟩ : ∃ tl, tl = (ts.drop f).take n := ⟨_, rfl⟩
    rw [← htl'] at hpt HK hble htl
    obtain ⟨kd, hkd⟩ : ∃ kd, kd = (Dx.begins tl).1 := ⟨_, rfl⟩
    obtain ⟨ah, hah⟩ : ∃ ah, ah = (Dx.begins tl).2 := ⟨_, rfl⟩
    rw [← hah, htl] at hble
    have HTl := Lib.hid htl'
    have Htl := Lib.hid htl
    have HKd := Lib.hid hkd
    have HAh := Lib.hid hah
    clear hpt htl' htl hkd hah
    gi_wp2_with fail
    refine ⟨trivial, fun h => by simp [Fence.wide] at h, (CallsIn.inRound l (callsIn_wide.2 (begins_any _ tl _ HK.out (by rw [Htl.out]; omega) (HG.out.later hB)))).mono ?_⟩
    rintro e w3 ⟨rfl, hB3⟩
    rw [← HKd.out, ← HAh.out]
    have cL3 := (hB3.cell (p := ⟨w.heap.size + 1, 0, none⟩) bu.lt).trans cL
    have y1 : (0 : Int) ≤ ah := by omega
    have y2 : (ah : Int) ≤ n := by omega
    clear cL cA e1 e2
    gi_wp2_with fail
    obtain ⟨x, hx0, hx1⟩ : ∃ x, (cap - f = ah → x = 0) ∧ (cap - f ≠ ah → x = ah * 6) := by
      by_cases h : cap - f = ah
      · exact ⟨0, fun _ => rfl, fun h' => absurd h h'⟩
      · exact ⟨ah * 6, fun h' => absurd h' h, fun _ => rfl⟩
    have hB4 : Below w.heap.size w w3.drew := (hB.trans (hB3.mono hB.size)).drew
    have hB34 : Below W.heap.size W w3.drew := hB3.drew
    have hS4 : w3.drew.cell? ⟨w.heap.size + 1, 0, none⟩ = some u := cL3
    have bu4 : Boxed w3.drew (w.heap.size + 1) 23 u := (hB3.block _ bu.lt).trans bu
    have b04 : Boxed w3.drew w.heap.size 25 (.slice (some ⟨g, o, none⟩) N cap) := (hB3.block _ b0'.lt).trans b0'
    have b24 : Boxed w3.drew (w.heap.size + 2) 25 (.slice (some ⟨g, o, none⟩) N cap) := (hB3.block _ b2'.lt).trans b2'
    have hrow4 := row_below hrow hB34
    have hso4 := hso.below hB34
    have hK4 : Ks w3.drew (.slice (some ⟨g, o + f * 6 + x, none⟩) (n - ah) (cap - f - ah)) (tl.drop ah) := by
      by_cases h : cap - f = ah
      · have hn0 : n - ah = 0 := by omega
        rw [hn0, List.drop_of_length_le (by rw [Htl.out]; omega)]
        exact Ks.none_at _ _ _ (by omega)
      · rw [hx1 h]
        have := (HK.out.below hB34).part ah n hble (by rw [Htl.out]; omega)
        rwa [List.take_of_length_le (by rw [List.length_drop, Htl.out]; omega)] at this
    have HK4 := Lib.hid hK4
    have hlen : ((pre.map Subtype.val).map (Dx.lnOf ts)).length < N := by simp; omega
    refine region_round (by kernel_rfl) (by kernel_rfl) (fun h => by obtain ⟨_, _, h⟩ := h; exact h) ?_
    obtain ⟨w4, hw4⟩ : ∃ w4, w4 = w3.drew := ⟨_, rfl⟩
    rw [← hw4] at hB4 hB34 hS4 bu4 b04 b24 hrow4 hso4 HK4 ⊢
    clear hw4 hK4
    have hfin : ∀ (w5 w6 : World) (ad5 : Option Addr) (n5 cap5 g' cap' : Nat), Below w4.heap.size w4 w5 → n5 = (tl.drop ah).length → w5.ownsRow w4.heap.size 40 6 (.slice ad5 n5 cap5) n5 (ksCells (tl.drop ah)) →
        w5.ownsRow w.heap.size 34 4 u ((pre.map Subtype.val).map (Dx.lnOf ts)).length (lnCells vs ((pre.map Subtype.val).map (Dx.lnOf ts))) → SlO w.heap.size w5 vs ((pre.map Subtype.val).map (Dx.lnOf ts)) →
        Boxed w5 (w.heap.size + 1) 23 u → Boxed w5 w.heap.size 25 (.slice (some ⟨g, o, none⟩) N cap) → Boxed w5 (w.heap.size + 2) 25 (.slice (some ⟨g, o, none⟩) N cap) →
        (w5.alloc (.cells #[.int .i64 kd, .int .i64 f, .int .i64 n, .slice ad5 n5 cap5] 34)).grownBy w6 u.ownBlock → Boxed w6 (w.heap.size + 1) 23 u →
        (w6.setCell ⟨w.heap.size + 1, 0, none⟩ (.slice (some ⟨g', 0, none⟩) (((pre.map Subtype.val).map (Dx.lnOf ts)).length + 1) cap')).ownsRow w.heap.size 34 4 (.slice (some ⟨g', 0, none⟩) (((pre.map Subtype.val).map (Dx.lnOf ts)).length + 1) cap') (((pre.map Subtype.val).map (Dx.lnOf ts)).length + 1) (lnCells vs ((pre.map Subtype.val).map (Dx.lnOf ts)) ++ [.int .i64 kd, .int .i64 f, .int .i64 n, .slice ad5 n5 cap5]) →
        Boxed (w6.setCell ⟨w.heap.size + 1, 0, none⟩ (.slice (some ⟨g', 0, none⟩) (((pre.map Subtype.val).map (Dx.lnOf ts)).length + 1) cap')) (w.heap.size + 1) 23 (.slice (some ⟨g', 0, none⟩) (((pre.map Subtype.val).map (Dx.lnOf ts)).length + 1) cap') →
        KeepsOthers w5 (w6.setCell ⟨w.heap.size + 1, 0, none⟩ (.slice (some ⟨g', 0, none⟩) (((pre.map Subtype.val).map (Dx.lnOf ts)).length + 1) cap')) →
        Below w.heap.size w5 (w6.setCell ⟨w.heap.size + 1, 0, none⟩ (.slice (some ⟨g', 0, none⟩) (((pre.map Subtype.val).map (Dx.lnOf ts)).length + 1) cap')) →
        KeepsFrom W0.heap.size W (w6.setCell ⟨w.heap.size + 1, 0, none⟩ (.slice (some ⟨g', 0, none⟩) (((pre.map Subtype.val).map (Dx.lnOf ts)).length + 1) cap')) ∧
        KeepS (w.heap.size + 2) w.heap.size W (w6.setCell ⟨w.heap.size + 1, 0, none⟩ (.slice (some ⟨g', 0, none⟩) (((pre.map Subtype.val).map (Dx.lnOf ts)).length + 1) cap')) ∧
        LinesI w.heap.size w.heap.size (w.heap.size + 1) (w.heap.size + 2) (.slice (some ⟨g, o, none⟩) N cap) (fun l => l.map (Dx.lnOf ts)) ((pre ++ [⟨(f, n), hok⟩] : List (Cut ts)).map Subtype.val) (w6.setCell ⟨w.heap.size + 1, 0, none⟩ (.slice (some ⟨g', 0, none⟩) (((pre.map Subtype.val).map (Dx.lnOf ts)).length + 1) cap')) ∧
        Below w.heap.size w (w6.setCell ⟨w.heap.size + 1, 0, none⟩ (.slice (some ⟨g', 0, none⟩) (((pre.map Subtype.val).map (Dx.lnOf ts)).length + 1) cap')) := by
      intro w5 w6 ad5 n5 cap5 g' cap' hB5 hn5 hrow5 hrow5' hso5 bu5 b05 b25 hgrow hv1 hr2 hv2 hk2 hb2
      have hB5w : Below w.heap.size w w5 := hB4.trans (hB5.mono hB4.size)
      have hB35 : Below W.heap.size W w5 := hB34.trans (hB5.mono hB34.size)
      have b0f := ((b05.alloc (.cells #[.int .i64 kd, .int .i64 f, .int .i64 n, .slice ad5 n5 cap5] 34)).kept hgrow (b05.not_row (by decide) hrow5')).other (B' := w.heap.size + 1) (by omega) (.slice (some ⟨g', 0, none⟩) (((pre.map Subtype.val).map (Dx.lnOf ts)).length + 1) cap')
      have b2f := ((b25.alloc (.cells #[.int .i64 kd, .int .i64 f, .int .i64 n, .slice ad5 n5 cap5] 34)).kept hgrow (b25.not_row (by decide) hrow5')).other (B' := w.heap.size + 1) (by omega) (.slice (some ⟨g', 0, none⟩) (((pre.map Subtype.val).map (Dx.lnOf ts)).length + 1) cap')
      have hx : Dx.lnOf ts (f, n) = ⟨kd, f, n, tl.drop ah⟩ := by
        unfold Dx.lnOf Dx.mkLn
        rw [← HTl.out, ← HKd.out, ← HAh.out, Htl.out]
      have hmap : ((pre ++ [⟨(f, n), hok⟩] : List (Cut ts)).map Subtype.val).map (Dx.lnOf ts) = (pre.map Subtype.val).map (Dx.lnOf ts) ++ [⟨kd, f, n, tl.drop ah⟩] := by
        rw [List.map_append, List.map_append]
        show _ ++ [Dx.lnOf ts (f, n)] = _
        rw [hx]
      have hs5 : SlO w.heap.size w5 (vs ++ [.slice ad5 n5 cap5]) ((pre.map Subtype.val).map (Dx.lnOf ts) ++ [⟨kd, f, n, tl.drop ah⟩]) := hso5.snoc (by
        dsimp only
        rw [← hn5]
        exact row_base hrow5 hB4.size)
      refine ⟨(keepsFrom_below hB35).trans (hk2.from _), ⟨Eq.trans b2f (Eq.symm b2'), fun k hk => (hb2.block k hk).trans (hB35.block k (by have := hB.size; omega))⟩, ⟨⟨_, vs ++ [.slice ad5 n5 cap5], hv2, ?_, ?_⟩, b0f, b2f⟩, hB5w.trans hb2⟩
      · dsimp only
        rw [hmap, List.length_append, lnCells_snoc _ _ _ _ hso5.1]
        exact hr2
      · dsimp only
        rw [hmap]
        exact hs5.appended hrow5' hgrow hv1
    have HF := Lib.hid hfin
    clear hfin
    refine wpAny_take (i := 1) (v := .int .i64 kd) rfl (by kernel_rfl) (by kernel_rfl) (by kernel_rfl) (fun _ _ _ h => h) (Or.inl ⟨by rfl, fun w => by go_simp⟩) ?_
    simp only [Act.put, List.getElem_toArray, List.getElem_cons_zero, List.getElem_cons_succ, List.setIfInBounds_toArray, List.set_cons_zero, List.set_cons_succ]
    refine wpAny_take (i := 2) (v := .int .i64 f) rfl (by kernel_rfl) (by kernel_rfl) (by kernel_rfl) (fun _ _ _ h => h) (Or.inl ⟨by rfl, fun w => by go_simp⟩) ?_
    simp only [Act.put, List.getElem_toArray, List.getElem_cons_zero, List.getElem_cons_succ, List.setIfInBounds_toArray, List.set_cons_zero, List.set_cons_succ]
    refine wpAny_take (i := 3) (v := .int .i64 n) rfl (by kernel_rfl) (by kernel_rfl) (by kernel_rfl) (fun _ _ _ h => h) (Or.inl ⟨by rfl, fun w => by go_simp⟩) ?_
    simp only [Act.put, List.getElem_toArray, List.getElem_cons_zero, List.getElem_cons_succ, List.setIfInBounds_toArray, List.set_cons_zero, List.set_cons_succ]
    refine wpAny_take (i := 4) (v := .slice (some ⟨g, o + f * 6, none⟩) n (cap - f)) rfl (by kernel_rfl) (by kernel_rfl) (by kernel_rfl) (fun _ _ _ h => h) (Or.inl ⟨by rfl, fun w => by go_simp⟩) ?_
    simp only [Act.put, List.getElem_toArray, List.getElem_cons_zero, List.getElem_cons_succ, List.setIfInBounds_toArray, List.set_cons_zero, List.set_cons_succ]
    refine wpAny_take (i := 5) (v := .int .i64 ah) rfl (by kernel_rfl) (by kernel_rfl) (by kernel_rfl) (fun _ _ _ h => h) (Or.inl ⟨by rfl, fun w => by go_simp⟩) ?_
    simp only [Act.put, List.getElem_toArray, List.getElem_cons_zero, List.getElem_cons_succ, List.setIfInBounds_toArray, List.set_cons_zero, List.set_cons_succ]
    refine wpAny_take (i := 6) (v := .slice (some ⟨g, o + f * 6 + x, none⟩) (n - ah) (cap - f - ah)) rfl (by kernel_rfl) (by kernel_rfl) (by kernel_rfl) (fun _ _ _ h => h) (Or.inl ⟨by rfl, fun w => by go_simp; by_cases h : cap - f = ah <;> simp [h, hx0, hx1]⟩) ?_
    simp only [Act.put, List.getElem_toArray, List.getElem_cons_zero, List.getElem_cons_succ, List.setIfInBounds_toArray, List.set_cons_zero, List.set_cons_succ]
    refine wpAny_ready (rs := [0, 7]) (by kernel_rfl) (by simp) ?_
    refine AllReady.cons rfl (fun K hK => ?_) ?_
    · have HKK := Lib.hid hK
      clear hK
      have hSx := hS4
      go_simp
      refine HKK.out _ _ ?_
      clear HKK K hSx
      refine wpAny_ready (rs := [7]) (by kernel_rfl) (by simp) ?_
      refine AllReady.cons rfl (fun K hK => ?_) AllReady.nil
      have HKK := Lib.hid hK
      clear hK
      go_simp
      refine (clone_any _ (tl.drop ah) _ HK4.out (by rw [List.length_drop, Htl.out]; omega)).mono ?_
      rintro e w5 ⟨u5, rfl, hrow5, hB5⟩
      obtain ⟨ad5, cap5, rfl, -, -, -⟩ := id (Ks.of_row hrow5)
      refine HKK.out _ _ ?_
      clear HKK K
      obtain ⟨n5, hn5⟩ : ∃ n5, n5 = (tl.drop ah).length := ⟨_, rfl⟩
      rw [← hn5] at hrow5 ⊢
      have Hn5 := Lib.hid hn5
      clear hn5
      have hB5w : Below w.heap.size w w5 := hB4.trans (hB5.mono hB4.size)
      have bu5 : Boxed w5 (w.heap.size + 1) 23 u := (hB5.block _ bu4.lt).trans bu4
      have b05 : Boxed w5 w.heap.size 25 (.slice (some ⟨g, o, none⟩) N cap) := (hB5.block _ b04.lt).trans b04
      have b25 : Boxed w5 (w.heap.size + 2) 25 (.slice (some ⟨g, o, none⟩) N cap) := (hB5.block _ b24.lt).trans b24
      have hrow5' := row_below hrow4 hB5
      have hso5 := hso4.below hB5
      refine wpAny_take (i := 8) (v := .agg #[.int .i64 kd, .int .i64 f, .int .i64 n, .slice ad5 n5 cap5]) rfl (by kernel_rfl) (by kernel_rfl) (by kernel_rfl) (fun _ _ _ h => h) (Or.inl ⟨by rfl, fun w => by go_simp⟩) ?_
      simp only [Act.put, List.getElem_toArray, List.getElem_cons_zero, List.getElem_cons_succ, List.setIfInBounds_toArray, List.set_cons_zero, List.set_cons_succ]
      refine wpAny_ready (rs := [9]) (by kernel_rfl) (by simp) ?_
      refine AllReady.cons rfl (fun K hK => ?_) AllReady.nil
      have HKK := Lib.hid hK
      clear hK
      go_simp
      refine HKK.out _ _ ?_
      clear HKK K
      refine wpAny_ready (rs := [10]) (by kernel_rfl) (by simp) ?_
      refine AllReady.cons rfl (fun K hK => ?_) AllReady.nil
      have HKK := Lib.hid hK
      clear hK
      refine step_append_lies _ (by rfl) _ _ _ (by rfl) w.heap.size 34 i0 _ 4 48 Tryd.underlying23 hi hz0 hz1 hz2 rfl (by omega) u ((pre.map Subtype.val).map (Dx.lnOf ts)).length (lnCells vs ((pre.map Subtype.val).map (Dx.lnOf ts))) (by rfl) (hrow5'.alloc _)
        ⟨w5.heap.size, 0, none⟩ 1 1 [.int .i64 kd, .int .i64 f, .int .i64 n, .slice ad5 n5 cap5] (by rfl) (by rfl) (news_line _ _ _ _ _ _) (by simp [Value.oneCell']) (by omega) (by unfold maxLen; omega) (by omega) (by have := hB5w.size; simp; omega) (w5.heap.size + 1) (by simp) ?_
      intro g' cap' w6 hown' hgrow hat hlt6
      obtain ⟨hv1, hv2, hr2, hk2, hb2⟩ := bu5.appended (by decide) hrow5' hB5w.size (by omega) hown' hgrow
      have hc1' := hv1.cell
      have hf1 := hv1.frozen
      refine HKK.out _ _ ?_
      clear HKK K
      refine wpAny_ready (rs := [11]) (by kernel_rfl) (by simp) ?_
      refine AllReady.cons rfl (fun K hK => ?_) AllReady.nil
      have HKK := Lib.hid hK
      clear hK
      have HR2 := Lib.hid hr2
      have HV2 := Lib.hid hv2
      have HK2 := Lib.hid hk2
      have HB2 := Lib.hid hb2
      clear hr2 hv2 hk2 hb2
      go_simp
      refine HKK.out _ _ ?_
      refine wpAny_done (by kernel_rfl) ?_ _
      have hq := HF.out w5 w6 ad5 n5 cap5 g' cap' hB5 Hn5.out hrow5 hrow5' hso5 bu5 b05 b25 hgrow hv1 HR2.out HV2.out HK2.out HB2.out
      simp only [List.length_map] at hq
      exact hq
    refine AllReady.cons rfl (fun K hK => ?_) AllReady.nil
    have HKK := Lib.hid hK
    clear hK
    go_simp
    refine (clone_any _ (tl.drop ah) _ HK4.out (by rw [List.length_drop, Htl.out]; omega)).mono ?_
    rintro e w5 ⟨u5, rfl, hrow5, hB5⟩
    obtain ⟨ad5, cap5, rfl, -, -, -⟩ := id (Ks.of_row hrow5)
    refine HKK.out _ _ ?_
    clear HKK K
    obtain ⟨n5, hn5⟩ : ∃ n5, n5 = (tl.drop ah).length := ⟨_, rfl⟩
    rw [← hn5] at hrow5 ⊢
    have Hn5 := Lib.hid hn5
    clear hn5
    have hB5w : Below w.heap.size w w5 := hB4.trans (hB5.mono hB4.size)
    have bu5 : Boxed w5 (w.heap.size + 1) 23 u := (hB5.block _ bu4.lt).trans bu4
    have b05 : Boxed w5 w.heap.size 25 (.slice (some ⟨g, o, none⟩) N cap) := (hB5.block _ b04.lt).trans b04
    have b25 : Boxed w5 (w.heap.size + 2) 25 (.slice (some ⟨g, o, none⟩) N cap) := (hB5.block _ b24.lt).trans b24
    have hrow5' := row_below hrow4 hB5
    have hso5 := hso4.below hB5
    refine wpAny_take (i := 8) (v := .agg #[.int .i64 kd, .int .i64 f, .int .i64 n, .slice ad5 n5 cap5]) rfl (by kernel_rfl) (by kernel_rfl) (by kernel_rfl) (fun _ _ _ h => h) (Or.inl ⟨by rfl, fun w => by go_simp⟩) ?_
    simp only [Act.put, List.getElem_toArray, List.getElem_cons_zero, List.getElem_cons_succ, List.setIfInBounds_toArray, List.set_cons_zero, List.set_cons_succ]
    refine wpAny_ready (rs := [0, 9]) (by kernel_rfl) (by simp) ?_
    refine AllReady.cons rfl (fun K hK => ?_) ?_
    · have HKK := Lib.hid hK
      clear hK
      have hSx := bu5.cell
      go_simp
      refine HKK.out _ _ ?_
      clear HKK K hSx
      refine wpAny_ready (rs := [9]) (by kernel_rfl) (by simp) ?_
      refine AllReady.cons rfl (fun K hK => ?_) AllReady.nil
      have HKK := Lib.hid hK
      clear hK
      go_simp
      refine HKK.out _ _ ?_
      clear HKK K
      refine wpAny_ready (rs := [10]) (by kernel_rfl) (by simp) ?_
      refine AllReady.cons rfl (fun K hK => ?_) AllReady.nil
      have HKK := Lib.hid hK
      clear hK
      refine step_append_lies _ (by rfl) _ _ _ (by rfl) w.heap.size 34 i0 _ 4 48 Tryd.underlying23 hi hz0 hz1 hz2 rfl (by omega) u ((pre.map Subtype.val).map (Dx.lnOf ts)).length (lnCells vs ((pre.map Subtype.val).map (Dx.lnOf ts))) (by rfl) (hrow5'.alloc _)
        ⟨w5.heap.size, 0, none⟩ 1 1 [.int .i64 kd, .int .i64 f, .int .i64 n, .slice ad5 n5 cap5] (by rfl) (by rfl) (news_line _ _ _ _ _ _) (by simp [Value.oneCell']) (by omega) (by unfold maxLen; omega) (by omega) (by have := hB5w.size; simp; omega) (w5.heap.size + 1) (by simp) ?_
      intro g' cap' w6 hown' hgrow hat hlt6
      obtain ⟨hv1, hv2, hr2, hk2, hb2⟩ := bu5.appended (by decide) hrow5' hB5w.size (by omega) hown' hgrow
      have hc1' := hv1.cell
      have hf1 := hv1.frozen
      refine HKK.out _ _ ?_
      clear HKK K
      refine wpAny_ready (rs := [11]) (by kernel_rfl) (by simp) ?_
      refine AllReady.cons rfl (fun K hK => ?_) AllReady.nil
      have HKK := Lib.hid hK
      clear hK
      have HR2 := Lib.hid hr2
      have HV2 := Lib.hid hv2
      have HK2 := Lib.hid hk2
      have HB2 := Lib.hid hb2
      clear hr2 hv2 hk2 hb2
      go_simp
      refine HKK.out _ _ ?_
      refine wpAny_done (by kernel_rfl) ?_ _
      have hq := HF.out w5 w6 ad5 n5 cap5 g' cap' hB5 Hn5.out hrow5 hrow5' hso5 bu5 b05 b25 hgrow hv1 HR2.out HV2.out HK2.out HB2.out
      simp only [List.length_map] at hq
      exact hq
    refine AllReady.cons rfl (fun K hK => ?_) AllReady.nil
    have HKK := Lib.hid hK
    clear hK
    go_simp
    refine HKK.out _ _ ?_
    clear HKK K
    refine wpAny_ready (rs := [0]) (by kernel_rfl) (by simp) ?_
    refine AllReady.cons rfl (fun K hK => ?_) AllReady.nil
    have HKK := Lib.hid hK
    clear hK
    have hSx := Lib.cell?_alloc_some (.cells #[.int .i64 kd, .int .i64 f, .int .i64 n, .slice ad5 n5 cap5] 34) bu5.cell
    go_simp
    refine HKK.out _ _ ?_
    clear HKK K hSx
    refine wpAny_ready (rs := [10]) (by kernel_rfl) (by simp) ?_
    refine AllReady.cons rfl (fun K hK => ?_) AllReady.nil
    have HKK := Lib.hid hK
    clear hK
    refine step_append_lies _ (by rfl) _ _ _ (by rfl) w.heap.size 34 i0 _ 4 48 Tryd.underlying23 hi hz0 hz1 hz2 rfl (by omega) u ((pre.map Subtype.val).map (Dx.lnOf ts)).length (lnCells vs ((pre.map Subtype.val).map (Dx.lnOf ts))) (by rfl) (hrow5'.alloc _)
      ⟨w5.heap.size, 0, none⟩ 1 1 [.int .i64 kd, .int .i64 f, .int .i64 n, .slice ad5 n5 cap5] (by rfl) (by rfl) (news_line _ _ _ _ _ _) (by simp [Value.oneCell']) (by omega) (by unfold maxLen; omega) (by omega) (by have := hB5w.size; simp; omega) (w5.heap.size + 1) (by simp) ?_
    intro g' cap' w6 hown' hgrow hat hlt6
    obtain ⟨hv1, hv2, hr2, hk2, hb2⟩ := bu5.appended (by decide) hrow5' hB5w.size (by omega) hown' hgrow
    have hc1' := hv1.cell
    have hf1 := hv1.frozen
    refine HKK.out _ _ ?_
    clear HKK K
    refine wpAny_ready (rs := [11]) (by kernel_rfl) (by simp) ?_
    refine AllReady.cons rfl (fun K hK => ?_) AllReady.nil
    have HKK := Lib.hid hK
    clear hK
    have HR2 := Lib.hid hr2
    have HV2 := Lib.hid hv2
    have HK2 := Lib.hid hk2
    have HB2 := Lib.hid hb2
    clear hr2 hv2 hk2 hb2
    go_simp
    refine HKK.out _ _ ?_
    refine wpAny_done (by kernel_rfl) ?_ _
    have hq := HF.out w5 w6 ad5 n5 cap5 g' cap' hB5 Hn5.out hrow5 hrow5' hso5 bu5 b05 b25 hgrow hv1 HR2.out HV2.out HK2.out HB2.out
    simp only [List.length_map] at hq
    exact hq
  case done =>
    rintro D ys W hD hys ⟨⟨⟨u, vs, bu, hrow, hso⟩, _, _⟩, hB⟩ hK
    have cL := bu.cell
    rw [hys] at hrow hso
    gi_wp2
    refine ⟨by simp, .inl ⟨_, _, rfl, run_takeDeferred hK, ?_⟩⟩
    refine ⟨_, results_tmp rfl _ _ _, u, rfl, Lns.of_row (ownsRow_putObj hrow _ hK rfl) (SlO.slK (b := w.heap.size) (hso.kept (grownBy_putObj' _ D _) fun r e cur hc => by cases e; rw [hK] at hc; cases hc)), hB.trans (belowK_b (w := w) (Nat.le_refl _) W D _ _ (by omega) hK rfl rfl)⟩
  case stop =>
    rintro D c pre W _ _ h _
    exact h.elim

/-- Lines: new memory that holds just the lines of tokens. -/
theorem lines_any (v : Value) (ts : List K) (w : World) (hv : Ks w v ts) (hl : ts.length * 56 ≤ 140737488355328) (hG : Glob w) :
    Calls Tryd.prog 10 #[v] w fun e W' => ∃ u, e = .returned u ∧ Lns W' u (Dx.lines ts) ∧ Below w.heap.size w W' :=
  callsIn_wide.1 (lines_in 3 (by omega) v ts w hv hl hG)
end Go.Proofs.YtnkheejpmkflaaaDoor
