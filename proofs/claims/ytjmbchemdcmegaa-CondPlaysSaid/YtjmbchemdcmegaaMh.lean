/- What is proved: add, wrong and take, of the reader. -/
import Derived.Test.YtjmbchemdcmegaaMg
namespace Go.Proofs.Ytjmbchemdcmegaa
open Go.RowKit
open Ct Ct.T

theorem RS.c0 {W : World} {base R : Nat} {s : S} {tv iv : Value} {vs : List (Value × Value)} {cs xs : List Value} (h : RS W base R s tv iv vs cs xs) : W.cell? ⟨R, 0, none⟩ = some iv := by simp [World.cell?, h.blk]
theorem RS.c1 {W : World} {base R : Nat} {s : S} {tv iv : Value} {vs : List (Value × Value)} {cs xs : List Value} (h : RS W base R s tv iv vs cs xs) : W.cell? ⟨R, 1, none⟩ = some tv := by simp [World.cell?, h.blk]
theorem RS.fz {W : World} {base R : Nat} {s : S} {tv iv : Value} {vs : List (Value × Value)} {cs xs : List Value} (h : RS W base R s tv iv vs cs xs) (j : Nat) : W.frozen? ⟨R, j, none⟩ = false := frozen_of_row W R j _ _ h.blk
theorem row_form0 {W : World} {base e sz : Nat} {v : Value} {xs : List Value} (h : W.ownsRow base e sz v 0 xs) : ∃ a c, v = .slice a 0 c := by
  rcases h.2 with ⟨h', _⟩ | ⟨g, cap, cur, h', _⟩
  · exact ⟨_, _, h'⟩
  · exact ⟨_, _, h'⟩
theorem row_form1 {W : World} {base e sz n : Nat} {v : Value} {xs : List Value} (h : W.ownsRow base e sz v (n + 1) xs) : ∃ g c, v = .slice (some ⟨g, 0, none⟩) (n + 1) c ∧ n + 1 ≤ c ∧ (∀ j u, xs[j]? = some u → W.cell? ⟨g, j, none⟩ = some u) ∧ ∀ j, W.frozen? ⟨g, j, none⟩ = false := by
  rcases id h.2 with ⟨_, h'⟩ | ⟨g, cap, cur, rfl, h1, h2, h3, h4⟩
  · cases h'
  · refine ⟨g, cap, rfl, h3, fun j u hj => ?_, h.frozenAt⟩
    have := h.cells (g := g) rfl j u hj
    rwa [add_none, Nat.zero_add] at this
theorem RS.vnil {W : World} {base R : Nat} {out : T} {tv iv : Value} {vs : List (Value × Value)} {cs xs : List Value} (h : RS W base R (out, []) tv iv vs cs xs) : vs = [] := by
  have := h.fr
  cases vs with
  | nil => rfl
  | cons p vs => exact this.elim
theorem RS.top {W : World} {base R : Nat} {out : T} {f : Fm} {st : List Fm} {tv iv : Value} {vs : List (Value × Value)} {cs xs : List Value} (h : RS W base R (out, f :: st) tv iv vs cs xs) :
    ∃ bv lv vs' cs' bxs lxs gt tc gb bc, vs = (bv, lv) :: vs' ∧ cs = cs' ++ [.int .i64 f.line, .int .i64 0, bv, .bool f.els] ∧ FrOk W base (okb R (own tv iv ((bv, lv) :: vs'))) f bv lv bxs lxs ∧ Frs W base (okb R (own tv iv ((bv, lv) :: vs'))) cs' st vs' ∧
      tv = .slice (some ⟨gt, 0, none⟩) (st.length + 1) tc ∧ st.length + 1 ≤ tc ∧ bv = .slice (some ⟨gb, 0, none⟩) (f.dn.len + 1) bc ∧
      W.cell? ⟨gt, st.length * 4, none⟩ = some (.int .i64 f.line) ∧ W.cell? ⟨gt, st.length * 4 + 1, none⟩ = some (.int .i64 0) ∧ W.cell? ⟨gt, st.length * 4 + 2, none⟩ = some bv ∧ W.cell? ⟨gt, st.length * 4 + 3, none⟩ = some (.bool f.els) ∧ (∀ j, W.frozen? ⟨gt, j, none⟩ = false) ∧
      W.cell? ⟨gb, f.dn.len * 2 + 1, none⟩ = some lv ∧ (∀ j, W.frozen? ⟨gb, j, none⟩ = false) ∧ bv.ownBlock ≠ some gt ∧ lv.ownBlock ≠ some gb := by
  have hf := h.fr
  cases vs with
  | nil => exact hf.elim
  | cons p vs =>
    obtain ⟨bv, lv⟩ := p
    obtain ⟨cs', bxs, lxs, rfl, h1, h2⟩ := hf
    obtain ⟨gt, tc, htv, ht1, ht2, ht3⟩ := row_form1 h.trow
    obtain ⟨gb, bc, hbv, hb1, hb2, hb3⟩ := row_form1 h1.brow
    have hcl : cs'.length = st.length * 4 := Frs.length _ _ _ h2
    have hbl : bxs.length = f.dn.len * 2 := CT.length _ _ _ h1.bct
    obtain ⟨⟨a1, a2, a3, a4⟩, ⟨a5, a6, a7⟩, ⟨a8, a9⟩, a10, a11⟩ := own_pair.1 h.ap
    refine ⟨bv, lv, vs, cs', bxs, lxs, gt, tc, gb, bc, rfl, rfl, h1, h2, htv, ht1, hbv, ht2 _ _ ?_, ht2 _ _ ?_, ht2 _ _ ?_, ht2 _ _ ?_, ht3, hb2 _ _ ?_, hb3, ?_, ?_⟩
    · rw [List.getElem?_append_right (by omega), hcl, Nat.sub_self]; rfl
    · rw [List.getElem?_append_right (by omega), hcl, show st.length * 4 + 1 - st.length * 4 = 1 by omega]; rfl
    · rw [List.getElem?_append_right (by omega), hcl, show st.length * 4 + 2 - st.length * 4 = 2 by omega]; rfl
    · rw [List.getElem?_append_right (by omega), hcl, show st.length * 4 + 3 - st.length * 4 = 3 by omega]; rfl
    · rw [List.getElem?_append_right (by omega), hbl, show f.dn.len * 2 + 1 - f.dn.len * 2 = 1 by omega]; rfl
    · exact a2 gt (by rw [htv]; rfl)
    · exact a8 gb (by rw [hbv]; rfl)

/-- So many, at most. -/
def Sm (m : Nat) (s : S) : Prop := s.1.len ≤ m ∧ s.2.length ≤ m ∧ ∀ f ∈ s.2, f.dn.len ≤ m ∧ f.cur.len ≤ m
theorem Sm.mono {m m' : Nat} {s : S} (h : Sm m s) (hm : m ≤ m') : Sm m' s := ⟨by have := h.1; omega, by have := h.2.1; omega, fun f hf => by have := h.2.2 f hf; omega⟩
theorem Sm.add {m l e : Nat} {x : T} {s : S} (h : Sm m s) : Sm (m + 1) (Ct.add l e x s) := by
  obtain ⟨out, st⟩ := s
  obtain ⟨h1, h2, h3⟩ := h
  dsimp only at h1 h2 h3
  cases st with
  | nil => exact ⟨by show (out.snoc l e x).len ≤ _; rw [len_snoc]; omega, by simp [Ct.add], by simp [Ct.add]⟩
  | cons f st =>
    refine ⟨by show out.len ≤ _; omega, by simp only [Ct.add, List.length_cons] at h2 ⊢; omega, fun f' hf' => ?_⟩
    simp only [Ct.add, List.mem_cons] at hf'
    rcases hf' with rfl | hf'
    · have := h3 f (by simp); dsimp only; rw [len_snoc]; omega
    · have := h3 f' (by simp [hf']); omega
theorem Sm.take {m i : Nat} {k : Int} {s : S} (h : Sm m s) : Sm (m + 1) (Ct.take i k s) := by
  obtain ⟨out, st⟩ := s
  have h0 := h
  obtain ⟨h1, h2, h3⟩ := h
  dsimp only at h1 h2 h3
  unfold Ct.take
  split
  · refine ⟨by dsimp only; omega, by simp only [List.length_cons]; omega, fun f' hf' => ?_⟩
    simp only [List.mem_cons] at hf'
    rcases hf' with rfl | hf'
    · simp [T.len]
    · have := h3 f' hf'; omega
  · split
    · cases st with
      | nil => exact h0.mono (by omega)
      | cons f st =>
        refine ⟨by dsimp only; omega, by simp only [List.length_cons] at h2 ⊢; omega, fun f' hf' => ?_⟩
        simp only [List.mem_cons] at hf'
        rcases hf' with rfl | hf'
        · have := h3 f (by simp); dsimp only; rw [len_snoc]; simp only [T.len]; omega
        · have := h3 f' (by simp [hf']); omega
    · split
      · cases st with
        | nil => exact h0.mono (by omega)
        | cons f st => exact Sm.add ⟨h1, by simp only [List.length_cons] at h2; dsimp only; omega, fun f' hf' => h3 f' (by simp [hf'])⟩
      · exact Sm.add h0

def RSx (W : World) (base R : Nat) (s : S) : Prop := ∃ tv iv vs cs xs, RS W base R s tv iv vs cs xs
def StepPost (W : World) (base R : Nat) (s : S) (e : Ending) (w' : World) : Prop := e = .returned (.tuple #[]) ∧ RSx w' base R s ∧ Below base W w'

theorem add_any {W : World} {base R : Nat} {s : S} {tv iv sv : Value} {vs : List (Value × Value)} {cs xs : List Value} {l e m : Nat} {s' : T} (h : RS W base R s tv iv vs cs xs) (hs : TS W (okb R (own tv iv vs)) false sv s') (hm : Sm m s) (hm' : m ≤ 1000000) (hb : base ≤ W.heap.size) :
    Calls Try.prog 30 #[.pointer (some ⟨R, 0, none⟩), .agg #[.int .i64 l, .int .i64 e, sv]] W (StepPost W base R (Ct.add l e s' s)) := by
  obtain ⟨sa, sc, hsv, -⟩ := hs.form
  obtain ⟨out, st⟩ := s
  have hm1 := hm.1
  have hm2 := hm.2.1
  dsimp only at hm1 hm2
  cases st with
  | nil =>
    obtain rfl := h.vnil
    obtain ⟨a, c, rfl⟩ := row_form0 h.trow
    subst hsv
    refine (add_nil R out.len base l e _ sc sa iv xs W c a h.c1 h.c0 (h.fz 0) (h.nR _ (by simp [own])) h.irow hb (by omega)).mono ?_
    rintro e1 w' ⟨rfl, iv', W1, hG, hrow, rfl⟩
    obtain ⟨h1, h2⟩ := h.addNil hG hrow hs
    refine ⟨rfl, ⟨_, _, _, _, _, h1⟩, h2.below hb ?_⟩
    rintro k (hk | rfl)
    · exact (h.irow.lt k hk).1
    · exact h.hR
  | cons f st =>
    obtain ⟨bv, lv, vs', cs', bxs, lxs, gt, tc, gb, bc, rfl, rfl, hf, hfs, htv, ht1, hbv, c0, c1, c2, c3, c4, c5, c6, n1, n2⟩ := h.top
    have hm3 := hm.2.2 f (by simp)
    simp only [List.length_cons] at hm2
    have hc1 := h.c1
    rw [htv] at hc1
    have hc2 := c2
    rw [hbv] at hc2
    have hcall := add_top R f.cur.len base l e s'.len sc sa lv lxs W gt st.length tc gb f.dn.len bc hc1 (by omega) hc2 (by omega) c5 (c6 _) n2 hf.lrow hb (by omega)
    rw [hsv]
    refine hcall.mono ?_
    rintro e1 w' ⟨rfl, lv', W1, hG, hrow, rfl⟩
    rw [← hsv] at hrow
    obtain ⟨h1, h2⟩ := h.addTop hf hfs hG hrow hs hbv
    refine ⟨rfl, ⟨_, _, _, _, _, h1⟩, h2.below hb ?_⟩
    rintro k (hk | rfl)
    · exact (hf.lrow.lt k hk).1
    · exact (hf.brow.lt k (by rw [hbv]; rfl)).1

set_option maxRecDepth 100000 in
set_option maxHeartbeats 4000000 in
theorem wrong_any {W : World} {base R : Nat} {s : S} {tv iv : Value} {vs : List (Value × Value)} {cs xs : List Value} {m : Nat} (k : Int) (h : RS W base R s tv iv vs cs xs) (hm : Sm m s) (hm' : m ≤ 1000000) :
    Calls Try.prog 19 #[.pointer (some ⟨R, 0, none⟩), .int .i64 k] W fun e w' => e = .returned (.int .i64 (if wrong k s.2 then 50 else 0)) ∧ ∃ q, w' = W.drewN q := by
  obtain ⟨V, hV⟩ : ∃ V : Int, V = (if wrong k s.2 then 50 else 0) := ⟨_, rfl⟩
  rw [← hV]
  obtain ⟨out, st⟩ := s
  have hm2 := hm.2.1
  dsimp only at hV
  dsimp only at hm2
  have hcs : (k == 5) = true ∨ ((k == 5) = false ∧ (k == 6) = true) ∨ ((k == 5) = false ∧ (k == 6) = false ∧ (k == 7) = true) ∨ ((k == 5) = false ∧ (k == 6) = false ∧ (k == 7) = false) := by
    cases k == 5 <;> cases k == 6 <;> cases k == 7 <;> simp
  cases st with
  | nil =>
    obtain ⟨a, c, rfl⟩ := row_form0 h.trow
    have HC := Lib.hid h.c1
    have hw : ∀ b, (parts k || k == 7) = b → wrong k [] = b := fun b hb => by rw [← hb]; simp [wrong, noElse, isNil]
    rcases hcs with q1 | ⟨q1, q2⟩ | ⟨q1, q2, q3⟩ | ⟨q1, q2, q3⟩
    · obtain rfl : V = 50 := by rw [hV, hw true (by simp [parts, q1])]; rfl
      clear hw hV h
      go_enter Try.func19, Try.ntmps19
      go_wp2_with fail
      refine (top_nil R c a W HC.out).mono ?_
      rintro e w' ⟨rfl, rfl⟩
      go_wp2_with fail
      go_ret
      exact ⟨rfl, 0, rfl⟩
    · obtain rfl : V = 50 := by rw [hV, hw true (by simp [parts, q2])]; rfl
      clear hw hV h
      go_enter Try.func19, Try.ntmps19
      go_wp2_with fail
      refine (top_nil R c a W HC.out).mono ?_
      rintro e w' ⟨rfl, rfl⟩
      go_wp2_with fail
      go_ret
      exact ⟨rfl, 0, rfl⟩
    · obtain rfl : V = 50 := by rw [hV, hw true (by simp [parts, q3])]; rfl
      clear hw hV h
      go_enter Try.func19, Try.ntmps19
      go_wp2_with fail
      refine (top_nil R c a W HC.out).mono ?_
      rintro e w' ⟨rfl, rfl⟩
      go_wp2_with fail
      go_ret
      exact ⟨rfl, 0, rfl⟩
    · obtain rfl : V = 0 := by rw [hV, hw false (by simp [parts, q1, q2, q3])]; rfl
      clear hw hV h
      go_enter Try.func19, Try.ntmps19
      go_wp2_with fail
      refine (top_nil R c a W HC.out).mono ?_
      rintro e w' ⟨rfl, rfl⟩
      go_wp2_with fail
      go_ret
      exact ⟨rfl, 0, rfl⟩
  | cons f st =>
    obtain ⟨bv, lv, vs', cs', bxs, lxs, gt, tc, gb, bc, -, -, -, -, htv, -, -, -, -, -, c3, -⟩ := h.top
    simp only [List.length_cons] at hm2
    have hc1 := h.c1
    rw [htv] at hc1
    have HC := Lib.hid hc1
    have hml : st.length ≤ 1000000 := by omega
    have hw : ∀ b, (parts k && f.els) = b → wrong k (f :: st) = b := fun b hb => by rw [← hb]; simp [wrong, noElse, isNil]
    obtain ⟨els, hels⟩ : ∃ els, els = f.els := ⟨_, rfl⟩
    rw [← hels] at c3 hw
    obtain ⟨n, hn⟩ : ∃ n, n = st.length := ⟨_, rfl⟩
    rw [← hn] at c3 hml HC
    have Hn := Lib.hid hn
    have C3 := fun q => (show (W.drewN q).cell? ⟨gt, n * 4 + 3, none⟩ = some (.bool els) from c3)
    clear hels h htv hn hc1
    rcases hcs with q1 | ⟨q1, q2⟩ | ⟨q1, q2, q3⟩ | ⟨q1, q2, q3⟩
    · cases els
      · obtain rfl : V = 0 := by rw [hV, hw false (by simp)]; rfl
        clear hw hV
        go_enter Try.func19, Try.ntmps19
        go_wp2_with fail
        refine (top_cons R gt n tc W HC.out hml).mono ?_
        rintro e w' ⟨rfl, q, rfl⟩
        have c3' := C3 q
        go_wp2_with fail
        go_ret
        exact ⟨rfl, _, rfl⟩
      · obtain rfl : V = 50 := by rw [hV, hw true (by simp [parts, q1])]; rfl
        clear hw hV
        go_enter Try.func19, Try.ntmps19
        go_wp2_with fail
        refine (top_cons R gt n tc W HC.out hml).mono ?_
        rintro e w' ⟨rfl, q, rfl⟩
        have c3' := C3 q
        go_wp2_with fail
        go_ret
        exact ⟨rfl, _, rfl⟩
    · cases els
      · obtain rfl : V = 0 := by rw [hV, hw false (by simp)]; rfl
        clear hw hV
        go_enter Try.func19, Try.ntmps19
        go_wp2_with fail
        refine (top_cons R gt n tc W HC.out hml).mono ?_
        rintro e w' ⟨rfl, q, rfl⟩
        have c3' := C3 q
        go_wp2_with fail
        go_ret
        exact ⟨rfl, _, rfl⟩
      · obtain rfl : V = 50 := by rw [hV, hw true (by simp [parts, q2])]; rfl
        clear hw hV
        go_enter Try.func19, Try.ntmps19
        go_wp2_with fail
        refine (top_cons R gt n tc W HC.out hml).mono ?_
        rintro e w' ⟨rfl, q, rfl⟩
        have c3' := C3 q
        go_wp2_with fail
        go_ret
        exact ⟨rfl, _, rfl⟩
    · obtain rfl : V = 0 := by rw [hV, hw false (by simp [parts, q1, q2])]; rfl
      clear hw hV
      go_enter Try.func19, Try.ntmps19
      go_wp2_with fail
      refine (top_cons R gt n tc W HC.out hml).mono ?_
      rintro e w' ⟨rfl, q, rfl⟩
      go_wp2_with fail
      go_ret
      exact ⟨rfl, _, rfl⟩
    · obtain rfl : V = 0 := by rw [hV, hw false (by simp [parts, q1, q2])]; rfl
      clear hw hV
      go_enter Try.func19, Try.ntmps19
      go_wp2_with fail
      refine (top_cons R gt n tc W HC.out hml).mono ?_
      rintro e w' ⟨rfl, q, rfl⟩
      go_wp2_with fail
      go_ret
      exact ⟨rfl, _, rfl⟩
end Go.Proofs.Ytjmbchemdcmegaa
