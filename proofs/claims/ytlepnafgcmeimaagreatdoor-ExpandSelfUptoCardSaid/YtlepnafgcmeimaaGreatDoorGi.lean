/- What is proved: plain facts on texts made strings: what was escaped is read again; such a text is one token. (and what stands with it) -/
import Derived.Test.YtlepnafgcmeimaaGreatDoorGd
import Derived.Test.YtlepnafgcmeimaaGreatDoorGh
import Derived.Deep.RegionHeld3
import Derived.Deep.AppendLies
import Derived.IntWalk
import Derived.Deep.DeepCutAuto

/- What is proved: plain facts on texts made strings: what was escaped is read again; such a text is one token. -/
namespace Go.Proofs.YtlepnafgcmeimaaGreatDoor
namespace Gl
open Lx (tb first blankLen)

def esc (l : List UInt8) : List UInt8 := l.flatMap fun c => if c = 92 ∨ c = 34 then [92, c] else [c]
/-- What stands between the quotes says. -/
def unq : List UInt8 → Option (List UInt8)
  | [] => some []
  | [c] => if c = 34 ∨ c = 92 then none else some [c]
  | c :: d :: r => if c = 34 then none else if c = 92 then (unq r).map (d :: ·) else (unq (d :: r)).map (c :: ·)
theorem unq_cons {c : UInt8} (h1 : c ≠ 34) (h2 : c ≠ 92) (X : List UInt8) : unq (c :: X) = (unq X).map (c :: ·) := by
  cases X with
  | nil => simp [unq, h1, h2]
  | cons d r => rw [unq, if_neg h1, if_neg h2]
theorem unq_two (d : UInt8) (X : List UInt8) : unq (92 :: d :: X) = (unq X).map (d :: ·) := by
  rw [unq, if_neg (by decide), if_pos rfl]
theorem unq_esc : ∀ (l X : List UInt8), unq (esc l ++ X) = (unq X).map (l ++ ·)
  | [], X => by
    show unq X = _
    cases unq X <;> rfl
  | c :: l, X => by
    have ih := unq_esc l X
    by_cases hc : c = 92 ∨ c = 34
    · have e : esc (c :: l) = 92 :: c :: esc l := by simp [esc, hc]
      rw [e, List.cons_append, List.cons_append, unq_two, ih]
      cases unq X <;> rfl
    · have e : esc (c :: l) = c :: esc l := by simp [esc, hc]
      rw [e, List.cons_append, unq_cons (fun h => hc (.inr h)) (fun h => hc (.inl h)), ih]
      cases unq X <;> rfl
theorem unq_raw : ∀ (l X : List UInt8), (∀ c ∈ l, c ≠ 34 ∧ c ≠ 92) → unq (l ++ X) = (unq X).map (l ++ ·)
  | [], X, _ => by
    show unq X = _
    cases unq X <;> rfl
  | c :: l, X, h => by
    obtain ⟨h1, h2⟩ := h c (by simp)
    rw [List.cons_append, unq_cons h1 h2, unq_raw l X (fun x hx => h x (List.mem_cons_of_mem _ hx))]
    cases unq X <;> rfl
/-- The second quote stands at the end. -/
theorem qr_unq : ∀ (X : List UInt8), (∃ y, unq X = some y) → 10 ∉ X → Lx.qr 34 (X ++ [34]) = some (X.length + 1)
  | [], _, _ => by simp [Lx.qr]
  | [c], h, h10 => by
    obtain ⟨y, hy⟩ := h
    unfold unq at hy
    split at hy
    · cases hy
    · rename_i hc
      have h1 : c ≠ 34 := fun e => hc (.inl e)
      have h2 : c ≠ 92 := fun e => hc (.inr e)
      have h3 : c ≠ 10 := fun e => h10 (by simp [e])
      simp [Lx.qr, h1, h2, h3]
  | c :: d :: r, h, h10 => by
    obtain ⟨y, hy⟩ := h
    have h3 : c ≠ 10 := fun e => h10 (by simp [e])
    have h4 : d ≠ 10 := fun e => h10 (by simp [e])
    unfold unq at hy
    split at hy
    · cases hy
    · rename_i h1
      split at hy
      · rename_i h2
        obtain ⟨z, hz, _⟩ := Option.map_eq_some_iff.1 hy
        have ih := qr_unq r ⟨z, hz⟩ (fun h => h10 (by simp [h]))
        rw [List.cons_append, List.cons_append, Lx.qr, if_neg h3, if_neg h1, if_pos h2, if_neg h4, ih]
        simp
      · rename_i h2
        obtain ⟨z, hz, _⟩ := Option.map_eq_some_iff.1 hy
        have ih := qr_unq (d :: r) ⟨z, hz⟩ (fun h => h10 (List.mem_cons_of_mem _ h))
        rw [List.cons_append, List.cons_append, Lx.qr, if_neg h3, if_neg h1, if_neg h2, ← List.cons_append, ih]
        simp
/-- A text between quotes is one token. -/
theorem tb_quoted (X : List UInt8) (h : ∃ y, unq X = some y) (h10 : 10 ∉ X) : tb false (34 :: (X ++ [34])) = [(4, 34 :: (X ++ [34]), false)] := by
  have hq := qr_unq X h h10
  have hb : blankLen (34 :: (X ++ [34])) = 0 := by rw [Lx.blank_noslash 34 _ (by decide), if_neg (by decide)]
  have hn : Lx.numLen (34 :: (X ++ [34])) = 0 := by rw [Lx.numLen_cons, if_neg (by simp [show Lx.digit 34 = false by decide])]
  have hc : Lx.closedLen 34 (34 :: (X ++ [34])) = X.length + 2 := by rw [Lx.closedLen_cons, if_pos rfl, hq]; simp [Lx.upto]; omega
  have hf : first (34 :: (X ++ [34])) = (4, X.length + 2) := by
    rw [Lx.first_cons, hn, hc]
    simp [show Lx.letter 34 = false by decide]
  have hl : (34 :: (X ++ [34])).length = X.length + 2 := by simp
  rw [Lx.tb_tok false _ (by simp) hb, hf]
  dsimp only
  rw [List.take_of_length_le (by omega), List.drop_of_length_le (by omega), Lx.tb_nil]

/-- What is written of a token. -/
def wr (q : Bool) (t : K) : List UInt8 := if q && (t.kind == 4 || t.kind == 3) then esc t.text.data.toList else t.text.data.toList
/-- What is written of tokens: did one stand ahead, and a line end since? -/
def txt (q : Bool) : Bool → Bool → List K → List UInt8
  | _, _, [] => []
  | seen, gap, t :: r => if t.kind == 7 then txt q seen true r else ((if seen && (t.bl || gap) then [32] else []) ++ wr q t) ++ txt q true false r
/-- What a text's tokens that are no Others have. -/
def Fine (t : K) : Prop := t.kind = 7 ∨ (10 ∉ t.text.data.toList ∧ (t.kind = 3 ∨ t.kind = 4 ∨ ∀ c ∈ t.text.data.toList, c ≠ 34 ∧ c ≠ 92))
theorem txt_unq : ∀ (l : List K) (seen gap : Bool), (∀ t ∈ l, Fine t) → unq (txt true seen gap l) = some (txt false seen gap l)
  | [], _, _, _ => rfl
  | t :: r, seen, gap, h => by
    have ih := fun s g => txt_unq r s g (fun x hx => h x (List.mem_cons_of_mem _ hx))
    by_cases h7 : t.kind = 7
    · have e : (t.kind == 7) = true := by simpa using h7
      simp only [txt, e, if_true]
      exact ih seen true
    · have e : (t.kind == 7) = false := by simpa using h7
      have hf := (h t (by simp)).resolve_left h7
      simp only [txt, e, Bool.false_eq_true, if_false]
      have hw : ∀ X, unq (wr true t ++ X) = (unq X).map (t.text.data.toList ++ ·) := by
        intro X
        by_cases hk : t.kind = 3 ∨ t.kind = 4
        · have e2 : (true && (t.kind == 4 || t.kind == 3)) = true := by rcases hk with h | h <;> simp [h]
          rw [wr, if_pos e2]; exact unq_esc _ X
        · have e2 : ¬ (true && (t.kind == 4 || t.kind == 3)) = true := by simp; exact ⟨fun h => hk (.inr h), fun h => hk (.inl h)⟩
          rw [wr, if_neg e2]
          refine unq_raw _ X ?_
          rcases hf.2 with h | h | h
          · exact absurd (.inl h) hk
          · exact absurd (.inr h) hk
          · exact h
      have e3 : wr false t = t.text.data.toList := by simp [wr]
      rw [e3, List.append_assoc, List.append_assoc]
      have key : unq (wr true t ++ txt true true false r) = some (t.text.data.toList ++ txt false true false r) := by rw [hw, ih]; rfl
      by_cases hs : (seen && (t.bl || gap)) = true
      · rw [if_pos hs]
        show unq (32 :: (wr true t ++ txt true true false r)) = _
        rw [unq_cons (by decide) (by decide), key]
        rfl
      · rw [if_neg hs]
        exact key
theorem esc_no10 (l : List UInt8) (h : 10 ∉ l) : 10 ∉ esc l := by
  intro h10
  obtain ⟨c, hc, hx⟩ := List.mem_flatMap.1 h10
  split at hx
  · simp at hx; exact h (hx ▸ hc)
  · simp at hx; exact h (hx ▸ hc)
theorem txt_no10 (q : Bool) : ∀ (l : List K) (seen gap : Bool), (∀ t ∈ l, Fine t) → 10 ∉ txt q seen gap l
  | [], _, _, _ => by simp [txt]
  | t :: r, seen, gap, h => by
    have ih := fun s g => txt_no10 q r s g (fun x hx => h x (List.mem_cons_of_mem _ hx))
    by_cases h7 : t.kind = 7
    · have e : (t.kind == 7) = true := by simpa using h7
      simp only [txt, e, if_true]
      exact ih seen true
    · have e : (t.kind == 7) = false := by simpa using h7
      have hf := (h t (by simp)).resolve_left h7
      simp only [txt, e, Bool.false_eq_true, if_false]
      intro hm
      rcases List.mem_append.1 hm with hm | hm
      · rcases List.mem_append.1 hm with hm | hm
        · split at hm <;> simp at hm
        · unfold wr at hm
          split at hm
          · exact esc_no10 _ hf.1 hm
          · exact hf.1 hm
      · exact ih true false hm
/-- A text's tokens that are no Others are fine. -/
theorem tok_fine (u : List UInt8) (hu : u ≠ []) (hk : (first u).1 ≠ 6) : (first u).1 = 7 ∨ (10 ∉ u.take (first u).2 ∧ ((first u).1 = 3 ∨ (first u).1 = 4 ∨ ∀ c ∈ u.take (first u).2, c ≠ 34 ∧ c ≠ 92)) := by
  have hg := Lx.first_good u hu hk
  by_cases h7 : (first u).1 = 7
  · exact .inl h7
  · refine .inr ⟨?_, ?_⟩
    · rcases hg.2.1 with e | e
      · exfalso
        cases u with
        | nil => exact hu rfl
        | cons c r =>
          have hlen := (Lx.first_le (c :: r) hu).1
          have : c = 10 := by
            have := congrArg List.head? e
            rw [List.head?_take] at this
            simpa [show (first (c :: r)).2 ≠ 0 by omega] using this
          subst this
          rw [Lx.first_cons, if_pos rfl] at h7
          exact h7 rfl
      · exact e
    · cases u with
      | nil => exact absurd rfl hu
      | cons c r =>
        rw [Lx.first_cons] at hk h7 ⊢
        by_cases hc : c = 10
        · rw [if_pos hc] at h7; exact absurd rfl h7
        · rw [if_neg hc] at hk ⊢
          by_cases hA : Lx.letter c = true
          · rw [if_pos hA]
            refine .inr (.inr fun x hx => ?_)
            dsimp only at hx
            rw [show Lx.wordLen (c :: r) = ((c :: r).takeWhile Lx.alnum).length from rfl, Lx.takeWhile_take_len] at hx
            have h1 := Lx.mem_takeWhile _ _ x hx
            constructor
            · intro e; rw [e] at h1; revert h1; decide
            · intro e; rw [e] at h1; revert h1; decide
          · rw [if_neg hA] at hk ⊢
            by_cases hN : 0 < Lx.numLen (c :: r)
            · rw [if_pos hN]
              refine .inr (.inr fun x hx => ?_)
              dsimp only at hx
              have hx2 : x = c ∧ Lx.numc c = true ∨ x ∈ r.take (Lx.numRest r) := by
                rw [Lx.numLen_cons] at hx hN
                split at hx
                · rename_i hd
                  rw [Nat.add_comm, List.take_succ_cons] at hx
                  rcases List.mem_cons.1 hx with e | hx
                  · refine .inl ⟨e, ?_⟩
                    simp only [Bool.or_eq_true, Bool.and_eq_true, beq_iff_eq] at hd
                    rcases hd with hd | ⟨hd, _⟩
                    · simp [Lx.numc, hd]
                    · subst hd; decide
                  · exact .inr hx
                · rename_i hd
                  rw [if_neg hd] at hN; omega
              have h1 : Lx.numc x = true ∨ Lx.isSg x = true := by
                rcases hx2 with ⟨rfl, h⟩ | h
                · exact .inl h
                · exact Lx.num_mem r x h
              constructor
              · intro e; rw [e] at h1; revert h1; decide
              · intro e; rw [e] at h1; revert h1; decide
            · rw [if_neg hN] at hk ⊢
              by_cases hS : 0 < Lx.closedLen 34 (c :: r)
              · rw [if_pos hS]; exact .inr (.inl rfl)
              · rw [if_neg hS] at hk ⊢
                by_cases hQ : 2 < Lx.closedLen 39 (c :: r)
                · rw [if_pos hQ]; exact .inl rfl
                · rw [if_neg hQ] at hk ⊢
                  by_cases hP : 0 < Lx.signLen (c :: r)
                  · rw [if_pos hP]
                    refine .inr (.inr ?_)
                    dsimp only
                    have hm := Lx.sign_word (c :: r) hP
                    have hall : ∀ s ∈ Lx.signTab, ∀ x ∈ s, x ≠ 34 ∧ x ≠ 92 := by decide
                    exact hall _ hm
                  · rw [if_neg hP] at hk; exact absurd rfl hk
theorem tb_fine : ∀ (p : Bool) (u : List UInt8), (∀ t ∈ tb p u, t.1 ≠ 6) → ∀ t ∈ tb p u, t.1 = 7 ∨ (10 ∉ t.2.1 ∧ (t.1 = 3 ∨ t.1 = 4 ∨ ∀ c ∈ t.2.1, c ≠ 34 ∧ c ≠ 92)) := by
  refine Lx.tbInd ?_ ?_ ?_
  · intro p _ t ht; simp [Lx.tb_nil] at ht
  · intro p u hb ih h
    rw [Lx.tb_blank p u hb] at h ⊢
    exact ih h
  · intro p u hu hb ih h
    have ht := Lx.tb_tok p u hu hb
    rw [ht] at h ⊢
    intro t htm
    rcases List.mem_cons.1 htm with rfl | htm
    · exact tok_fine u hu (h _ List.mem_cons_self)
    · exact ih (fun t htm => h t (List.mem_cons_of_mem _ htm)) t htm
end Gl
end Go.Proofs.YtlepnafgcmeimaaGreatDoor

/- What is proved: plain facts on tokens as those of one line; what Print writes of any tokens. -/
namespace Go.Proofs.YtlepnafgcmeimaaGreatDoor
open Go.RowKit Go.Shelf

namespace Gl
/-- A token as one of a line. -/
def one (q seen gap : Bool) (t : K) : K := ⟨t.kind, ⟨(wr q t).toArray⟩, t.file, t.fr, t.en, seen && (gap || t.bl)⟩
/-- The tokens of one line: did one stand ahead, and a line end since? -/
def ln (q : Bool) : Bool → Bool → List K → List K
  | _, _, [] => []
  | seen, gap, t :: r => if t.kind = 7 then ln q seen true r else one q seen gap t :: ln q true false r
/-- What Print writes of tokens. -/
def prk (l : List K) : List UInt8 := l.flatMap fun t => (if t.bl then [32] else []) ++ t.text.data.toList
theorem prk_nil : prk [] = [] := rfl
theorem prk_cons (t : K) (r : List K) : prk (t :: r) = ((if t.bl then [32] else []) ++ t.text.data.toList) ++ prk r := by simp [prk]
theorem prk_append (a b : List K) : prk (a ++ b) = prk a ++ prk b := by simp [prk]
theorem prk_ln (q : Bool) : ∀ (l : List K) (seen gap : Bool), prk (ln q seen gap l) = txt q seen gap l
  | [], _, _ => rfl
  | t :: r, seen, gap => by
    have ih := fun s g => prk_ln q r s g
    by_cases h7 : t.kind = 7
    · have e : (t.kind == 7) = true := by simpa using h7
      rw [ln, if_pos h7, txt, if_pos e]
      exact ih seen true
    · have e : ¬ (t.kind == 7) = true := by simpa using h7
      rw [ln, if_neg h7, txt, if_neg e, prk_cons, ih true false]
      show ((if (seen && (gap || t.bl)) = true then [32] else []) ++ wr q t) ++ _ = _
      rw [Bool.or_comm gap t.bl]
theorem ln_length (q : Bool) : ∀ (l : List K) (seen gap : Bool), (ln q seen gap l).length ≤ l.length
  | [], _, _ => by simp [ln]
  | t :: r, seen, gap => by
    have ih := fun s g => ln_length q r s g
    rw [ln]
    split
    · have := ih seen true; simp; omega
    · have := ih true false; simp; omega
theorem prk_take_succ (ts : List K) (k : Nat) (t : K) (h : ts[k]? = some t) : prk (ts.take (k + 1)) = prk (ts.take k) ++ ((if t.bl then [32] else []) ++ t.text.data.toList) := by
  obtain ⟨hk, e⟩ := List.getElem?_eq_some_iff.1 h
  rw [List.take_succ_eq_append_getElem hk, prk_append, e, prk_cons, prk_nil, List.append_nil]
theorem prk_take_le (ts : List K) (k : Nat) : (prk (ts.take k)).length ≤ (prk ts).length := by
  have := prk_append (ts.take k) (ts.drop k)
  rw [List.take_append_drop] at this
  rw [this]; simp
end Gl

set_option maxRecDepth 100000 in
set_option maxHeartbeats 4000000 in
theorem printk_any (v : Value) (ts : List K) (w : World) (hv : Ks w v ts) (hl : ts.length ≤ 1000000000) (hp : (Gl.prk ts).length ≤ 1000000000) :
    Calls Tryz.prog 96 #[v] w fun e w' => e = .returned (.string ⟨(Gl.prk ts).toArray⟩) ∧ Below w.heap.size w w' := by
  obtain ⟨ad, cap, rfl, -⟩ := id hv
  rcases Nat.eq_zero_or_pos ts.length with h0 | hpos
  · obtain rfl : ts = [] := List.length_eq_zero_iff.1 h0
    clear hv
    go_enter Tryz.func96, Tryz.ntmps96
    go_wp2_with fail
    go_loopw [8] (fun i wr => i = .int .i64 0 ∧ Bld w.heap.size [] wr ∧ Below w.heap.size w wr) (fun _ _ => 0)
    case atStart => exact ⟨rfl, Bld.new w, (Below.refl _ w).alloc (Nat.le_refl _) _⟩
    case round =>
      obtain ⟨rfl, hb, hB⟩ := hrel
      go_wp2_with fail
      refine (bstring_any w.heap.size w.heap.size [] _ hb hB.size).mono ?_
      rintro e W1 ⟨rfl, b1⟩
      go_wp2_with fail
      go_ret
      exact ⟨rfl, hB.trans b1⟩
  · obtain ⟨g, o, rfl, -, hcap, hmax, hg, hc⟩ := hv.cells hpos
    unfold maxLen at hmax
    obtain ⟨n, hn⟩ : ∃ n, n = ts.length := ⟨_, rfl⟩
    rw [← hn] at hl hcap hpos
    rw [← hn]
    obtain ⟨X, hX⟩ : ∃ X, X = Gl.prk ts := ⟨_, rfl⟩
    rw [← hX] at hp ⊢
    have HXx := Lib.hid hX
    have Hn := Lib.hid hn
    have HC := Lib.hid hc
    clear hn hc hv hX
    go_enter Tryz.func96, Tryz.ntmps96
    go_wp2_with fail
    go_loopw [8] (fun i wr => ∃ k : Nat, i = .int .i64 k ∧ k ≤ n ∧ Bld w.heap.size (Gl.prk (ts.take k)) wr ∧ Below w.heap.size w wr) (fun i _ => n - (intOf i).toNat)
    case atStart => exact ⟨0, rfl, Nat.zero_le _, Bld.new w, (Below.refl _ w).alloc (Nat.le_refl _) _⟩
    case round =>
      obtain ⟨k, rfl, hk, hb, hB⟩ := hrel
      have hsB := hB.size
      by_cases hlt : k < n
      · obtain ⟨t, ht⟩ : ∃ t, ts[k]? = some t := ⟨_, List.getElem?_eq_getElem (by rw [← Hn.out]; exact hlt)⟩
        obtain ⟨d0, d1, d2, d3, d4, d5⟩ := (HC.out k t ht).below hB hg
        have hst := Gl.prk_take_succ ts k t ht
        have hle := Gl.prk_take_le ts (k + 1)
        rw [← HXx.out, hst] at hle
        obtain ⟨A, hA⟩ : ∃ A, A = Gl.prk (ts.take k) := ⟨_, rfl⟩
        rw [← hA] at hb hst hle
        simp only [List.length_append] at hle
        obtain ⟨Tx, hTx⟩ : ∃ Tx : ByteArray, Tx = t.text := ⟨_, rfl⟩
        have hTl : Tx.data.toList = t.text.data.toList := by rw [hTx]
        have hTs : Tx.size = t.text.data.toList.length := by rw [hTx, size_list]
        rw [← hTx] at d1
        have hlA : A.length ≤ 1000000000 := by omega
        have hlT : Tx.size ≤ 1000000000 := by rw [hTs]; omega
        have HT := Lib.hid hTl
        have HS := Lib.hid hst
        have hz : w.heap.size < wr.heap.size := hb.lt
        clear ht hst hA hTx hTl hTs hle
        cases hbl : t.bl with
        | true =>
          rw [hbl] at d5
          have HBl := Lib.hid hbl
          clear hbl
          go_wp2_with fail
          refine (wbyte_keep w.heap.size A 32 _ (hb.alloc _) (by omega)).mono ?_
          rintro e W1 ⟨rfl, b1, hB1, hK1⟩
          have x1 : W1.cell? ⟨wr.heap.size, 1, none⟩ = some (.string Tx) := hK1.cell (o := 1) (by omega) (by decide) (heap_alloc_new wr _)
          go_wp2_with fail
          refine (wstring_any w.heap.size (A ++ [32]) Tx _ b1 (by simp; omega) (by omega)).mono ?_
          rintro e W2 ⟨rfl, b2, hB2⟩
          go_wp2_with fail
          go_roundw
          case rel => exact ⟨k + 1, by go_num, by omega, by rw [HS.out, HBl.out, ← HT.out]; simpa using b2, ((hB.alloc hsB _).trans hB1).trans hB2⟩
          case measure => simp [intOf]; omega
        | false =>
          rw [hbl] at d5
          have HBl := Lib.hid hbl
          clear hbl
          go_wp2_with fail
          refine (wstring_any w.heap.size A Tx _ (hb.alloc _) (by omega) (by omega)).mono ?_
          rintro e W2 ⟨rfl, b2, hB2⟩
          go_wp2_with fail
          go_roundw
          case rel => exact ⟨k + 1, by go_num, by omega, by rw [HS.out, HBl.out, ← HT.out]; simpa using b2, (hB.alloc hsB _).trans hB2⟩
          case measure => simp [intOf]; omega
      · go_wp2_with fail
        refine (bstring_any w.heap.size w.heap.size _ _ hb hB.size).mono ?_
        rintro e W1 ⟨rfl, b1⟩
        go_wp2_with fail
        go_ret
        refine ⟨?_, hB.trans b1⟩
        rw [List.take_of_length_le (by rw [← Hn.out]; omega), ← HXx.out]
        rfl
end Go.Proofs.YtlepnafgcmeimaaGreatDoor

/- What is proved: what Tokens tells of any text: its tokens, in new memory. -/
namespace Go.Proofs.YtlepnafgcmeimaaGreatDoor
open Go.RowKit Go.Shelf
open Lx (T)

theorem extract_list (s : ByteArray) (a b : Nat) : s.extract a b = ⟨((s.data.toList.drop a).take (b - a)).toArray⟩ := by
  apply ByteArray.ext
  apply Array.toList_inj.1
  rw [Lib.extract_data]

theorem row_below {W W' : World} {base e sz n : Nat} {v : Value} {cs : List Value} (h : W.ownsRow base e sz v n cs) (hb : Below W.heap.size W W') : W'.ownsRow base e sz v n cs := by
  refine ⟨h.1, ?_⟩
  rcases h.2 with h' | ⟨g, cap, cur, h', h1, h2, h3⟩
  · exact .inl h'
  · exact .inr ⟨g, cap, cur, h', h1, (hb.block g (Array.getElem?_eq_some_iff.1 h2).1).trans h2, h3⟩

set_option maxRecDepth 100000 in
set_option maxHeartbeats 8000000 in
theorem tokens_any (f : Int) (s : ByteArray) (hs : s.size ≤ 1000000000) (w : World) (hG : Glob w) :
    Calls Tryz.prog 9 #[.int .i64 f, .string s] w (ToksPost w f (Lx.tk false (Sp.left 0 s.data.toList))) := by
  obtain ⟨i0, hi, hz0, hz1, hz2⟩ := info_parts infoTok
  have HG := Lib.hid hG
  clear hG
  have hll := Sp.left_le 0 s.data.toList
  rw [size_list] at hll
  obtain ⟨l, hl⟩ : ∃ l, l = Sp.left 0 s.data.toList := ⟨_, rfl⟩
  rw [← hl] at hll ⊢
  have HL := Lib.hid hl
  have HP : Hid (∀ x ∈ l, x.2 < s.size) := Lib.hid (fun x hx => by rw [hl] at hx; have := Sp.left_lt hx; rw [size_list] at this; omega)
  clear hl
  go_enter Tryz.func9, Tryz.ntmps9
  go_wp2_with fail
  refine (join_any s (by omega) _ HG.out).mono ?_
  rintro e w1 ⟨cv, rfl, hcv, hB1⟩
  rw [← HL.out] at hcv
  obtain ⟨ad, cap, rfl, hc1, hc2, -⟩ := id hcv
  unfold maxLen at hc2
  go_wp2_with fail
  refine (text_any _ l _ hcv (by omega)).mono ?_
  rintro e w2 ⟨rfl, hB2⟩
  replace hcv := hcv.below hB2
  replace hB2 : Below w.heap.size w w2 := Below.trans hB1 (hB2.mono hB1.size)
  have hG2 := Lib.hid (HG.out.later hB2)
  obtain ⟨S, hS⟩ : ∃ S : ByteArray, S = ⟨(l.map Prod.fst).toArray⟩ := ⟨_, rfl⟩
  have hSl : S.data.toList = Lx.bytes l := by rw [hS]; rfl
  have hSz : S.size = l.length := by rw [hS, mk_size]; simp
  rw [← hS]
  rw [← hSz] at hll hc1 hcv ⊢
  have Hn := Lib.hid hSz
  have HS := Lib.hid hSl
  have HC := Lib.hid hcv
  have HB2 := Lib.hid hB2
  clear hS hSl hSz hcv hB1 hB2
  go_wp2_with fail
  go_loopw [7, 8, 9] (fun o p a wr => ∃ (k : Nat) (P : Bool) (acc : List T), a = .int .i64 k ∧ p = .bool P ∧ Sofar l k P acc ∧ wr.ownsRow w2.heap.size 30 6 o acc.length (tokCells f acc) ∧ Below w2.heap.size w2 wr) (fun _ _ a _ => S.size - (intOf a).toNat)
  case atStart => exact ⟨0, false, [], rfl, rfl, sofar_start _, World.ownsRow_nil _ _ _ _, Below.refl _ _⟩
  case round =>
    obtain ⟨k, P, acc, rfl, rfl, hsf, hrow, hB⟩ := hrel
    have hkl := hsf.1
    have hal := hsf.2.1
    rw [← Hn.out] at hkl
    by_cases hlt : k < S.size
    · have hlt' : k < l.length := by rw [← Hn.out]; exact hlt
      obtain ⟨B, hBk⟩ : ∃ B, B = Lx.blankLen (Lx.bytes (l.drop k)) := ⟨_, rfl⟩
      have HBk := Lib.hid hBk
      have hGr := Lib.hid (hG2.out.later hB)
      by_cases hb : 0 < B
      · obtain ⟨h1, h2⟩ := sofar_blank hsf (by rw [← hBk]; exact hb)
        rw [← hBk, ← Hn.out] at h1
        rw [← hBk] at h2
        clear hBk
        go_wp2_with fail
        refine (blank_any _ (by simp; omega) (by simp; omega) _ hGr.out).mono ?_
        rintro e w' ⟨rfl, rfl⟩
        rw [Lib.extract_to_end, HS.out, ← Lx.bytes_drop, ← HBk.out]
        go_wp2_with fail
        go_roundw
        case rel => exact ⟨k + B, true, acc, by go_num, rfl, h2, hrow, hB⟩
        case measure => simp [intOf]; omega
      · have hb0 : B = 0 := by omega
        obtain ⟨h1, h2, h3⟩ := sofar_tok hsf hlt' (by rw [← hBk]; exact hb0)
        obtain ⟨q, hq⟩ : ∃ q, q = Lx.first (Lx.bytes (l.drop k)) := ⟨_, rfl⟩
        obtain ⟨t, ht⟩ : ∃ t, t = Lx.tokAt P (l.drop k) := ⟨_, rfl⟩
        have htk : t.kind = q.1 := by rw [ht, hq]; rfl
        have htt : t.text = (Lx.bytes (l.drop k)).take q.2 := by rw [ht, hq]; rfl
        have htb : t.bl = P := by rw [ht]; rfl
        have htf : t.fr = (l.getD k (0, 0)).2 := by rw [ht]; unfold Lx.tokAt; simp [List.getD_eq_getElem?_getD]
        have hto : t.to = (l.getD (k + (q.2 - 1)) (0, 0)).2 + 1 := by rw [ht, hq]; unfold Lx.tokAt; simp [List.getD_eq_getElem?_getD]
        rw [← hq] at h1 h2 h3
        rw [← ht] at h3
        rw [← Hn.out] at h2
        obtain ⟨kd, m⟩ := q
        dsimp only at h1 h2 h3 htk htt hto
        have hxk : l[k]? = some (l.getD k (0, 0)) := by rw [List.getD_eq_getElem?_getD, List.getElem?_eq_getElem hlt']; rfl
        have hjl : k + (m - 1) < l.length := by rw [← Hn.out]; omega
        have hxj : l[k + (m - 1)]? = some (l.getD (k + (m - 1)) (0, 0)) := by rw [List.getD_eq_getElem?_getD, List.getElem?_eq_getElem hjl]; rfl
        have hpj := HP.out _ (List.mem_of_getElem? hxj)
        obtain ⟨g, o, had, -, -, -, hg, hcell⟩ := HC.out.cells (by omega)
        have c1 := (hcell k _ hxk).2
        have c2 := (hcell _ _ hxj).2
        rw [← htf] at c1
        obtain ⟨tl, htl⟩ : ∃ tl, tl = (l.getD (k + (m - 1)) (0, 0)).2 := ⟨_, rfl⟩
        rw [← htl] at c2 hto hpj
        subst had
        have HQ := Lib.hid hq
        have H3 := Lib.hid h3
        have HTk := Lib.hid htk
        have HTt := Lib.hid htt
        have HTo := Lib.hid hto
        have HTb := Lib.hid htb
        obtain ⟨j, hj⟩ : ∃ j, j = k + (m - 1) := ⟨_, rfl⟩
        rw [← hj] at c2
        have Hj := Lib.hid hj
        obtain ⟨fr, hfr⟩ : ∃ fr, fr = t.fr := ⟨_, rfl⟩
        rw [← hfr] at c1
        have HFr := Lib.hid hfr
        clear hq ht htk htt htb htf hto h3 hxk hjl hxj hcell htl hBk hfr hsf hj
        go_wp2_with fail
        refine (blank_any _ (by simp; omega) (by simp; omega) _ hGr.out).mono ?_
        rintro e w' ⟨rfl, rfl⟩
        rw [Lib.extract_to_end, HS.out, ← Lx.bytes_drop, ← HBk.out]
        go_wp2_with fail
        refine (first_any _ (by simp; omega) (by simp; omega) _ hGr.out).mono ?_
        rintro e w3 ⟨rfl, hB3⟩
        rw [Lib.extract_to_end, HS.out, ← Lx.bytes_drop, ← HQ.out]
        replace hrow := row_below hrow hB3
        replace hB3 : Below w2.heap.size w2 w3 := hB.trans (hB3.mono hB.size)
        have d1 : w3.cell? ⟨g, o + k * 2 + 1, none⟩ = some (.int .i64 fr) := (hB3.cell (p := ⟨g, o + k * 2 + 1, none⟩) hg).trans c1
        have d2 : w3.cell? ⟨g, o + j * 2 + 1, none⟩ = some (.int .i64 tl) := (hB3.cell (p := ⟨g, o + j * 2 + 1, none⟩) hg).trans c2
        clear hB c1 c2
        go_wp2_with fail
        have ag : u7.ownBlock ≠ some g := fun e => by have := (hrow.lt g e).1; omega
        have hw3 := hB3.size
        have z0 : (0 : Int) ≤ k := by omega
        have z1 : (k : Int) < S.size := by omega
        have z2 : (k : Int) ≤ (k : Int) + m := by omega
        have z3 : (k : Int) + m ≤ S.size := by omega
        have z4 : (0 : Int) ≤ (j : Int) := by omega
        have z5 : (j : Int) < S.size := by have := Hj.out; omega
        have z6 : (0 : Int) ≤ (k : Int) + m := by omega
        have hbb : (acc.length + 1) * 56 ≤ 140737488355328 := by omega
        have hmx : acc.length + 1 ≤ maxLen := by unfold maxLen; omega
        have e4 : ((k : Int) + m).toNat = k + m := by omega
        have e1 : IntKind.i64.wrap ((k : Int) + m) = (k : Int) + m := IntWalk.i64_in _ (by omega)
        have e2 : IntKind.i64.wrap ((k : Int) + m - 1) = (j : Int) := by rw [IntWalk.i64_in _ (by omega)]; have := Hj.out; omega
        have e3 : IntKind.i64.wrap ((tl : Int) + 1) = (tl : Int) + 1 := IntWalk.i64_in _ (by omega)
        go_region_held3 (fun w' => w'.cell? ⟨g, o + k * 2 + 1, none⟩ = some (.int .i64 fr) ∧ w'.cell? ⟨g, o + j * 2 + 1, none⟩ = some (.int .i64 tl))
          (first
            | go_keep
            | (go_split_ands
               refine ⟨?_, ?_⟩
               · (rw [hgrow.cell_far _ (by simp; omega) (Ne.symm ag)]; assumption)
               · (rw [hgrow.cell_far _ (by simp; omega) (Ne.symm ag)]; assumption)))
          ((refine step_append_lies _ (by rfl) _ _ _ (by rfl) w2.heap.size 30 i0 _ 6 56 Tryz.underlying27 hi hz0 hz1 hz2 rfl (by omega) u7 acc.length (tokCells f acc) (by rfl) ((hrow.alloc _).drew)
              ⟨w3.heap.size, 0, none⟩ 1 1 [.int .i64 kd, .string (S.extract k (k + m)), .int .i64 f, .int .i64 fr, .int .i64 ((tl : Int) + 1), .bool P] (by rfl) (by rfl) (World.news_of_block (cs := #[.int .i64 kd, .string (S.extract k (k + m)), .int .i64 f, .int .i64 fr, .int .i64 ((tl : Int) + 1), .bool P]) (t := 30) (fr := (0, 0)) (heap_alloc_new w3 _)) (by simp [Value.oneCell'])
              (by omega) hmx hbb (by simp; omega) (w3.heap.size + 1) (by simp) ?_; intro gg cap' w4 hown1 hgrow hat hlt4))
        clear e1 e2 e3 e4
        go_wp2_with fail
        go_roundw
        case rel =>
          refine ⟨k + m, false, acc ++ [t], by go_num, rfl, H3.out, ?_, ?_⟩
          · have hx : S.extract k (k + m) = ⟨t.text.toArray⟩ := by rw [extract_list, HS.out, ← Lx.bytes_drop, HTt.out, show k + m - k = m by omega]
            have hc : tokCells f (acc ++ [t]) = tokCells f acc ++ [.int .i64 kd, .string (S.extract k (k + m)), .int .i64 f, .int .i64 fr, .int .i64 ((tl : Int) + 1), .bool P] := by
              rw [tokCells_append, hx, HFr.out, show ((tl : Int) + 1) = ((t.to : Nat) : Int) by rw [HTo.out]; rfl, ← HTb.out, ← HTk.out]
              simp [tokCells, cellsOne]
            rw [hc, List.length_append]
            exact hown1
          · exact ((hB3.alloc hw3 _).drew).grown hgrow (by simp; omega) (fun i ei => (hrow.lt i ei).1)
        case measure => simp [intOf]; omega
    · have he := sofar_end hsf (by rw [← Hn.out]; omega)
      go_wp2_with fail
      go_ret
      rw [← he]
      exact ⟨_, rfl, Toks.of_row hrow, HB2.out.trans (hB.mono HB2.out.size)⟩
end Go.Proofs.YtlepnafgcmeimaaGreatDoor

/- What is proved: what the document's own is, blank, word, number, quoted, sign and next tell of a text at a place. -/
namespace Go.Proofs.YtlepnafgcmeimaaGreatDoor
open Go.RowKit Go.Shelf

theorem ba_beq (a b : ByteArray) : (a.toList == b.toList) = decide (a = b) := by
  rw [Bool.eq_iff_iff, beq_iff_eq, decide_eq_true_iff, Lib.toList_data, Lib.toList_data]
  constructor
  · intro e
    apply ByteArray.ext
    exact Array.toList_inj.1 e
  · intro e; rw [e]
theorem is_pre (s p : ByteArray) (i : Nat) : p.data.toList.isPrefixOf (s.data.toList.drop i) = decide (s.extract i (i + p.size) = p) := by
  rw [Bool.eq_iff_iff, List.isPrefixOf_iff_prefix, List.prefix_iff_eq_take, decide_eq_true_iff, extract_list, size_list, show i + p.size - i = p.size by omega]
  constructor
  · intro e
    apply ByteArray.ext
    apply Array.toList_inj.1
    rw [← e]
  · intro e
    exact (congrArg (fun b : ByteArray => b.data.toList) e).symm
theorem is_short (s p : ByteArray) (i : Nat) (h : ¬ i + p.size ≤ s.size) (hp : 0 < p.size) : p.data.toList.isPrefixOf (s.data.toList.drop i) = false := by
  refine pre_no _ _ ?_
  rw [List.length_drop, size_list, size_list]; omega

theorem isBl_range (c : UInt8) : Lx.isBl c = (((c.toNat : Int) == 32) || ((c.toNat : Int) == 9) || (decide (11 ≤ (c.toNat : Int)) && decide ((c.toNat : Int) ≤ 13))) := by
  rw [isBl_int, Bool.eq_iff_iff]
  simp
  omega
/-- Where what begins at k ends; i, if it is not closed. -/
def cend (i k : Nat) : Option Nat → Nat
  | none => i
  | some m => k + m + 2
theorem clos_hit (l : List UInt8) (h : [42, 47].isPrefixOf l = true) : Lx.clos l = some 0 := by
  match l, h with
  | c :: d :: r, h =>
    have e : Lx.clos (c :: d :: r) = if c = 42 ∧ d = 47 then some 0 else (Lx.clos (d :: r)).map (· + 1) := rfl
    simp only [List.isPrefixOf, Bool.and_true, Bool.and_eq_true, beq_iff_eq] at h
    rw [e, if_pos ⟨h.1.symm, h.2.symm⟩]
  | [c], h => simp [List.isPrefixOf] at h
  | [], h => simp [List.isPrefixOf] at h
theorem clos_on (c : UInt8) (r : List UInt8) (h : [42, 47].isPrefixOf (c :: r) = false) : Lx.clos (c :: r) = (Lx.clos r).map (· + 1) := by
  match r, h with
  | [], _ => rfl
  | d :: r, h =>
    have e : Lx.clos (c :: d :: r) = if c = 42 ∧ d = 47 then some 0 else (Lx.clos (d :: r)).map (· + 1) := rfl
    rw [e, if_neg]
    rintro ⟨rfl, rfl⟩
    simp [List.isPrefixOf] at h
theorem cend_map (i k : Nat) (o : Option Nat) : cend i k (o.map (· + 1)) = cend i (k + 1) o := by
  cases o with
  | none => rfl
  | some m => simp [cend]; omega
theorem pre_two (a b : UInt8) (l : List UInt8) (h : [a, b].isPrefixOf l = true) : ∃ r, l = a :: b :: r := by
  obtain ⟨r, e⟩ := List.isPrefixOf_iff_prefix.1 h
  exact ⟨r, e.symm⟩
theorem comment_line (l : List UInt8) (h : [47, 47].isPrefixOf l = true) : Lx.commentLen l = Lx.lineLen l := by
  obtain ⟨r, rfl⟩ := pre_two _ _ _ h
  rw [Lx.commentLen_cons, if_pos ⟨rfl, rfl⟩]
theorem comment_block (l : List UInt8) (h : [47, 42].isPrefixOf l = true) (i : Nat) : 2 ≤ l.length ∧ i + Lx.commentLen l = cend i (i + 2) (Lx.clos (l.drop 2)) := by
  obtain ⟨r, rfl⟩ := pre_two _ _ _ h
  refine ⟨by simp, ?_⟩
  rw [Lx.commentLen_cons, if_neg (by decide), if_pos ⟨rfl, rfl⟩, List.drop_succ_cons, List.drop_succ_cons, List.drop_zero]
  cases Lx.clos r with
  | none => rfl
  | some m => simp [Lx.upto, cend]; omega
theorem comment_no (l : List UInt8) (h1 : [47, 47].isPrefixOf l = false) (h2 : [47, 42].isPrefixOf l = false) : Lx.commentLen l = 0 := by
  match l, h1, h2 with
  | [], _, _ => rfl
  | [c], _, _ => rfl
  | c :: d :: r, h1, h2 =>
    rw [Lx.commentLen_cons, if_neg, if_neg]
    · rintro ⟨rfl, rfl⟩; simp [List.isPrefixOf] at h2
    · rintro ⟨rfl, rfl⟩; simp [List.isPrefixOf] at h1
theorem line_yes (c : UInt8) (r : List UInt8) (h : c ≠ 10) : Lx.lineLen (c :: r) = 1 + Lx.lineLen r := by
  unfold Lx.lineLen
  rw [List.takeWhile_cons, if_pos (by simpa using h)]; simp; omega
theorem line_no (r : List UInt8) : Lx.lineLen (10 :: r) = 0 := by
  unfold Lx.lineLen
  rw [List.takeWhile_cons, if_neg (by simp)]; rfl

/-- How long the name is with which a text begins, 0 if it begins with none. -/
def rword : List UInt8 → Nat
  | [] => 0
  | c :: r => if Lx.letter c then Lx.wordLen (c :: r) else 0
theorem rword_cons (c : UInt8) (r : List UInt8) : rword (c :: r) = if Lx.letter c then Lx.wordLen (c :: r) else 0 := rfl

end Go.Proofs.YtlepnafgcmeimaaGreatDoor

/- What is proved: what the document's own number and quoted tell of a text at a place. -/
namespace Go.Proofs.YtlepnafgcmeimaaGreatDoor
open Go.RowKit Go.Shelf

theorem expo_cons (s : ByteArray) (k : Nat) (h : k + 1 < s.size) : expo (s.data.toList.drop k) = (Lx.isE s[k] && Lx.isSg s[k + 1]) := by
  rw [drop_at s k (by omega), drop_at s (k + 1) h]; rfl
theorem expo_last (s : ByteArray) (k : Nat) (h : ¬ k + 1 < s.size) : expo (s.data.toList.drop k) = false := by
  have hl : (s.data.toList.drop k).length < 2 := by rw [List.length_drop, size_list]; omega
  match s.data.toList.drop k, hl with
  | [], _ => rfl
  | [c], _ => rfl
theorem isE_letter (c : UInt8) (h : Lx.isE c = true) : Lx.letter c = true := by
  rw [isE_int] at h
  rw [letter_int]
  simp at h ⊢
  omega

/-- Does a sign stand behind a place? -/
def sgAt (s : ByteArray) (k : Nat) : Bool := if h : k + 1 < s.size then Lx.isSg s[k + 1] else false
theorem expo_sg (s : ByteArray) (k : Nat) (h : k < s.size) : expo (s.data.toList.drop k) = (Lx.isE s[k] && sgAt s k) := by
  unfold sgAt
  by_cases h2 : k + 1 < s.size
  · rw [dif_pos h2, expo_cons s k h2]
  · rw [dif_neg h2, expo_last s k h2, Bool.and_false]
theorem sg_cases (s : ByteArray) (k : Nat) : (sgAt s k = false ∧ ¬ k + 1 < s.size) ∨ (sgAt s k = true ∧ ∃ h : k + 1 < s.size, ((s[k + 1].toNat : Int) == 43) = true) ∨
    (sgAt s k = true ∧ ∃ h : k + 1 < s.size, ((s[k + 1].toNat : Int) == 43) = false ∧ ((s[k + 1].toNat : Int) == 45) = true) ∨ (sgAt s k = false ∧ ∃ h : k + 1 < s.size, ((s[k + 1].toNat : Int) == 43) = false ∧ ((s[k + 1].toNat : Int) == 45) = false) := by
  unfold sgAt
  by_cases h2 : k + 1 < s.size
  · rw [dif_pos h2]
    have hsg := isSg_int s[k + 1]
    rw [hsg]
    cases h3 : ((s[k + 1].toNat : Int) == 43) with
    | true => exact .inr (.inl ⟨rfl, h2, h3⟩)
    | false =>
      cases h4 : ((s[k + 1].toNat : Int) == 45) with
      | true => exact .inr (.inr (.inl ⟨rfl, h2, h3, h4⟩))
      | false => exact .inr (.inr (.inr ⟨rfl, h2, h3, h4⟩))
  · rw [dif_neg h2]
    exact .inl ⟨rfl, h2⟩

theorem isE_cases (c : UInt8) (h : Lx.isE c = true) : ((c.toNat : Int) == 101) = true ∨ (((c.toNat : Int) == 101) = false ∧ ((c.toNat : Int) == 69) = true) ∨ (((c.toNat : Int) == 101) = false ∧ ((c.toNat : Int) == 69) = false ∧ ((c.toNat : Int) == 112) = true) ∨
    (((c.toNat : Int) == 101) = false ∧ ((c.toNat : Int) == 69) = false ∧ ((c.toNat : Int) == 112) = false ∧ ((c.toNat : Int) == 80) = true) := by
  rw [isE_int] at h
  revert h
  cases ((c.toNat : Int) == 101) <;> cases ((c.toNat : Int) == 69) <;> cases ((c.toNat : Int) == 112) <;> cases ((c.toNat : Int) == 80) <;> simp
theorem isE_none (c : UInt8) (h : Lx.isE c = false) : ((c.toNat : Int) == 101) = false ∧ ((c.toNat : Int) == 69) = false ∧ ((c.toNat : Int) == 112) = false ∧ ((c.toNat : Int) == 80) = false := by
  rw [isE_int] at h
  revert h
  cases ((c.toNat : Int) == 101) <;> cases ((c.toNat : Int) == 69) <;> cases ((c.toNat : Int) == 112) <;> cases ((c.toNat : Int) == 80) <;> simp
theorem numc_cases (c : UInt8) : (Lx.numc c = true ∧ (Lx.letter c = true ∨ (Lx.letter c = false ∧ Lx.digit c = true) ∨ (Lx.letter c = false ∧ Lx.digit c = false ∧ ((c.toNat : Int) == 46) = true))) ∨ (Lx.numc c = false ∧ Lx.letter c = false ∧ Lx.digit c = false ∧ ((c.toNat : Int) == 46) = false) := by
  rw [numc_parts]
  cases Lx.letter c <;> cases Lx.digit c <;> cases ((c.toNat : Int) == 46) <;> simp

/-- The round of number, from a place on: what it leaves is told. -/
theorem num_step (s : ByteArray) (i k R : Nat) (hk : i + k < s.size) (he : R = k + Lx.numRest (s.data.toList.drop (i + k))) :
    (expo (s.data.toList.drop (i + k)) = true → i + k + 2 ≤ s.size ∧ R = (k + 2) + Lx.numRest (s.data.toList.drop (i + (k + 2)))) ∧
    (expo (s.data.toList.drop (i + k)) = false → Lx.numc s[i + k] = true → R = (k + 1) + Lx.numRest (s.data.toList.drop (i + (k + 1)))) ∧
    (expo (s.data.toList.drop (i + k)) = false → Lx.numc s[i + k] = false → R = k) := by
  refine ⟨fun hx => ?_, fun hx hc => ?_, fun hx hc => ?_⟩
  · obtain ⟨h2, hn⟩ := num_two _ hx
    rw [List.length_drop, size_list] at h2
    rw [List.drop_drop] at hn
    refine ⟨by omega, ?_⟩
    rw [he, hn, show i + (k + 2) = i + k + 2 by omega]; omega
  · rw [drop_at s (i + k) hk] at hx he
    rw [he, num_one _ _ hx hc, show i + (k + 1) = i + k + 1 by omega]; omega
  · rw [drop_at s (i + k) hk] at hx he
    rw [he, num_no _ _ hx hc]; rfl

end Go.Proofs.YtlepnafgcmeimaaGreatDoor

/- What is proved: what the document's own quoted and sign tell of a text at a place. -/
namespace Go.Proofs.YtlepnafgcmeimaaGreatDoor
open Go.RowKit Go.Shelf

/-- How long what stands between two quotes is, nothing between single ones being none. -/
def rq (q : UInt8) (l : List UInt8) : Nat := if q = 39 ∧ Lx.closedLen q l = 2 then 0 else Lx.closedLen q l

/-- A slice of texts. -/
def Strs (W : World) (b : Nat) (L : List (List UInt8)) : Prop := ∀ k x, L[k]? = some x → W.cell? ⟨b, k, none⟩ = some (.string ⟨x.toArray⟩)
theorem any_take_succ (L : List (List UInt8)) (l : List UInt8) (k : Nat) (h : k < L.length) : (L.take (k + 1)).any (·.isPrefixOf l) = ((L.take k).any (·.isPrefixOf l) || L[k].isPrefixOf l) := by
  rw [List.take_succ_eq_append_getElem h, List.any_append]; simp

end Go.Proofs.YtlepnafgcmeimaaGreatDoor

/- What is proved: what the document's own next and Tokens tell. -/
namespace Go.Proofs.YtlepnafgcmeimaaGreatDoor
open Go.RowKit Go.Shelf
open Lx (T)

end Go.Proofs.YtlepnafgcmeimaaGreatDoor

/- What is proved: what the document's own Tokens tells of any text. -/
namespace Go.Proofs.YtlepnafgcmeimaaGreatDoor
open Go.RowKit Go.Shelf
open Lx (T)

end Go.Proofs.YtlepnafgcmeimaaGreatDoor

/- What is proved: equality of tokens, as the model runs it. -/
namespace Go.Proofs.YtlepnafgcmeimaaGreatDoor
open Go.RowKit Go.Shelf
open Lx (T)

theorem stoodTok : Tryz.prog.stoodInHeld 30 = false := by kernel_rfl
theorem partT0 (a b c d e f : Value) (w : World) : (part 3 #[a, b, c, d, e, f] 0).run Tryz.prog w = .ok a w := by kernel_rfl
theorem partT1 (a b c d e f : Value) (w : World) : (part 9 #[a, b, c, d, e, f] 1).run Tryz.prog w = .ok b w := by kernel_rfl
theorem partT2 (a b c d e f : Value) (w : World) : (part 3 #[a, b, c, d, e, f] 2).run Tryz.prog w = .ok c w := by kernel_rfl
theorem partT3 (a b c d e f : Value) (w : World) : (part 3 #[a, b, c, d, e, f] 3).run Tryz.prog w = .ok d w := by kernel_rfl
theorem partT4 (a b c d e f : Value) (w : World) : (part 3 #[a, b, c, d, e, f] 4).run Tryz.prog w = .ok e w := by kernel_rfl
theorem partT5 (a b c d e f : Value) (w : World) : (part 4 #[a, b, c, d, e, f] 5).run Tryz.prog w = .ok f w := by kernel_rfl
theorem eqInt (d : Nat) (a b : Int) (w : World) : (Op.equalIn (d + 1) 3 (.int .i64 a) (.int .i64 b)).run Tryz.prog w = .ok (a == b) w := by kernel_rfl
theorem eqStr (d : Nat) (a b : ByteArray) (w : World) : (Op.equalIn (d + 1) 9 (.string a) (.string b)).run Tryz.prog w = .ok (a == b) w := by kernel_rfl
theorem eqBool (d : Nat) (a b : Bool) (w : World) : (Op.equalIn (d + 1) 4 (.bool a) (.bool b)).run Tryz.prog w = .ok (a == b) w := by kernel_rfl

theorem run_sameTok (a : Int) (b : ByteArray) (c d e : Int) (f : Bool) (w : World) :
    (Op.equalIn 10000 30 (.agg #[.int .i64 a, .string b, .int .i64 c, .int .i64 d, .int .i64 e, .bool f]) (.agg #[.int .i64 a, .string b, .int .i64 c, .int .i64 d, .int .i64 e, .bool f])).run Tryz.prog w = .ok true w := by
  show (Op.equalIn (9998 + 1 + 1) 30 _ _).run Tryz.prog w = _
  rw [run_equalIn_struct w (9998 + 1) 30 _ _ (by simp [Program.fieldsOf, Tryz.underlying30]) stoodTok]
  simp only [Program.fieldsOf, Tryz.underlying30, Op.eqFields, Sem.run_bind, partT0, partT1, partT2, partT3, partT4, partT5, eqInt, eqStr, eqBool, Result.andThen_ok, Sem.run_ite, Sem.run_pure]
  simp [beq_toListBytes]

end Go.Proofs.YtlepnafgcmeimaaGreatDoor
