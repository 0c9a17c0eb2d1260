/- What is proved: where tokens stand does not matter to a macro (plain); two blanks ahead of a text do not. -/
import Derived.Test.YtfjbmenakcnadaaDoorN4
import Derived.Test.YtfjbmenakcnadaaDoorN1
namespace Go.Proofs.YtfjbmenakcnadaaDoor
namespace Mx

/-- A token, but for where it stands. -/
def er (t : K) : K := ⟨t.kind, t.text, 0, 0, 0, t.bl⟩
theorem er_kal {l l' : List K} : l.map kal = l'.map kal ↔ l.map er = l'.map er := by
  have h1 : ∀ l : List K, l.map er = (l.map kal).map fun x => ⟨x.1, x.2.1, 0, 0, 0, x.2.2⟩ := fun l => by simp [er, kal]
  have h2 : ∀ l : List K, l.map kal = (l.map er).map kal := fun l => by simp [er, kal]
  exact ⟨fun h => by rw [h1, h1, h], fun h => by rw [h2 l, h2 l', h]⟩

theorem plist_er (n : Nat) : ∀ (l : List K) (ps : List ByteArray), l.length ≤ n → plist ps (l.map er) = (plist ps l).map fun x => (x.1, x.2.1, x.2.2.map er) := by
  induction n with
  | zero =>
    intro l ps h
    rw [List.length_eq_zero_iff.1 (Nat.le_zero.1 h)]
    rfl
  | succ n ih =>
    intro l ps h
    rcases l with _ | ⟨a, _ | ⟨b, r⟩⟩
    · rfl
    · rfl
    · rw [List.map_cons, List.map_cons, plist_two, plist_two]
      rw [show parGood ps (er a) = parGood ps a from rfl, show isP (er b) RP = isP b RP from rfl, show isP (er b) CM = isP b CM from rfl, show isP (er a) EL = isP a EL from rfl, show parPs ps (er a) = parPs ps a from rfl]
      rw [ih r _ (by simp only [List.length_cons] at h; omega)]
      split
      · split
        · rfl
        · split <;> rfl
      · rfl
theorem brack_er (r : List K) : brack (r.map er) = (brack r).map fun x => (x.1, x.2.1, x.2.2.1, x.2.2.2.map er) := by
  rcases r with _ | ⟨u, r⟩
  · rfl
  · rcases r with _ | ⟨c, r⟩
    · simp only [List.map_cons, List.map_nil, brack]
      rw [show (er u).bl = u.bl from rfl, show isP (er u) LP = isP u LP from rfl]
      split
      · rfl
      · split <;> rfl
    · have hp := plist_er _ (c :: r) [] (Nat.le_refl _)
      simp only [List.map_cons] at hp
      simp only [List.map_cons, brack]
      rw [show (er u).bl = u.bl from rfl, show isP (er u) LP = isP u LP from rfl, show isP (er c) RP = isP c RP from rfl, hp]
      split
      · rfl
      · split
        · split
          · rfl
          · cases plist [] (c :: r) <;> rfl
        · rfl
theorem bare_er (l : List K) : bare (l.map er) = (bare l).map er := by cases l <;> rfl
theorem bare_bare (l : List K) : bare (bare l) = bare l := by cases l <;> rfl
theorem hashBad_er (ps : List ByteArray) (va : Bool) : ∀ l : List K, hashBad ps va (l.map er) = hashBad ps va l
  | [] => rfl
  | [_] => rfl
  | t :: u :: r => by
    have := hashBad_er ps va (u :: r)
    simp only [List.map_cons] at this
    simp only [List.map_cons, hashBad, this]
    rfl
theorem vaIn_er (l : List K) : vaIn (l.map er) = vaIn l := by
  induction l with
  | nil => rfl
  | cons t r ih =>
    rw [List.map_cons, show vaIn (er t :: r.map er) = ((er t).kind == 1 && decide ((er t).text = VA) || vaIn (r.map er)) from rfl, ih]
    rfl
theorem pasteBad_er (l : List K) : pasteBad (l.map er) = pasteBad l := by
  unfold pasteBad
  rw [List.head?_map, List.getLast?_map]
  cases l.head? <;> cases l.getLast? <;> rfl
/-- A macro, but for where its body stands. -/
def erM (m : M) : M := { m with body := m.body.map er }
theorem bodyOf_er (nm : ByteArray) (fn : Bool) (ps : List ByteArray) (va : Bool) (l : List K) : bodyOf nm fn ps va (l.map er) = (erM (bodyOf nm fn ps va l).1, (bodyOf nm fn ps va l).2) := by
  unfold bodyOf
  rw [pasteBad_er, hashBad_er, vaIn_er, bare_er]
  by_cases h : l = []
  · subst h; rfl
  · rw [if_neg h, if_neg (by simpa using h)]
    split
    · rfl
    · split
      · rfl
      · split <;> rfl
theorem defi_er (l : List K) : defi (l.map er) = (erM (defi l).1, (defi l).2) := by
  rcases l with _ | ⟨t, r⟩
  · rfl
  · simp only [List.map_cons, defi]
    rw [show nameOk (er t) = nameOk t from rfl, brack_er]
    split
    · cases hb : brack r with
      | error e => rfl
      | ok x =>
        obtain ⟨fn, ps, va, b⟩ := x
        exact bodyOf_er _ _ _ _ _
    · rfl
theorem defi_bl (t : K) (r : List K) (b : Bool) : defi ({ t with bl := b } :: r) = defi (t :: r) := rfl

theorem same_key (a b : M) : same a b = true ↔ a.name = b.name ∧ a.fn = b.fn ∧ a.va = b.va ∧ a.ps = b.ps ∧ (bare a.body).map kal = (bare b.body).map kal := by
  simp [same, sameB]
theorem same_refl (a : M) : same a a = true := (same_key a a).2 ⟨rfl, rfl, rfl, rfl, rfl⟩
theorem same_symm (a b : M) : same b a = same a b := by
  rw [Bool.eq_iff_iff, same_key, same_key]
  exact ⟨fun ⟨h1, h2, h3, h4, h5⟩ => ⟨h1.symm, h2.symm, h3.symm, h4.symm, h5.symm⟩, fun ⟨h1, h2, h3, h4, h5⟩ => ⟨h1.symm, h2.symm, h3.symm, h4.symm, h5.symm⟩⟩
theorem same_trans {a b c : M} (h : same a b = true) (k : same b c = true) : same a c = true := by
  rw [same_key] at *
  exact ⟨h.1.trans k.1, h.2.1.trans k.2.1, h.2.2.1.trans k.2.2.1, h.2.2.2.1.trans k.2.2.2.1, h.2.2.2.2.trans k.2.2.2.2⟩
theorem same_er {a b : M} (h : erM a = erM b) : same a b = true := by
  have h' : a.name = b.name ∧ a.fn = b.fn ∧ a.ps = b.ps ∧ a.va = b.va ∧ a.body.map er = b.body.map er := by
    obtain ⟨a1, a2, a3, a4, a5⟩ := a
    obtain ⟨b1, b2, b3, b4, b5⟩ := b
    simp only [erM, M.mk.injEq] at h
    exact h
  obtain ⟨h1, h2, h3, h4, h5⟩ := h'
  rw [same_key]
  refine ⟨h1, h2, h4, h3, ?_⟩
  rw [er_kal, ← bare_er, ← bare_er, h5]
/-- Macros of lists that differ in where their tokens stand, and in the first one's blank. -/
theorem defi_same {t t' : K} {r r' : List K} (h1 : t.kind = t'.kind) (h2 : t.text = t'.text) (h3 : r.map kal = r'.map kal) : (defi (t :: r)).2 = (defi (t' :: r')).2 ∧ same (defi (t :: r)).1 (defi (t' :: r')).1 = true := by
  have e : defi ((t :: r).map er) = defi ((t' :: r').map er) := by
    rw [List.map_cons, List.map_cons, er_kal.1 h3, ← defi_bl (er t) _ false, ← defi_bl (er t') _ false]
    unfold er
    rw [h1, h2]
  rw [defi_er, defi_er] at e
  injection e with e1 e2
  exact ⟨e2, same_er e1⟩

/-! Two blanks ahead. -/
def setB (l : List (Nat × List UInt8 × Bool)) : List (Nat × List UInt8 × Bool) := match l with | [] => [] | (k, t, _) :: r => (k, t, true) :: r
theorem tb_true : ∀ (p : Bool) (b : List UInt8), setB (Lx.tb p b) = Lx.tb true b := by
  refine Lx.tbInd ?_ ?_ ?_
  · intro p; rfl
  · intro p b h ih
    rw [Lx.tb_blank p b h, ih, Lx.tb_blank true b h]
  · intro p b hb h _
    rw [Lx.tb_tok p b hb h, Lx.tb_tok true b hb h]
    rfl
theorem ks_kal (s : ByteArray) : (ks s).map kal = (Lx.tb false (Lx.bytes (Sp.left 0 s.data.toList))).map fun x => ((x.1 : Int), (⟨x.2.1.toArray⟩ : ByteArray), x.2.2) := by
  rw [← Lx.tk_al, ks, List.map_map, List.map_map]
  rfl
theorem left_sp (k : Nat) (l : List UInt8) : Lx.bytes (Sp.left k (32 :: l)) = 32 :: Lx.bytes (Sp.left 0 l) := by
  rw [Sp.left_one k 32 l (by simp [Go.Lib.hasPrefix, List.isPrefixOf])]
  show 32 :: (Sp.left (k + 1) l).map Prod.fst = _
  rw [Sp.left_fst (k + 1) 0]
  rfl
theorem tb_sp (p : Bool) (b : List UInt8) : Lx.tb p (32 :: b) = Lx.tb true b := by
  have h : Lx.blankLen (32 :: b) = 1 := by rw [Lx.blankLen_cons]; rfl
  rw [Lx.tb_blank p (32 :: b) (by rw [h]; omega), h]
  rfl
/-- Two blanks ahead of a text change no macro. -/
theorem df_sp (s d : ByteArray) (hd : d.data.toList = 32 :: 32 :: s.data.toList) : (df d).2 = (df s).2 ∧ same (df s).1 (df d).1 = true := by
  have e1 := ks_kal s
  have e2 := ks_kal d
  rw [hd, left_sp, left_sp, tb_sp, tb_sp, ← tb_true false] at e2
  unfold df
  generalize Lx.tb false (Lx.bytes (Sp.left 0 s.data.toList)) = B at e1 e2
  rcases B with _ | ⟨x, B⟩
  · rw [List.map_eq_nil_iff.1 e1, List.map_eq_nil_iff.1 e2]
    exact ⟨rfl, same_refl _⟩
  · obtain ⟨t, r, h1, h2, h3⟩ := List.map_eq_cons_iff.1 e1
    obtain ⟨t', r', k1, k2, k3⟩ := List.map_eq_cons_iff.1 e2
    rw [h1, k1]
    simp only [kal, Prod.mk.injEq] at h2 k2
    have := defi_same (t := t) (t' := t') (r := r) (r' := r') (h2.1.trans k2.1.symm) (h2.2.1.trans k2.2.1.symm) (by rw [h3, k3])
    exact ⟨this.1.symm, this.2⟩
end Mx
end Go.Proofs.YtfjbmenakcnadaaDoor
