/- What is proved: plain facts on what an include names. -/
import Derived.Test.YtnkheejpmkflaaaDoorDx
import Derived.Lib.Small
namespace Go.Proofs.YtnkheejpmkflaaaDoor.Dx
open Go.Lib Go.Proofs.YtnkheejpmkflaaaDoor

/-- A text and the blank ahead of it, but for the first one. -/
def piece (i : Nat) (t : K) : List UInt8 := (if 0 < i ∧ t.bl = true then [32] else []) ++ t.text.data.toList
def jnFrom (i : Nat) : List K → List UInt8
  | [] => []
  | t :: r => piece i t ++ jnFrom (i + 1) r
/-- Texts, one behind the other. -/
def jn (ts : List K) : List UInt8 := jnFrom 0 ts
theorem jnFrom_append (a b : List K) : ∀ i, jnFrom i (a ++ b) = jnFrom i a ++ jnFrom (i + a.length) b := by
  induction a with
  | nil => intro i; simp [jnFrom]
  | cons t r ih => intro i; simp [jnFrom, ih, Nat.add_assoc, Nat.add_comm 1]
theorem jn_take_succ (ts : List K) (k : Nat) (t : K) (h : ts[k]? = some t) : jn (ts.take (k + 1)) = jn (ts.take k) ++ piece k t := by
  obtain ⟨hk, e⟩ := List.getElem?_eq_some_iff.1 h
  have hl : (ts.take k).length = k := by rw [List.length_take]; omega
  rw [List.take_succ_eq_append_getElem hk, jn, jnFrom_append, e, hl]
  simp [jn, jnFrom]
theorem jn_take_le (ts : List K) (k : Nat) : (jn (ts.take k)).length ≤ (jn ts).length := by
  have := jnFrom_append (ts.take k) (ts.drop k) 0
  rw [List.take_append_drop] at this
  unfold jn
  rw [this]; simp

def cl (t : K) : Bool := isSign t ⟨#[62]⟩
/-- Where the first > stands. -/
def firstCl (ts : List K) : Int := match ts.findIdx? cl with
  | some i => i
  | none => -1
def noneCl (ts : List K) (k : Nat) : Prop := ∀ j t, j < k → ts[j]? = some t → cl t = false
theorem noneCl_zero (ts : List K) : noneCl ts 0 := fun _ _ h => by omega
theorem noneCl_succ {ts : List K} {k : Nat} {t : K} (h : noneCl ts k) (ht : ts[k]? = some t) (hc : cl t = false) : noneCl ts (k + 1) := fun j u hj hu => by
  by_cases e : j = k
  · subst e; rw [ht] at hu; injection hu with hu; rw [← hu]; exact hc
  · exact h j u (by omega) hu
theorem firstCl_hit {ts : List K} {k : Nat} {t : K} (h : noneCl ts k) (ht : ts[k]? = some t) (hc : cl t = true) : firstCl ts = k := by
  obtain ⟨hk, e⟩ := List.getElem?_eq_some_iff.1 ht
  have : ts.findIdx? cl = some k := by
    rw [List.findIdx?_eq_some_iff_getElem]
    refine ⟨hk, by rw [e]; exact hc, fun j hj => ?_⟩
    have := h j _ hj (List.getElem?_eq_getElem (by omega))
    simp [this]
  unfold firstCl
  rw [this]
theorem firstCl_miss {ts : List K} (h : noneCl ts ts.length) : firstCl ts = -1 := by
  have : ts.findIdx? cl = none := by
    rw [List.findIdx?_eq_none_iff]
    intro t ht
    obtain ⟨j, hj, e⟩ := List.getElem_of_mem ht
    exact h j t hj (by rw [List.getElem?_eq_getElem hj, e])
  unfold firstCl
  rw [this]

/-- Each Str stands between quotes. -/
def QuotedAll (ts : List K) : Prop := ∀ t ∈ ts, t.kind = 4 → ∃ m : List UInt8, t.text = ⟨(34 :: m ++ [34]).toArray⟩
/-- The name of a Str that is alone. -/
def qn : List K → Option ByteArray
  | [t] => if t.kind = 4 then some ⟨((t.text.data.toList.drop 1).dropLast).toArray⟩ else none
  | _ => none
theorem qn_long (ts : List K) (h : ts.length ≠ 1) : qn ts = none := by
  match ts, h with
  | [], _ => rfl
  | [t], h => exact absurd rfl h
  | _ :: _ :: _, _ => rfl
theorem qn_no (t : K) (h : t.kind ≠ 4) : qn [t] = none := by simp [qn, h]
theorem qn_yes (t : K) (m : List UInt8) (h : t.kind = 4) (hm : t.text = ⟨(34 :: m ++ [34]).toArray⟩) : qn [t] = some ⟨m.toArray⟩ := by
  simp [qn, h, hm]

def opens : List K → Bool
  | [] => false
  | t :: _ => isSign t ⟨#[60]⟩
/-- What stands between a < and the first >, that ends the line. -/
def bt (ts : List K) : Option (List K) := if 3 ≤ ts.length ∧ opens ts = true ∧ firstCl ts = (ts.length : Int) - 1 then some ((ts.drop 1).take (ts.length - 2)) else none

/-- What a line includes. -/
def target (kind : Int) (ts : List K) : ByteArray × Bool × Int :=
  if kind ≠ 10 then (⟨#[]⟩, false, 1) else
  match qn ts with
  | some s => (s, false, 0)
  | none => match bt ts with
    | some m => (⟨(jn m).toArray⟩, true, 0)
    | none => (⟨#[]⟩, false, 40)
theorem target_kind (kind : Int) (ts : List K) (h : kind ≠ 10) : target kind ts = (⟨#[]⟩, false, 1) := by unfold target; rw [if_pos h]
theorem target_q (ts : List K) (s : ByteArray) (h : qn ts = some s) : target 10 ts = (s, false, 0) := by unfold target; rw [if_neg (by simp), h]
theorem target_b (ts m : List K) (h : qn ts = none) (hb : bt ts = some m) : target 10 ts = (⟨(jn m).toArray⟩, true, 0) := by unfold target; rw [if_neg (by simp), h, hb]
theorem target_n (ts : List K) (h : qn ts = none) (hb : bt ts = none) : target 10 ts = (⟨#[]⟩, false, 40) := by unfold target; rw [if_neg (by simp), h, hb]
theorem bt_le (ts m : List K) (h : bt ts = some m) : ∃ a b, m = (ts.drop a).take b ∧ m.length ≤ ts.length := by
  unfold bt at h
  split at h
  · injection h with h
    exact ⟨1, ts.length - 2, h.symm, by rw [← h, List.length_take, List.length_drop]; omega⟩
  · cases h

theorem cut_front (m : List UInt8) : hasPrefix (34 :: m ++ [34]) [34] = true ∧ trimPrefix (34 :: m ++ [34]) [34] = m ++ [34] := by
  simp [hasPrefix, trimPrefix]
theorem cut_back (m : List UInt8) : hasSuffix (m ++ [34]) [34] = true ∧ trimSuffix (m ++ [34]) [34] = m := by
  simp [hasSuffix, trimSuffix]
end Go.Proofs.YtnkheejpmkflaaaDoor.Dx
