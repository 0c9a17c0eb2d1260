/- What is proved: the calls of package bdd, said by what a condition holds for alone. -/
import Derived.Test.YthhcahojbgcihaaW7
namespace Go.Proofs.Ythhcahojbgcihaa
open Go.RowKit Bd

/-- x is a condition that holds where g says. -/
structure Has (ds : List Dec) (x : Nat) (g : (Nat → Bool) → Bool) : Prop where
  lt : x < ds.length + 2
  says : ∀ a, S ds x a = g a

def Keep (ds ds' : List Dec) : Prop := ∀ z f, Has ds z f → Has ds' z f

theorem Keep.refl (ds : List Dec) : Keep ds ds := fun _ _ h => h
theorem Keep.trans {a b c : List Dec} (h : Keep a b) (k : Keep b c) : Keep a c := fun z f hz => k z f (h z f hz)

theorem Has.congr {ds : List Dec} {x : Nat} {g g' : (Nat → Bool) → Bool} (h : Has ds x g) (e : ∀ a, g a = g' a) : Has ds x g' := ⟨h.lt, fun a => (h.says a).trans (e a)⟩
theorem Has.one {vars : Nat} {ds : List Dec} {x y : Nat} {g g' : (Nat → Bool) → Bool} (wf : WF vars ds) (h : Has ds x g) (k : Has ds y g') (e : ∀ a, g a = g' a) : x = y :=
  one_of_same wf h.lt k.lt fun a => by rw [h.says, k.says, e]
theorem Has.never (ds : List Dec) : Has ds 0 fun _ => false := ⟨by omega, fun _ => S_lt2 (by omega) _⟩
theorem Has.always (ds : List Dec) : Has ds 1 fun _ => true := ⟨by omega, fun _ => S_lt2 (by omega) _⟩

/-- What a call comes to that tells a condition which holds where g says, and no error. -/
def TellsH (w : World) (B p m : Nat) (sv : Value) (vars : Nat) (ds : List Dec) (g : (Nat → Bool) → Bool) (e : Ending) (w' : World) : Prop :=
  ∃ r ds' sv', Has ds' r g ∧ Keep ds ds' ∧ ds'.length ≤ ds.length + 255 ∧ e = .returned (.tuple #[.int .i64 ((r : Nat) : Int), .int .i64 0]) ∧ Ar w' B p m sv' vars ds' ∧ Fr p m sv w sv' w'

section
variable {w : World} {B p m vars : Nat} {sv : Value} {ds : List Dec}

theorem made_keep {ds' : List Dec} {r t : Nat} {g : (Nat → Bool) → Bool} (wf : WF vars ds) (M : Made vars ds ds' r g t) : Keep ds ds' := by
  intro z f hz
  obtain ⟨h1, _, h3⟩ := M.old wf hz.lt
  exact ⟨h1, fun a => (h3 a).trans (hz.says a)⟩

theorem TellsH.of {g g' : (Nat → Bool) → Bool} {e : Ending} {w' : World} (h : Ar w B p m sv vars ds) (hg : ∀ a, g a = g' a) (T : Tells w B p m sv vars ds g e w') : TellsH w B p m sv vars ds g' e w' := by
  obtain ⟨r, ds', sv', M, he, hA, F⟩ := T
  have := M.few
  have := pow8 h.v8
  exact ⟨r, ds', sv', ⟨M.lt, fun a => (M.says a).trans (hg a)⟩, made_keep h.wf M, by omega, he, hA, F⟩

theorem varH (h : Ar w B p m sv vars ds) (i : Nat) (hi : i < vars) (hfew : ds.length + 256 ≤ 100000) :
    Calls Try.prog 20 #[.pointer (some ⟨p, 0, none⟩), .int .i64 (i : Int)] w (TellsH w B p m sv vars ds (fun a => a i)) :=
  (var_any h i hi hfew).mono fun _ _ T => TellsH.of h (fun _ => rfl) T
theorem notH (h : Ar w B p m sv vars ds) {x : Nat} {g : (Nat → Bool) → Bool} (hx : Has ds x g) (hfew : ds.length + 256 ≤ 100000) :
    Calls Try.prog 22 #[.pointer (some ⟨p, 0, none⟩), .int .i64 (x : Int)] w (TellsH w B p m sv vars ds (fun a => !g a)) :=
  (not_any h x hx.lt hfew).mono fun _ _ T => TellsH.of h (fun a => by rw [hx.says]) T
theorem andH (h : Ar w B p m sv vars ds) {x y : Nat} {g g' : (Nat → Bool) → Bool} (hx : Has ds x g) (hy : Has ds y g') (hfew : ds.length + 256 ≤ 100000) :
    Calls Try.prog 23 #[.pointer (some ⟨p, 0, none⟩), .int .i64 (x : Int), .int .i64 (y : Int)] w (TellsH w B p m sv vars ds (fun a => g a && g' a)) :=
  (and_any h x y hx.lt hy.lt hfew).mono fun _ _ T => TellsH.of h (fun a => by rw [hx.says, hy.says]) T
theorem orH (h : Ar w B p m sv vars ds) {x y : Nat} {g g' : (Nat → Bool) → Bool} (hx : Has ds x g) (hy : Has ds y g') (hfew : ds.length + 256 ≤ 100000) :
    Calls Try.prog 24 #[.pointer (some ⟨p, 0, none⟩), .int .i64 (x : Int), .int .i64 (y : Int)] w (TellsH w B p m sv vars ds (fun a => g a || g' a)) :=
  (or_any h x y hx.lt hy.lt hfew).mono fun _ _ T => TellsH.of h (fun a => by rw [hx.says, hy.says]) T
theorem xorH (h : Ar w B p m sv vars ds) {x y : Nat} {g g' : (Nat → Bool) → Bool} (hx : Has ds x g) (hy : Has ds y g') (hfew : ds.length + 256 ≤ 100000) :
    Calls Try.prog 25 #[.pointer (some ⟨p, 0, none⟩), .int .i64 (x : Int), .int .i64 (y : Int)] w (TellsH w B p m sv vars ds (fun a => g a != g' a)) :=
  (xor_any h x y hx.lt hy.lt hfew).mono fun _ _ T => TellsH.of h (fun a => by rw [hx.says, hy.says]) T
theorem iteH (h : Ar w B p m sv vars ds) {c x y : Nat} {f g g' : (Nat → Bool) → Bool} (hc : Has ds c f) (hx : Has ds x g) (hy : Has ds y g') (hfew : ds.length + 256 ≤ 100000) :
    Calls Try.prog 26 #[.pointer (some ⟨p, 0, none⟩), .int .i64 (c : Int), .int .i64 (x : Int), .int .i64 (y : Int)] w (TellsH w B p m sv vars ds (fun a => if f a then g a else g' a)) :=
  (ite_any h c x y hc.lt hx.lt hy.lt hfew).mono fun _ _ T => TellsH.of h (fun a => by rw [hc.says, hx.says, hy.says]) T
theorem restrictH (h : Ar w B p m sv vars ds) {x : Nat} {g : (Nat → Bool) → Bool} (hx : Has ds x g) (i : Nat) (to : Bool) (hi : i < vars) (hfew : ds.length + 256 ≤ 100000) :
    Calls Try.prog 21 #[.pointer (some ⟨p, 0, none⟩), .int .i64 (x : Int), .int .i64 (i : Int), .bool to] w (TellsH w B p m sv vars ds (fun a => g (upd a i to))) :=
  (restrict_any h x i to hx.lt hi hfew).mono fun _ _ T => TellsH.of h (fun a => by rw [hx.says]) T

theorem holdsH (h : Ar w B p m sv vars ds) {x : Nat} {g : (Nat → Bool) → Bool} (hx : Has ds x g) (s : Nat) (hs : s < 2 ^ vars) :
    Calls Try.prog 11 #[.pointer (some ⟨p, 0, none⟩), .int .i64 (x : Int), .int .i64 (s : Int)] w fun e w' => e = .returned (.tuple #[.bool (g (Bd.bits s)), .int .i64 0]) ∧ Below w.heap.size w w' := by
  have := Holds_any h x s hx.lt hs
  rw [hx.says] at this
  exact this

/-- For how many sets of so many names g holds. -/
def cntG (g : (Nat → Bool) → Bool) (t : Nat) : Nat := (List.range (2 ^ t)).countP fun s => g (Bd.bits s)

theorem countH (h : Ar w B p m sv vars ds) {x : Nat} {g : (Nat → Bool) → Bool} (hx : Has ds x g) :
    Calls Try.prog 15 #[.pointer (some ⟨p, 0, none⟩), .int .i64 (x : Int)] w fun e w' => e = .returned (.tuple #[.int .i64 ((cntG g vars : Nat) : Int), .int .i64 0]) ∧ Below w.heap.size w w' := by
  have := Count_any h x hx.lt
  have e : cnt ds x vars = cntG g vars := by unfold cnt cntG; congr 1; funext s; exact hx.says _
  rw [e] at this
  exact this

/-- The least set of all. -/
def LeastIs (g : (Nat → Bool) → Bool) (vars s : Nat) : Prop := s < 2 ^ vars ∧ g (Bd.bits s) = true ∧ ∀ q, g (Bd.bits q) = true → s ≤ q
def SatTells (w : World) (g : (Nat → Bool) → Bool) (vars : Nat) (e : Ending) (w' : World) : Prop :=
  (∃ s : Nat, LeastIs g vars s ∧ e = .returned (.tuple #[.int .i64 (s : Int), .bool true, .int .i64 0]) ∧ Below w.heap.size w w') ∨
  ((∀ a, g a = false) ∧ e = .returned (.tuple #[.int .i64 0, .bool false, .int .i64 0]) ∧ Below w.heap.size w w')

theorem satH (h : Ar w B p m sv vars ds) {x : Nat} {g : (Nat → Bool) → Bool} (hx : Has ds x g) :
    Calls Try.prog 13 #[.pointer (some ⟨p, 0, none⟩), .int .i64 (x : Int)] w (SatTells w g vars) := by
  by_cases h0 : x = 0
  · subst h0
    refine (Sat_none h).mono fun e w' ⟨h1, h2⟩ => .inr ⟨fun a => ?_, h1, h2⟩
    rw [← hx.says, S_lt2 (by omega)]
    rfl
  · refine (Sat_any h x h0 hx.lt).mono fun e w' ⟨h1, h2⟩ => .inl ⟨satN ds x, ?_, h1, h2⟩
    obtain ⟨s1, s2, s3⟩ := sat_ok h.wf x x (Nat.le_refl _) h0 hx.lt
    have hp : 2 ^ top ds x ≤ 2 ^ vars := Nat.pow_le_pow_right (by omega) (top_le h.wf hx.lt)
    refine ⟨Nat.lt_of_lt_of_le s2 hp, ?_, fun q hq => s3 q ?_⟩
    · rw [← hx.says]; exact s1
    · rw [hx.says]; exact hq

def hangs (g : (Nat → Bool) → Bool) (i : Nat) : Prop := ∃ a, g (upd a i true) ≠ g (upd a i false)
def NamesOf (g : (Nat → Bool) → Bool) (A : Nat) : Prop := A < 256 ∧ ∀ i, A.testBit i = true ↔ hangs g i
def OnlyTellsH (w : World) (g : (Nat → Bool) → Bool) (e : Ending) (w' : World) : Prop := ∃ A : Nat, NamesOf g A ∧ e = .returned (.tuple #[.int .i64 (A : Int), .int .i64 0]) ∧ Below w.heap.size w w'

theorem onlyH (h : Ar w B p m sv vars ds) {x : Nat} {g : (Nat → Bool) → Bool} (hx : Has ds x g) :
    Calls Try.prog 16 #[.pointer (some ⟨p, 0, none⟩), .int .i64 (x : Int)] w (OnlyTellsH w g) := by
  refine (Only_any h x hx.lt).mono fun e w' ⟨A, ⟨h1, h2⟩, h3, h4⟩ => ⟨A, ⟨h1, fun i => (h2 i).trans ?_⟩, h3, h4⟩
  unfold dep hangs
  simp only [hx.says]

/-! Numbers that are no conditions. -/
set_option maxHeartbeats 1000000 in
theorem not_bad (h : Ar w B p m sv vars ds) (x : Int) (hx : x < 0) :
    Calls Try.prog 22 #[.pointer (some ⟨p, 0, none⟩), .int .i64 x] w fun e w' => e = .returned (.tuple #[.int .i64 0, .int .i64 10]) ∧ Below w.heap.size w w' := by
  have HC := Lib.hid (join_bad 40 h x x (.inl hx))
  go_enter Try.func22, Try.ntmps22
  go_wp2_with fail
  refine (HC.out).mono ?_
  rintro e w1 ⟨rfl, G⟩
  go_wp2_with fail
  go_ret2
  exact ⟨rfl, G⟩

/-- From New on: nothing that was there before has turned. -/
theorem below_of_fr {w0 w1 w' : World} {p m : Nat} {sv sv' : Value} {b : Nat} (hb : Below b w0 w1) (hbs : b ≤ w0.heap.size) (F : Fr p m sv w1 sv' w') (hp : b ≤ p) (hm : b ≤ m) (hs : ∀ k, sv.ownBlock = some k → b ≤ k) : Below b w0 w' :=
  ⟨F.os.trans hb.os, F.tape.trans hb.tape, F.output.trans hb.output, Nat.le_trans hb.size F.size, fun k hk => (F.blk k (Nat.lt_of_lt_of_le hk (Nat.le_trans hbs hb.size)) (by omega) (by omega) (fun e => by have := hs k e; omega)).trans (hb.block k hk)⟩
end
end Go.Proofs.Ythhcahojbgcihaa
