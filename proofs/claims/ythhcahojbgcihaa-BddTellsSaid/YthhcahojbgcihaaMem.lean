/- What is proved: how an arena lies in memory, and what a look-up in its map, and a store into it, come to. -/
import Derived.Test.YthhcahojbgcihaaProg
import Derived.Test.YthhcahojbgcihaaPure
import Derived.WalkKit
import Derived.WalkSpells
import Derived.WalkLawsBesides
import Derived.Laws.StructEq
import Derived.Lib.Hide
import Derived.MapKept
import Derived.Deep.Draws
import Derived.Deep.AppendLies
namespace Go.Proofs.Ythhcahojbgcihaa
open Go.RowKit Bd

def keyOf (d : Dec) : Value := .agg #[.int .i64 d.1, .int .i64 d.2.1, .int .i64 d.2.2]

theorem run_checkKey67 (e : Bool) (a b c : Int) (w : World) : (Instr.checkKey e 10000 67 (.agg #[.int .i64 a, .int .i64 b, .int .i64 c])).run Try.prog w = .ok () w := by kernel_rfl

theorem stood67 : Try.prog.stoodInHeld 67 = false := by kernel_rfl
theorem part67a (a b c : Int) (w : World) : (part 3 #[.int .i64 a, .int .i64 b, .int .i64 c] 0).run Try.prog w = .ok (.int .i64 a) w := by kernel_rfl
theorem part67b (a b c : Int) (w : World) : (part 35 #[.int .i64 a, .int .i64 b, .int .i64 c] 1).run Try.prog w = .ok (.int .i64 b) w := by kernel_rfl
theorem part67c (a b c : Int) (w : World) : (part 35 #[.int .i64 a, .int .i64 b, .int .i64 c] 2).run Try.prog w = .ok (.int .i64 c) w := by kernel_rfl
theorem eq3 (d : Nat) (a b : Int) (w : World) : (Op.equalIn (d + 1) 3 (.int .i64 a) (.int .i64 b)).run Try.prog w = .ok (a == b) w := by kernel_rfl
theorem eq35 (d : Nat) (a b : Int) (w : World) : (Op.equalIn (d + 1) 35 (.int .i64 a) (.int .i64 b)).run Try.prog w = .ok (a == b) w := by kernel_rfl

theorem run_equal67 (a b c a' b' c' : Int) (w : World) :
    (Op.equal 67 (.agg #[.int .i64 a, .int .i64 b, .int .i64 c]) (.agg #[.int .i64 a', .int .i64 b', .int .i64 c'])).run Try.prog w = .ok (decide (a = a' ∧ b = b' ∧ c = c')) w := by
  show (Op.equalIn (9998 + 1 + 1) 67 _ _).run Try.prog w = _
  rw [run_equalIn_struct w (9998 + 1) 67 _ _ (by simp [Program.fieldsOf, Try.underlying67]) stood67]
  simp only [Program.fieldsOf, Try.underlying67, Op.eqFields, Sem.run_bind, part67a, part67b, part67c, eq3, eq35, Result.andThen_ok, Sem.run_ite, Sem.run_pure]
  by_cases h1 : a = a' <;> by_cases h2 : b = b' <;> by_cases h3 : c = c' <;> simp [h1, h2, h3]

def entry (i : Nat) (d : Dec) : MapEntry := { key := keyOf d, val := .int .i64 ((i : Int) + 2), born := i }
def entriesOf (ds : List Dec) : Array MapEntry := (ds.mapIdx entry).toArray

theorem dec_eq_iff (d e : Dec) : ((d.1 : Int) = e.1 ∧ (d.2.1 : Int) = e.2.1 ∧ (d.2.2 : Int) = e.2.2) ↔ e = d := by
  obtain ⟨a, b, c⟩ := d
  obtain ⟨a', b', c'⟩ := e
  simp only [Prod.mk.injEq]
  omega

theorem run_findAsking (d : Dec) (w : World) : ∀ (ds : List Dec) (j : Nat) (k : Nat), (Instr.findAsking 67 (keyOf d) (ds.mapIdx fun i x => entry (i + k) x) j).run Try.prog w =
    .ok ((ds.findIdx? (fun x => decide (x = d))).map fun i => (i + j, .int .i64 (((i + k : Nat) : Int) + 2))) w := by
  intro ds
  induction ds with
  | nil => intro j k; rfl
  | cons x ds ih =>
    intro j k
    rw [List.mapIdx_cons]
    unfold Instr.findAsking
    have he : (Op.equal 67 (keyOf d) (entry (0 + k) x).key).run Try.prog w = .ok (decide (x = d)) w := by
      show (Op.equal 67 (keyOf d) (keyOf x)).run Try.prog w = _
      unfold keyOf
      rw [run_equal67]
      congr 1
      exact decide_eq_decide.2 (dec_eq_iff d x)
    rw [Sem.run_bind, he, Result.andThen_ok, Sem.run_ite]
    by_cases hx : x = d
    · simp [hx, List.findIdx?_cons, entry]
    · have := ih (j + 1) (k + 1)
      simp only [hx, decide_false, Bool.false_eq_true, if_false, List.findIdx?_cons]
      rw [show (fun i => entry (i + 1 + k)) = fun i => entry (i + (k + 1)) from by funext i; congr 1; omega, this]
      simp only [Option.map_map]
      congr 2
      funext i
      simp only [Function.comp, Prod.mk.injEq, Value.int.injEq, true_and]
      omega

theorem sameNow67 (d : Dec) (e : MapEntry) (fs : Array Field) : Instr.sameNow (.struct fs) (keyOf d) e.key = none := by
  unfold keyOf Instr.sameNow; rfl

theorem run_findKey (d : Dec) (ds : List Dec) (w : World) : (Instr.findKey 67 (keyOf d) (entriesOf ds).toList).run Try.prog w =
    .ok ((ds.findIdx? (fun x => decide (x = d))).map fun i => (i, .int .i64 ((i : Int) + 2))) w := by
  unfold Instr.findKey
  rw [Sem.run_bind, run_underlying Try.underlying67, Result.andThen_ok]
  unfold entriesOf
  simp only
  have h := run_findAsking d w ds 0 0
  simp only [Nat.add_zero] at h
  cases ds with
  | nil => rfl
  | cons x ds =>
    rw [List.mapIdx_cons] at h ⊢
    unfold Instr.findNow
    rw [sameNow67]
    exact h

theorem run_lookup72 (d : Dec) (ds : List Dec) (c m : Nat) (w : World) (hm : w.heap[m]? = some (.map (entriesOf ds) c)) :
    (Instr.lookup 72 (.map (some m)) (keyOf d) true).run Try.prog w =
      .ok (match ds.findIdx? (fun x => decide (x = d)) with | some i => .tuple #[.int .i64 ((i : Int) + 2), .bool true] | none => .tuple #[.int .i64 0, .bool false]) w := by
  have hz : (zeroValue 35).run Try.prog w = .ok (.int .i64 0) w := by kernel_rfl
  have hg := run_getObj_map (P := Try.prog) w m _ _ hm
  have hk := run_checkKey67 (entriesOf ds).isEmpty d.1 d.2.1 d.2.2 w
  have hf := run_findKey d ds w
  unfold Instr.lookup
  simp only [Sem.run_bind, run_underlying Try.underlying72, Result.andThen_ok, hg, Sem.run_pure]
  unfold keyOf at hf ⊢
  rw [hk, Result.andThen_ok, hf, Result.andThen_ok]
  cases ds.findIdx? (fun x => decide (x = d)) with
  | some i => simp
  | none => simp [hz]


def setB (w : World) (m : Nat) (o : Obj) : World := { w with heap := w.heap.setIfInBounds m o }

theorem setB_size (w : World) (m : Nat) (o : Obj) : (setB w m o).heap.size = w.heap.size := by simp [setB]
theorem setB_same {w : World} {m : Nat} (o : Obj) (h : m < w.heap.size) : (setB w m o).heap[m]? = some o := by simp [setB, h]
theorem setB_other (w : World) {m k : Nat} (o : Obj) (h : k ≠ m) : (setB w m o).heap[k]? = w.heap[k]? := by
  simp only [setB, Array.getElem?_setIfInBounds]
  rw [if_neg (by omega)]

theorem lt_of_get {w : World} {m : Nat} {o : Obj} (h : w.heap[m]? = some o) : m < w.heap.size := by
  rcases Nat.lt_or_ge m w.heap.size with hlt | hge
  · exact hlt
  · rw [Array.getElem?_eq_none hge] at h; cases h

theorem entriesOf_snoc (ds : List Dec) (d : Dec) : (entriesOf ds).push (entry ds.length d) = entriesOf (ds ++ [d]) := by
  unfold entriesOf
  simp [List.mapIdx_append]

theorem run_mapUpdate72 (d : Dec) (ds : List Dec) (m : Nat) (w : World) (hm : w.heap[m]? = some (.map (entriesOf ds) ds.length)) (hnew : ds.findIdx? (fun x => decide (x = d)) = none) :
    (Instr.mapUpdate 72 (.map (some m)) (keyOf d) (.int .i64 ((ds.length : Int) + 2))).run Try.prog w = .ok () (setB w m (.map (entriesOf (ds ++ [d])) (ds ++ [d]).length)) := by
  have hg := run_getObj_map (P := Try.prog) w m _ _ hm
  have hk := run_checkKey67 false d.1 d.2.1 d.2.2 w
  have hf := run_findKey d ds w
  have hs := Go.MapKept.run_setObj_map (P := Try.prog) (.map (entriesOf (ds ++ [d])) (ds.length + 1)) hm
  rw [hnew] at hf
  unfold Instr.mapUpdate
  simp only [Sem.run_bind, run_underlying Try.underlying72, Result.andThen_ok, hg]
  have e : keyOf d = .agg #[.int .i64 d.1, .int .i64 d.2.1, .int .i64 d.2.2] := rfl
  rw [← e] at hk
  rw [hk, Result.andThen_ok, hf, Result.andThen_ok]
  simp only [Option.map_none]
  rw [← entriesOf_snoc] at hs ⊢
  simp only [List.length_append, List.length_singleton]
  exact hs

def cellsOf (ds : List Dec) : List Value := ds.flatMap fun d => [.int .i64 (d.1 : Int), .int .i64 (d.2.1 : Int), .int .i64 (d.2.2 : Int)]

theorem cellsOf_length (ds : List Dec) : (cellsOf ds).length = ds.length * 3 := by
  induction ds with
  | nil => rfl
  | cons d ds ih => simp only [cellsOf, List.flatMap_cons, List.length_append, List.length_cons] at ih ⊢; simp at ih ⊢; omega

theorem cellsOf_append (ds es : List Dec) : cellsOf (ds ++ es) = cellsOf ds ++ cellsOf es := by simp [cellsOf]

theorem cellsOf_at (ds : List Dec) : ∀ (i : Nat), i < ds.length → (cellsOf ds)[i * 3]? = some (.int .i64 (dec ds (i + 2)).1) ∧ (cellsOf ds)[i * 3 + 1]? = some (.int .i64 (dec ds (i + 2)).2.1) ∧ (cellsOf ds)[i * 3 + 2]? = some (.int .i64 (dec ds (i + 2)).2.2) := by
  induction ds with
  | nil => intro i hi; simp at hi
  | cons d ds ih =>
    intro i hi
    cases i with
    | zero => simp [cellsOf, dec]
    | succ i =>
      have := ih i (by simpa using hi)
      have e : dec (d :: ds) (i + 1 + 2) = dec ds (i + 2) := by simp [dec]
      rw [e]
      have f : cellsOf (d :: ds) = [.int .i64 (d.1 : Int), .int .i64 (d.2.1 : Int), .int .i64 (d.2.2 : Int)] ++ cellsOf ds := rfl
      rw [f]
      rw [show (i + 1) * 3 = i * 3 + 3 from by omega, show i * 3 + 3 + 1 = i * 3 + 1 + 3 from by omega, show i * 3 + 3 + 2 = i * 3 + 2 + 3 from by omega]
      simpa using this

/-- An arena at block p, its map at block m, its decisions' slice sv; all from block B on. -/
structure Ar (w : World) (B p m : Nat) (sv : Value) (vars : Nat) (ds : List Dec) : Prop where
  blk : w.heap[p]? = some (.cells #[.int .i64 (vars : Int), sv, .map (some m)] 75 (0, 0))
  row : w.ownsRow B 67 3 sv ds.length (cellsOf ds)
  map : w.heap[m]? = some (.map (entriesOf ds) ds.length)
  hp : B ≤ p
  hm : B ≤ m
  v8 : vars ≤ 8
  wf : WF vars ds
  few : ds.length ≤ 100000

/-- Nothing but the arena's own blocks has turned; its slice's block is the one that it was, or new. -/
structure Fr (p m : Nat) (sv : Value) (w : World) (sv' : Value) (w' : World) : Prop where
  os : w'.os = w.os
  tape : w'.tape = w.tape
  output : w'.output = w.output
  size : w.heap.size ≤ w'.heap.size
  blk : ∀ k, k < w.heap.size → k ≠ p → k ≠ m → sv.ownBlock ≠ some k → w'.heap[k]? = w.heap[k]?
  own : sv'.ownBlock = sv.ownBlock ∨ ∀ k, sv'.ownBlock = some k → w.heap.size ≤ k

section
variable {w w' w'' : World} {B p m vars : Nat} {sv sv' sv'' : Value} {ds : List Dec}

theorem Ar.pm (h : Ar w B p m sv vars ds) : p ≠ m := by
  rintro rfl
  have := h.blk
  rw [h.map] at this
  cases this

theorem Ar.kept (h : Ar w B p m sv vars ds) (hb : ∀ k, k < w.heap.size → w'.heap[k]? = w.heap[k]?) : Ar w' B p m sv vars ds := by
  refine ⟨(hb p (lt_of_get h.blk)).trans h.blk, ?_, (hb m (lt_of_get h.map)).trans h.map, h.hp, h.hm, h.v8, h.wf, h.few⟩
  refine ⟨h.row.1, ?_⟩
  rcases h.row.2 with h0 | ⟨g, cap, cur, hv, hg, hh, r⟩
  · exact .inl h0
  · exact .inr ⟨g, cap, cur, hv, hg, (hb g (lt_of_get hh)).trans hh, r⟩

theorem Ar.below (h : Ar w B p m sv vars ds) (hb : Below w.heap.size w w') : Ar w' B p m sv vars ds := h.kept hb.block
theorem Ar.alloc (h : Ar w B p m sv vars ds) (o : Obj) : Ar (w.alloc o) B p m sv vars ds := h.kept fun _ hk => Below.heap_alloc _ _ _ hk
theorem Ar.drew (h : Ar w B p m sv vars ds) : Ar w.drew B p m sv vars ds := h.kept fun _ _ => rfl
theorem Ar.drewN (h : Ar w B p m sv vars ds) (n : Nat) : Ar (w.drewN n) B p m sv vars ds := h.kept fun _ _ => rfl

theorem Ar.c0 (h : Ar w B p m sv vars ds) : w.cell? ⟨p, 0, none⟩ = some (.int .i64 (vars : Int)) := by simp [World.cell?, h.blk]
theorem Ar.c1 (h : Ar w B p m sv vars ds) : w.cell? ⟨p, 1, none⟩ = some sv := by simp [World.cell?, h.blk]
theorem Ar.c2 (h : Ar w B p m sv vars ds) : w.cell? ⟨p, 2, none⟩ = some (.map (some m)) := by simp [World.cell?, h.blk]
theorem Ar.fz (h : Ar w B p m sv vars ds) (i : Nat) : w.frozen? ⟨p, i, none⟩ = false := by simp [World.frozen?, h.blk]

/-- The decisions' slice, where there is one. -/
theorem Ar.slice (h : Ar w B p m sv vars ds) (hn : 0 < ds.length) : ∃ g cap, sv = .slice (some ⟨g, 0, none⟩) ds.length cap ∧ g < w.heap.size ∧ ds.length ≤ cap ∧
    ∀ i, i < ds.length → w.cell? ⟨g, i * 3, none⟩ = some (.int .i64 (dec ds (i + 2)).1) ∧ w.cell? ⟨g, i * 3 + 1, none⟩ = some (.int .i64 (dec ds (i + 2)).2.1) ∧ w.cell? ⟨g, i * 3 + 2, none⟩ = some (.int .i64 (dec ds (i + 2)).2.2) := by
  have hrow := h.row
  obtain ⟨g, cap, hv, _, hlt⟩ := h.row.form hn
  subst hv
  have hc : ds.length ≤ cap := by
    rcases hrow.2 with ⟨h0, _⟩ | ⟨g', cap', cur, hv, _, _, hcap, _⟩
    · cases h0
    · injection hv with _ _ e; omega
  refine ⟨g, cap, rfl, hlt, hc, fun i hi => ?_⟩
  obtain ⟨a1, a2, a3⟩ := cellsOf_at ds i hi
  exact ⟨(hrow.cellAt _ (by omega)).trans a1, (hrow.cellAt _ (by omega)).trans a2, (hrow.cellAt _ (by omega)).trans a3⟩

theorem Fr.refl (p m : Nat) (sv : Value) (w : World) : Fr p m sv w sv w := ⟨rfl, rfl, rfl, Nat.le_refl _, fun _ _ _ _ _ => rfl, .inl rfl⟩

theorem Fr.trans (h : Fr p m sv w sv' w') (k : Fr p m sv' w' sv'' w'') : Fr p m sv w sv'' w'' := by
  refine ⟨k.os.trans h.os, k.tape.trans h.tape, k.output.trans h.output, Nat.le_trans h.size k.size, fun i hi h1 h2 h3 => ?_, ?_⟩
  · refine (k.blk i (Nat.lt_of_lt_of_le hi h.size) h1 h2 ?_).trans (h.blk i hi h1 h2 h3)
    rcases h.own with e | e
    · rw [e]; exact h3
    · intro c; have := e i c; omega
  · rcases k.own with e | e
    · rw [e]; exact h.own
    · exact .inr fun i c => Nat.le_trans h.size (e i c)

theorem Fr.of_below (hb : Below w.heap.size w w') (p m : Nat) (sv : Value) : Fr p m sv w sv w' := ⟨hb.os, hb.tape, hb.output, hb.size, fun k hk _ _ _ => hb.block k hk, .inl rfl⟩
end

end Go.Proofs.Ythhcahojbgcihaa
