/- What is proved: how a list of tokens that came in is opened, its size and the texts' sizes out of the form's own reach. -/
import Derived.Test.YtlkcmegjbdibcaaDoorOpen
import Derived.SizedLaws
namespace Go.Proofs.YtlkcmegjbdibcaaDoor
open Go.ChangeShapes Go.WideShapes Go.ChangeAt Go.RowKit Go.Deep

section
variable {H : Type} {enc : TypeId × Value → H}
theorem cellsTok : Tryd.prog.cellsOf 26 = 6 := by kernel_rfl
theorem cells4 : Tryd.prog.cellsOf 4 = 1 := by kernel_rfl
theorem cells9 : Tryd.prog.cellsOf 9 = 1 := by kernel_rfl
theorem bytesTok : Tryd.prog.bytesOf 26 = 56 := by kernel_rfl

set_option maxRecDepth 100000 in
theorem open_tok {W : World} {base fuel : Nat} {sp : Nat → Bool} {hd : Bool} {cs : List Value} {x : DataW H × List MemPlace} (h : DataW.trod enc Tryd.prog W base sp hd fuel 26 cs = some x) : ∃ t : K, cs = kCells t ∧ t.text.size ≤ maxLen := by
  obtain ⟨ys, n, _, _, hl, hyl, hf⟩ := DataW.trod_struct Tryd.underlying26 h
  rw [cellsTok] at hl
  match cs, hl with
  | [c0, c1, c2, c3, c4, c5], _ =>
    have get : ∀ (i : Nat), i < ys.length → ∃ y, ys[i]? = some y := fun i hi => ⟨_, List.getElem?_eq_getElem hi⟩
    have e : ys.length = 6 := hyl
    obtain ⟨y0, e0⟩ := get 0 (by omega)
    obtain ⟨y1, e1⟩ := get 1 (by omega)
    obtain ⟨y2, e2⟩ := get 2 (by omega)
    obtain ⟨y3, e3⟩ := get 3 (by omega)
    obtain ⟨y4, e4⟩ := get 4 (by omega)
    obtain ⟨y5, e5⟩ := get 5 (by omega)
    have f0 := (hf 0 _ rfl).trans e0
    have f1 := (hf 1 _ rfl).trans e1
    have f2 := (hf 2 _ rfl).trans e2
    have f3 := (hf 3 _ rfl).trans e3
    have f4 := (hf 4 _ rfl).trans e4
    have f5 := (hf 5 _ rfl).trans e5
    obtain ⟨D, g0, _, _⟩ := DataW.trod_int Tryd.underlying3 f0
    obtain ⟨A, g1, _, hA⟩ := DataW.trod_string Tryd.underlying9 f1
    obtain ⟨Bb, g2, _, _⟩ := DataW.trod_int Tryd.underlying3 f2
    obtain ⟨C, g3, _, _⟩ := DataW.trod_int Tryd.underlying3 f3
    obtain ⟨N, g4, _, _⟩ := DataW.trod_int Tryd.underlying3 f4
    obtain ⟨B5, g5, _⟩ := DataW.trod_bool Tryd.underlying4 f5
    simp [cells3, cells4, cells9] at g0 g1 g2 g3 g4 g5
    exact ⟨⟨D, A, Bb, C, N, B5⟩, by rw [g0, g1, g2, g3, g4, g5]; rfl, hA⟩

set_option maxRecDepth 100000 in
/-- A list of tokens that came in. -/
theorem open_toks {W : World} {r : Reach} {b0 : Nat} {v : Value} {d : DataW H} {ps : List MemPlace} (hv : Value.okWide Tryd.prog W r b0 22 v) (h : DataW.Trod enc Tryd.prog W 0 (fun _ => true) true 22 v d ps)
    (hs : ∀ elems rest, d = .slice elems rest → (elems.length + rest.length) * 56 ≤ 140737488355328) :
    ∃ ts : List K, Ks W v ts ∧ ts.length * 56 ≤ 140737488355328 ∧ ∀ t ∈ ts, t.text.size ≤ maxLen := by
  obtain ⟨Ad, k, cap, rfl⟩ := okWide_slice Tryd.underlying22 hv
  obtain ⟨fuel, h⟩ := h
  rcases open_slice Tryd.underlying22 h with ⟨e, _⟩ | ⟨a, len, cap', m, n, D, Pl, hcs, _, hl, hmx, hm, hd, hx⟩
  · have e' : (Value.slice Ad k cap) = .slice none 0 0 := by simpa [Value.cells] using e
    rw [e']
    exact ⟨[], Ks.none_at _ _ 0 (Nat.zero_le _), by simp, by simp⟩
  · have e' : (Value.slice Ad k cap) = .slice (some a) len cap' := by simpa [Value.cells] using hcs
    injection e' with e1 e2 e3
    subst e1 e2 e3
    have hm' : m = cap := by simpa using hm
    have hall : ∀ i, i < k → ∃ t : K, W.cells? 0 (a.add (i * 6)) 6 = some (kCells t) ∧ t.text.size ≤ maxLen := fun i hi => by
      obtain ⟨cs', hc, ht⟩ := hx i (by omega)
      rw [cellsTok] at hc
      obtain ⟨t, rfl, hsz⟩ := open_tok ht
      exact ⟨t, hc, hsz⟩
    have hd1 : d = .slice ((List.range k).map D) ((List.range (m - k)).map fun j => D (k + j)) := congrArg Prod.fst hd
    have hk56 := hs _ _ hd1
    simp only [List.length_map, List.length_range] at hk56
    obtain ⟨F, hF⟩ := Classical.axiomOfChoice (fun i : Fin k => hall i.1 i.2)
    have hlen : (List.ofFn F).length = k := by simp
    refine ⟨List.ofFn F, ⟨some a, cap, by rw [hlen], by rw [hlen]; exact hl, hmx, fun i t hit => ?_⟩, by rw [hlen]; omega, fun t ht => by obtain ⟨i, rfl⟩ := List.mem_ofFn.1 ht; exact (hF i).2⟩
    have hi : i < k := by have := (List.getElem?_eq_some_iff.1 hit).1; rwa [hlen] at this
    have hFi : F ⟨i, hi⟩ = t := by rw [List.getElem?_ofFn, dif_pos hi] at hit; exact Option.some.inj hit
    have hsp : a = ⟨a.block, a.off, none⟩ := by
      obtain ⟨_, _, hat0⟩ := World.cells?_some (hF ⟨0, by omega⟩).1
      have z := hat0 0 (by omega)
      rw [Go.Deep.add_add] at z
      simp only [Nat.zero_mul, Nat.add_zero, kCells, List.getElem?_cons_zero] at z
      have e : a.add 0 = a := by unfold Addr.add; simp
      rw [e] at z
      exact spot_none z
    obtain ⟨_, _, hat⟩ := World.cells?_some (hF ⟨i, hi⟩).1
    have q0 := hat 0 (by omega)
    have q1 := hat 1 (by omega)
    have q2 := hat 2 (by omega)
    have q3 := hat 3 (by omega)
    have q4 := hat 4 (by omega)
    have q5 := hat 5 (by omega)
    rw [hFi, Go.Deep.add_add] at q0 q1 q2 q3 q4 q5
    simp only [kCells, List.getElem?_cons_zero, List.getElem?_cons_succ] at q0 q1 q2 q3 q4 q5
    generalize a.block = ab at hsp
    generalize a.off = ao at hsp
    subst hsp
    rw [add_none] at q0 q1 q2 q3 q4 q5
    exact ⟨ab, ao, rfl, q0, q1, q2, q3, q4, q5⟩

/-- A law that lists a variable, and that reads one of the library's own: what is laid, and the world's shape, are both at hand. -/
theorem returns_laid_sized {a : Assume} {C : Checked} {os : Os} {f : FuncId} {fn : Func} {s : ChangeSpec} {conds : List PathCond} {apart fresh handsOn again : Bool} {laid : List (String × DataW Unit)}
    (own : ownKnob C.prog.godebug = none) (started : os.Started) (noInit : C.prog.inits.idxOf? f = none) (hfn : C.prog.funcs[f]? = some fn)
    (witness : ∃ (w : World) (tape : Tape) (i : Input), w.os = os ∧ (w.forCall tape i).Shaped C.prog ∧ i.vars = [] ∧ Input.okWide C.prog (w.forCall tape i) .any w.heap.size f i ∧
      ((s.pre enc C.prog fn conds apart (w.forCall tape i).memory i.args ∧ laidMetH C.prog laid (w.forCall tape i).memory) ∧ sizedMet enc C.prog fn (OpenSpec.ofChange s) apart (w.forCall tape i).memory i.args) ∧ a.holds C.prog (lone (Frame.enter C.prog f i.args .normal) [] (w.forCall tape i)))
    (contract : ∀ (W : World) (base : Nat) (args : Array Value) (ds gs : List (DataW H)) (before : List MemPlace),
      (∀ (j : Nat) t v, fn.params[j]? = some t → args[j]? = some v → Value.okWide C.prog W .any base t v) → DataW.Whole enc C.prog fn.params.toList s.vars apart W args.toList ds gs before →
      laidMetH C.prog laid W → W.ShapedOpen C.prog → (DataW.weightsEach C.prog (fn.params.toList ++ (OpenSpec.ofChange s).bare.plain.varTypes C.prog) (ds ++ gs)).all (· ≤ reachBytes) = true → Calls C.prog f args W fun e W' => ∃ v, e = .returned v ∧ s.post enc C.prog fn apart fresh handsOn again W args v W') :
    ReturnsInHanded a C os f .any (fun w args => (s.pre enc C.prog fn conds apart w args ∧ laidMetH C.prog laid w) ∧ sizedMet enc C.prog fn (OpenSpec.ofChange s) apart w args) (s.post enc C.prog fn apart fresh handsOn again) := by
  refine returnsInHanded_of_calls own started noInit witness ?_
  intro w tape i _ hsh _ hok hpre _
  obtain ⟨_, _, _, fn', hfn', _, _, _, _, hval⟩ := hok
  obtain rfl : fn' = fn := Option.some.inj (hfn'.symm.trans hfn)
  obtain ⟨⟨_, hl⟩, _, ds, gs, before, hw, hsz⟩ := hpre
  refine (contract (w.forCall tape i) w.heap.size i.args ds gs before hval (DataW.Whole.of_heap (w' := w.forCall tape i) (by rfl) hw) (hl.of_heap (by rfl)) hsh hsz).mono fun e W' ⟨v, he, hp⟩ => ?_
  subst he
  exact ChangeSpec.post_blind hp
end
end Go.Proofs.YtlkcmegjbdibcaaDoor
