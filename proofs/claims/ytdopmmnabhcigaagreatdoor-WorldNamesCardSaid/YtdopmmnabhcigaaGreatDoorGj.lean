/- What is proved: names do not hang on files' numbers or order; a text without the sign # asks for none and defines none; what is asked for is spelled. (and what stands with it) -/
import Derived.Test.YtdopmmnabhcigaaGreatDoorGi
import Derived.Test.YtdopmmnabhcigaaGreatDoorGe

/- What is proved: names do not hang on files' numbers or order; a text without the sign # asks for none and defines none; what is asked for is spelled. -/
namespace Go.Proofs.YtdopmmnabhcigaaGreatDoor.Wo
open Go.Lib Go.Proofs.YtdopmmnabhcigaaGreatDoor

section
variable {g : K → K} (hk : ∀ t, (g t).kind = t.kind) (ht : ∀ t, (g t).text = t.text)
include hk
theorem cuts_map : ∀ (l : List K) (f k : Nat), Dx.cuts f k (l.map g) = Dx.cuts f k l
  | [], f, k => rfl
  | t :: r, f, k => by
    rw [List.map_cons]
    unfold Dx.cuts
    rw [hk t, cuts_map r (k + 1) (k + 1), cuts_map r f (k + 1)]
include ht
theorem begins_map (l : List K) : Dx.begins (l.map g) = Dx.begins l := by
  have hs : ∀ t s, Dx.isSign (g t) s = Dx.isSign t s := fun t s => by unfold Dx.isSign; rw [hk, ht]
  match l with
  | [] => rfl
  | t :: r =>
    rw [List.map_cons]
    cases h : Dx.isSign t ⟨#[35]⟩ with
    | false => rw [Dx.begins_no _ _ h, Dx.begins_no _ _ (by rw [hs]; exact h)]
    | true =>
      cases r with
      | nil => rw [List.map_nil, Dx.begins_one _ h, Dx.begins_one _ (by rw [hs]; exact h)]
      | cons u r => rw [List.map_cons, Dx.begins_two _ _ _ h, Dx.begins_two _ _ _ (by rw [hs]; exact h), hk, ht]
theorem words_map (l : List K) : words (l.map g) = words l := by
  unfold words
  induction l with
  | nil => rfl
  | cons t r ih =>
    rw [List.map_cons, List.filter_cons, List.filter_cons, hk]
    split
    · rw [List.map_cons, List.map_cons, ih, ht]
    · exact ih
theorem ln_map (l : List K) (c : Nat × Nat) : asks (Dx.lnOf (l.map g) c) = asks (Dx.lnOf l c) ∧ defs (Dx.lnOf (l.map g) c) = defs (Dx.lnOf l c) := by
  have hb := begins_map hk ht ((l.drop c.1).take c.2)
  have e : ((l.map g).drop c.1).take c.2 = ((l.drop c.1).take c.2).map g := by rw [List.map_take, List.map_drop]
  unfold Dx.lnOf Dx.mkLn asks defs
  dsimp only
  rw [e, hb, ← List.map_drop, ← List.map_take, words_map hk ht, words_map hk ht]
  exact ⟨rfl, rfl⟩
theorem lines_map (l : List K) : (Dx.lines (l.map g)).flatMap asks = (Dx.lines l).flatMap asks ∧ (Dx.lines (l.map g)).flatMap defs = (Dx.lines l).flatMap defs := by
  unfold Dx.lines
  rw [cuts_map hk, List.flatMap_map, List.flatMap_map, List.flatMap_map, List.flatMap_map]
  exact ⟨congrArg (fun f => List.flatMap f _) (funext fun c => (ln_map hk ht l c).1), congrArg (fun f => List.flatMap f _) (funext fun c => (ln_map hk ht l c).2)⟩
end

def sf (n : Nat) (t : K) : K := ⟨t.kind, t.text, n, t.fr, t.en, t.bl⟩
theorem toks_num (n : Nat) (t : ByteArray) : toks n t = (toks 0 t).map (sf n) := by
  unfold toks
  rw [List.map_map]
  rfl
def askT (t : ByteArray) : List ByteArray := (Dx.lines (toks 0 t)).flatMap asks
def knT (t : ByteArray) : List ByteArray := (Dx.lines (toks 0 t)).flatMap defs
def wdT (t : ByteArray) : List ByteArray := words (toks 0 t)
theorem from_texts : ∀ (fs : Fs) (n : Nat), ((toksFrom n fs).flatMap Dx.lines).flatMap asks = fs.flatMap (fun f => askT f.2) ∧ ((toksFrom n fs).flatMap Dx.lines).flatMap defs = fs.flatMap (fun f => knT f.2) ∧
    (toksFrom n fs).flatMap words = fs.flatMap (fun f => wdT f.2)
  | [], n => ⟨rfl, rfl, rfl⟩
  | f :: r, n => by
    obtain ⟨h1, h2, h3⟩ := from_texts r (n + 1)
    have l := lines_map (g := sf n) (fun _ => rfl) (fun _ => rfl) (toks 0 f.2)
    have w := words_map (g := sf n) (fun _ => rfl) (fun _ => rfl) (toks 0 f.2)
    simp only [toksFrom, List.flatMap_cons, List.flatMap_append, h1, h2, h3, toks_num n f.2, l.1, l.2, w]
    exact ⟨rfl, rfl, rfl⟩
theorem asked_eq (fs : Fs) : askedL (lns fs) = fs.flatMap (fun f => askT f.2) := (from_texts fs 0).1
theorem known_eq (fs : Fs) : knownL (lns fs) = fs.flatMap (fun f => knT f.2) := (from_texts fs 0).2.1
theorem spelled_eq (fs : Fs) : (toksFrom 0 fs).flatMap words = fs.flatMap (fun f => wdT f.2) := (from_texts fs 0).2.2

theorem names0_same {fs gs : Fs} (ha : ∀ x, x ∈ askedL (lns fs) ↔ x ∈ askedL (lns gs)) (hk : ∀ x, x ∈ knownL (lns fs) ↔ x ∈ knownL (lns gs)) : names0 fs = names0 gs := by
  unfold names0
  refine srt_same fun x => ?_
  have hh : has (knownL (lns fs)) x = has (knownL (lns gs)) x := by rw [Bool.eq_iff_iff, has_iff, has_iff]; exact hk x
  rw [List.mem_filter, List.mem_filter, ha x]
  unfold wanted
  rw [hh]
theorem rev_same (fs : Fs) : names fs.reverse = names fs ∧ namesE fs.reverse = namesE fs ∧ known fs.reverse = known fs ∧ spelled fs.reverse = spelled fs := by
  have hr : ∀ (f : ByteArray × ByteArray → List ByteArray) (x : ByteArray), x ∈ fs.reverse.flatMap f ↔ x ∈ fs.flatMap f := fun f x => by simp [List.mem_flatMap]
  have h0 : names0 fs.reverse = names0 fs := names0_same (fun x => by rw [asked_eq, asked_eq]; exact hr _ x) (fun x => by rw [known_eq, known_eq]; exact hr _ x)
  refine ⟨by unfold names; rw [h0], by unfold namesE; rw [h0], ?_, ?_⟩
  · unfold known
    exact srt_same fun x => by rw [known_eq, known_eq]; exact hr _ x
  · unfold spelled
    exact srt_same fun x => by rw [spelled_eq, spelled_eq]; exact hr _ x
theorem small_rev {fs : Fs} (h : Small fs) : Small fs.reverse := ⟨by rw [List.length_reverse]; exact h.1, fun f hf => h.2 f (List.mem_reverse.1 hf)⟩

/-! ### A text without the sign # -/
theorem left_bytes : ∀ (s : List UInt8) (k : Nat), ∀ x ∈ Sp.left k s, x.1 ∈ s
  | [], k, x, h => by cases h
  | [c], k, x, h => by
    rw [Sp.left_single] at h
    simp at h
    subst h
    simp
  | c :: d :: r, k, x, h => by
    rw [Sp.left_cons] at h
    split at h
    · exact List.mem_cons_of_mem _ (List.mem_cons_of_mem _ (left_bytes r (k + 2) x h))
    · rcases List.mem_cons.1 h with rfl | h
      · exact List.mem_cons_self
      · exact List.mem_cons_of_mem _ (left_bytes (d :: r) (k + 1) x h)
theorem tk_bytes : ∀ (p : Bool) (l : List Sp.Ch), ∀ t ∈ Lx.tk p l, ∀ c ∈ t.text, c ∈ Lx.bytes l := by
  refine Lx.tkInd ?_ ?_ ?_
  · intro p t ht
    rw [Lx.tk_nil] at ht
    cases ht
  · intro p l hb ih t ht c hc
    rw [Lx.tk_blank p l hb] at ht
    have := ih t ht c hc
    rw [Lx.bytes_drop] at this
    exact List.mem_of_mem_drop this
  · intro p l hl hb ih t ht c hc
    rw [Lx.tk_tok p l hl hb] at ht
    rcases List.mem_cons.1 ht with rfl | ht
    · exact List.mem_of_mem_take hc
    · have := ih t ht c hc
      rw [Lx.bytes_drop] at this
      exact List.mem_of_mem_drop this
theorem no_sign {t : ByteArray} (h : (35 : UInt8) ∉ t.data.toList) : ∀ u ∈ toks 0 t, Dx.isSign u ⟨#[35]⟩ = false := by
  intro u hu
  obtain ⟨y, hy, rfl⟩ := List.mem_map.1 hu
  unfold Dx.isSign
  rw [Bool.and_eq_false_iff]
  right
  refine decide_eq_false fun e => h ?_
  have h1 : y.text = [35] := by
    have := congrArg (fun b : ByteArray => b.data.toList) e
    simpa [ofT] using this
  have h2 := tk_bytes false _ y hy 35 (by rw [h1]; simp)
  unfold Lx.bytes at h2
  obtain ⟨x, hx, hx2⟩ := List.mem_map.1 h2
  have := left_bytes _ _ x hx
  rwa [hx2] at this
theorem no_lines {t : ByteArray} (h : (35 : UInt8) ∉ t.data.toList) : askT t = [] ∧ knT t = [] := by
  have key : ∀ x ∈ Dx.lines (toks 0 t), asks x = [] ∧ defs x = [] := fun x hx => by
    obtain ⟨c, _, rfl⟩ := List.mem_map.1 hx
    have hb : Dx.begins (((toks 0 t).drop c.1).take c.2) = (1, 0) := by
      cases e : ((toks 0 t).drop c.1).take c.2 with
      | nil => rfl
      | cons u r =>
        refine Dx.begins_no u r (no_sign h u ?_)
        have : u ∈ ((toks 0 t).drop c.1).take c.2 := by rw [e]; simp
        exact List.mem_of_mem_drop (List.mem_of_mem_take this)
    unfold Dx.lnOf Dx.mkLn asks defs
    dsimp only
    rw [hb]
    exact ⟨rfl, rfl⟩
  exact ⟨List.flatMap_eq_nil_iff.2 fun x hx => (key x hx).1, List.flatMap_eq_nil_iff.2 fun x hx => (key x hx).2⟩
theorem more_same (fs : Fs) (q t : ByteArray) (h : (35 : UInt8) ∉ t.data.toList) : names (fs ++ [(q, t)]) = names fs ∧ namesE (fs ++ [(q, t)]) = namesE fs ∧ known (fs ++ [(q, t)]) = known fs := by
  obtain ⟨h1, h2⟩ := no_lines h
  have ha : ∀ x, x ∈ askedL (lns (fs ++ [(q, t)])) ↔ x ∈ askedL (lns fs) := fun x => by rw [asked_eq, asked_eq]; simp [List.flatMap_append, h1]
  have hk : ∀ x, x ∈ knownL (lns (fs ++ [(q, t)])) ↔ x ∈ knownL (lns fs) := fun x => by rw [known_eq, known_eq]; simp [List.flatMap_append, h2]
  have h0 := names0_same ha hk
  exact ⟨by unfold names; rw [h0], by unfold namesE; rw [h0], by unfold known; exact srt_same hk⟩

/-! ### What is asked for is spelled, and is not defined -/
theorem asked_spelled (fs : Fs) (x : ByteArray) (h : x ∈ names fs) : has (spelled fs) x = true ∧ has (known fs) x = false := by
  have h0 : x ∈ names0 fs := by
    unfold names at h
    split at h
    · cases h
    · exact h
  have h1 := ((srt_spec _).2 x).1 h0
  rw [List.mem_filter] at h1
  obtain ⟨h2, h3⟩ := h1
  unfold wanted at h3
  simp only [Bool.and_eq_true, Bool.not_eq_true'] at h3
  constructor
  · rw [has_iff]
    unfold spelled
    refine ((srt_spec _).2 x).2 ?_
    unfold askedL lns at h2
    rw [List.mem_flatMap] at h2
    obtain ⟨ln, hln, hx⟩ := h2
    obtain ⟨ts, hts, hl⟩ := List.mem_flatMap.1 hln
    rw [List.mem_flatMap]
    refine ⟨ts, hts, ?_⟩
    unfold asks at hx
    split at hx
    · obtain ⟨t, ht, rfl⟩ := List.mem_map.1 hx
      obtain ⟨ht1, ht2⟩ := List.mem_filter.1 ht
      exact List.mem_map.2 ⟨t, List.mem_filter.2 ⟨(lines_in ts ln hl).2 t ht1, ht2⟩, rfl⟩
    · cases hx
  · have h4 := (has_not _ _).1 h3.1.1
    rw [has_not]
    unfold known
    exact fun h5 => h4 (((srt_spec _).2 x).1 h5)
theorem names_srt (fs : Fs) : Srt (names fs) := by
  unfold names
  split
  · exact List.Pairwise.nil
  · exact (srt_spec _).1
theorem srt_next {l : List ByteArray} (h : Srt l) {i : Nat} {x y : ByteArray} (hx : l[i]? = some x) (hy : l[i + 1]? = some y) : lt x y := by
  obtain ⟨h1, e1⟩ := List.getElem?_eq_some_iff.1 hx
  obtain ⟨h2, e2⟩ := List.getElem?_eq_some_iff.1 hy
  have := List.pairwise_iff_getElem.1 h i (i + 1) h1 h2 (by omega)
  rwa [e1, e2] at this
end Go.Proofs.YtdopmmnabhcigaaGreatDoor.Wo

/- What is proved: what the document's own Put tells of any texts and one more. -/
namespace Go.Proofs.YtdopmmnabhcigaaGreatDoor
open Go.RowKit Go.Shelf

theorem bytesLess_lt : ∀ (x y : List UInt8), Op.bytesLess x y = decide (x < y) := by
  intro x
  induction x with
  | nil => intro y; cases y <;> simp [Op.bytesLess]
  | cons a x ih =>
    intro y
    cases y with
    | nil => simp [Op.bytesLess]
    | cons b y =>
      rw [Op.bytesLess, ih y]
      simp only [List.cons_lt_cons_iff]
      by_cases h1 : a < b <;> by_cases h2 : a = b <;> by_cases h3 : x < y <;> simp [h1, h2, h3]
theorem less_of {x y : ByteArray} (h : Wo.lt x y) : Op.bytesLess y.toList x.toList = false := by
  rw [bytesLess_lt, Lib.toList_data, Lib.toList_data]
  exact decide_eq_false fun h2 => Wo.lt_asymm h h2
theorem less_not {x y : ByteArray} (hn : ¬ y = x) (h : ¬ Wo.lt x y) : Op.bytesLess y.toList x.toList = true := by
  rw [bytesLess_lt, Lib.toList_data, Lib.toList_data]
  exact decide_eq_true ((Wo.lt_or hn).resolve_right h)
theorem Wo.put_in {l : List ByteArray} {x : ByteArray} (h : x ∈ l) : Wo.put l x = l := by
  unfold Wo.put
  rw [if_pos ((Wo.has_iff _ _).2 h)]
theorem Wo.put_end {l : List ByteArray} {x : ByteArray} (h : x ∉ l) : Wo.put l x = if (Wo.putTo x l).2 then (Wo.putTo x l).1 else (Wo.putTo x l).1 ++ [x] := by
  unfold Wo.put
  rw [if_neg (by rw [Wo.has_iff]; exact h)]
theorem Wo.putTo_len (x : ByteArray) (l : List ByteArray) : (Wo.putTo x l).1.length ≤ l.length + 1 ∧ ((Wo.putTo x l).2 = false → (Wo.putTo x l).1.length = l.length) := by
  induction l using Wo.snoc_ind with
  | nil => exact ⟨by simp [Wo.putTo], fun _ => rfl⟩
  | snoc l a ih =>
    rw [Wo.putTo_snoc]
    unfold Wo.putSt
    cases hd : (Wo.putTo x l).2 with
    | false =>
      have := ih.2 hd
      by_cases hl : Wo.lt x a
      · rw [if_pos ⟨rfl, hl⟩]
        exact ⟨by simp; omega, fun h => by simp at h⟩
      · rw [if_neg fun h => hl h.2]
        exact ⟨by simp; omega, fun _ => by simp; omega⟩
    | true =>
      rw [if_neg fun h => by cases h.1]
      exact ⟨by have := ih.1; simp; omega, fun h => by cases h⟩

set_option maxRecDepth 100000 in
set_option maxHeartbeats 8000000 in
theorem rput_any (v : Value) (l : List ByteArray) (x : ByteArray) (hl : l.length ≤ 1000000000) (w : World) (hv : Sts w v l) :
    Calls Tryz.prog 23 #[v, .string x] w fun e W' => ∃ u, e = .returned u ∧ Sts W' u (Wo.put l x) ∧ Below w.heap.size w W' := by
  obtain ⟨i0, hi, hz0, hz1, hz2⟩ := info_parts infoStr
  obtain ⟨ad, cap, rfl, hc1, hc2, -⟩ := id hv
  unfold maxLen at hc2
  obtain ⟨N, hN⟩ : ∃ N, N = l.length := ⟨_, rfl⟩
  rw [← hN] at hl hc1 ⊢
  have HV : Hid (Sts w (.slice ad N cap) l) := Lib.hid (by rw [hN]; exact hv)
  have HN := Lib.hid hN
  clear hv hN
  go_enter Tryz.func23, Tryz.ntmps23
  go_wp2_with fail
  go_loopw [5, 6, 7] (fun o d i wr => ∃ k : Nat, i = .int .i64 k ∧ k ≤ N ∧ x ∉ l.take k ∧ d = .bool (Wo.putTo x (l.take k)).2 ∧ wr.ownsRow w.heap.size 9 1 o (Wo.putTo x (l.take k)).1.length (strCells (Wo.putTo x (l.take k)).1) ∧ Below w.heap.size w wr) (fun _ _ i _ => N - (intOf i).toNat)
  case atStart => exact ⟨0, rfl, Nat.zero_le _, by simp, by simp [Wo.putTo], World.ownsRow_nil _ _ _ _, Below.refl _ _⟩
  case round =>
    obtain ⟨k, rfl, hk, hno, rfl, hrow, hB⟩ := hrel
    by_cases hlt : k < N
    · obtain ⟨g, o, rfl, -, -, -, hg, hc⟩ := HV.out.cells (by rw [← HN.out]; omega)
      obtain ⟨y, hy⟩ : ∃ y, l[k]? = some y := ⟨_, List.getElem?_eq_getElem (by rw [← HN.out]; exact hlt)⟩
      have CX := Lib.hid (hc k y hy)
      have d0 := (hB.cell (p := ⟨g, o + k, none⟩) hg).trans CX.out
      have z1 : (0 : Int) ≤ k := by omega
      have z2 : (k : Int) < N := by omega
      by_cases hxy : y = x
      · subst hxy
        have HM := Lib.hid (List.mem_of_getElem? hy)
        have t4 : (y.toList == y.toList) = true := by simp
        have HB := Lib.hid hB
        clear hc hy hno hrow hB
        go_wp2_with fail
        go_ret
        exact ⟨_, rfl, by rw [Wo.put_in HM.out]; exact HV.out.below HB.out, HB.out⟩
      · have hn2 : x ∉ l.take (k + 1) := by
          rw [List.take_add_one, hy]
          intro h
          rcases List.mem_append.1 h with h | h
          · exact hno h
          · simp at h; exact hxy h.symm
        have hto : Wo.putTo x (l.take (k + 1)) = Wo.putSt x (Wo.putTo x (l.take k)) y := by rw [List.take_add_one, hy]; exact Wo.putTo_snoc _ _ _
        have hlen := (Wo.putTo_len x (l.take k)).1
        rw [List.length_take] at hlen
        have t4 := lit_ne hxy
        obtain ⟨p, hp⟩ : ∃ p, p = Wo.putTo x (l.take k) := ⟨_, rfl⟩
        rw [← hp] at hrow hto hlen ⊢
        obtain ⟨pl, pd⟩ := p
        dsimp only at hrow hlen ⊢
        have HN2 := Lib.hid hn2
        have HTo := Lib.hid hto
        obtain ⟨m, hm⟩ : ∃ m, m = pl.length := ⟨_, rfl⟩
        rw [← hm] at hrow hlen
        have Hm := Lib.hid hm
        cases pd with
        | true =>
          clear hc hy hno hxy hn2 hto hp hm
          have hsB := hB.size
          go_wp2_with (first
            | (at_builtin; refine wpList_append_own _ rfl _ _ 25 rfl w.heap.size 9 i0 (.string ByteArray.empty) 1 16 Tryz.underlying25 hi hz0 hz1 hz2 rfl (by decide) _ _ _ rfl (hrow.alloc _) ⟨wr.heap.size, 0, none⟩ 1 1 [.string y] rfl rfl (cell_one_new _ _ _) (by simp [Value.oneCell']) (by unfold maxLen; omega) (by omega) (by simp; omega) ?_; intro v5 w5 hown5 hg5 hnil; go_frame)
            | fail)
          go_roundw
          case rel =>
            have e1 : Wo.putSt x (pl, true) y = (pl ++ [y], true) := by unfold Wo.putSt; rw [if_neg fun h => by cases h.1]
            refine ⟨k + 1, by go_num, by omega, HN2.out, by rw [HTo.out, e1], ?_, (hB.alloc hsB _).grown hg5 (by simp; omega) (fun j e => (hrow.lt j e).1)⟩
            rw [HTo.out, e1, List.length_append, ← Hm.out, strCells_append]
            exact hown5
          case measure => simp [intOf]; omega
        | false =>
          by_cases hlt2 : Wo.lt x y
          · have t5 := less_of hlt2
            have HLt := Lib.hid hlt2
            clear hc hy hno hxy hn2 hto hp hm hlt2
            have hsB := hB.size
            go_wp2_with (first
              | (at_builtin; refine wpList_append_own _ rfl _ _ 25 rfl w.heap.size 9 i0 (.string ByteArray.empty) 1 16 Tryz.underlying25 hi hz0 hz1 hz2 rfl (by decide) _ _ _ rfl (hrow.alloc _) ⟨wr.heap.size, 0, none⟩ 1 1 [.string x] rfl rfl (cell_one_new _ _ _) (by simp [Value.oneCell']) (by unfold maxLen; omega) (by omega) (by simp; omega) ?_; intro v5 w5 hown5 hg5 hnil; have d5 := (((hB.alloc hsB (.cells #[.string x] 9)).grown hg5 (by simp; omega) (fun j e => (hrow.lt j e).1)).cell (p := ⟨g, o + k, none⟩) hg).trans CX.out; go_frame)
              | (have hs5 := hg5.size; (at_builtin; refine wpList_append_own _ rfl _ _ 25 rfl w.heap.size 9 i0 (.string ByteArray.empty) 1 16 Tryz.underlying25 hi hz0 hz1 hz2 rfl (by decide) _ _ _ rfl (hown5.alloc _) ⟨w5.heap.size, 0, none⟩ 1 1 [.string y] rfl rfl (cell_one_new _ _ _) (by simp [Value.oneCell']) (by unfold maxLen; omega) (by omega) (by simp at hs5 ⊢; omega) ?_; intro v6 w6 hown6 hg6 hnil; go_frame))
              | fail)
            go_roundw
            case rel =>
              have e1 : Wo.putSt x (pl, false) y = (pl ++ [x] ++ [y], true) := by unfold Wo.putSt; rw [if_pos ⟨rfl, HLt.out⟩]
              have b5 : Below w.heap.size w w5 := (hB.alloc hsB _).grown hg5 (by simp; omega) (fun j e => (hrow.lt j e).1)
              refine ⟨k + 1, by go_num, by omega, HN2.out, by rw [HTo.out, e1], ?_, (b5.alloc b5.size _).grown hg6 (by have := b5.size; simp; omega) (fun j e => (hown5.lt j e).1)⟩
              rw [HTo.out, e1, List.length_append, List.length_append, ← Hm.out, strCells_append, strCells_append]
              exact hown6
            case measure => simp [intOf]; omega
          · have t5 := less_not hxy hlt2
            have HLt := Lib.hid hlt2
            clear hc hy hno hxy hn2 hto hp hm hlt2
            have hsB := hB.size
            go_wp2_with (first
              | (at_builtin; refine wpList_append_own _ rfl _ _ 25 rfl w.heap.size 9 i0 (.string ByteArray.empty) 1 16 Tryz.underlying25 hi hz0 hz1 hz2 rfl (by decide) _ _ _ rfl (hrow.alloc _) ⟨wr.heap.size, 0, none⟩ 1 1 [.string y] rfl rfl (cell_one_new _ _ _) (by simp [Value.oneCell']) (by unfold maxLen; omega) (by omega) (by simp; omega) ?_; intro v5 w5 hown5 hg5 hnil; go_frame)
              | fail)
            go_roundw
            case rel =>
              have e1 : Wo.putSt x (pl, false) y = (pl ++ [y], false) := by unfold Wo.putSt; rw [if_neg fun h => HLt.out h.2]
              refine ⟨k + 1, by go_num, by omega, HN2.out, by rw [HTo.out, e1], ?_, (hB.alloc hsB _).grown hg5 (by simp; omega) (fun j e => (hrow.lt j e).1)⟩
              rw [HTo.out, e1, List.length_append, ← Hm.out, strCells_append]
              exact hown5
            case measure => simp [intOf]; omega
    · obtain rfl : k = N := by omega
      have hto : l.take k = l := List.take_of_length_le (by rw [← HN.out]; exact Nat.le_refl _)
      rw [hto] at hno hrow ⊢
      have hend := Wo.put_end hno
      have hlen := (Wo.putTo_len x l).1
      rw [← HN.out] at hlen
      obtain ⟨p, hp⟩ : ∃ p, p = Wo.putTo x l := ⟨_, rfl⟩
      rw [← hp] at hrow hend hlen ⊢
      obtain ⟨pl, pd⟩ := p
      dsimp only at hrow hlen hend ⊢
      obtain ⟨m, hm⟩ : ∃ m, m = pl.length := ⟨_, rfl⟩
      rw [← hm] at hrow hlen
      have Hm := Lib.hid hm
      have HE := Lib.hid hend
      have hsB := hB.size
      clear hp hm hto hno hend
      cases pd with
      | true =>
        have HE2 : Hid (Wo.put l x = pl) := Lib.hid (by rw [HE.out]; rfl)
        clear HE
        go_wp2_with fail
        go_ret
        exact ⟨_, rfl, by rw [HE2.out]; exact Sts.of_row hrow, hB⟩
      | false =>
        have HE2 : Hid (Wo.put l x = pl ++ [x]) := Lib.hid (by rw [HE.out]; rfl)
        clear HE
        go_wp2_with (first
          | (at_builtin; refine wpList_append_own _ rfl _ _ 25 rfl w.heap.size 9 i0 (.string ByteArray.empty) 1 16 Tryz.underlying25 hi hz0 hz1 hz2 rfl (by decide) _ _ _ rfl (hrow.alloc _) ⟨wr.heap.size, 0, none⟩ 1 1 [.string x] rfl rfl (cell_one_new _ _ _) (by simp [Value.oneCell']) (by unfold maxLen; omega) (by omega) (by simp; omega) ?_; intro v5 w5 hown5 hg5 hnil; go_frame)
          | fail)
        go_ret
        exact ⟨_, rfl, by rw [HE2.out]; exact Sts.of_row (n := m + 1) (by rw [strCells_append]; exact hown5), (hB.alloc hsB _).grown hg5 (by simp; omega) (fun j e => (hrow.lt j e).1)⟩
end Go.Proofs.YtdopmmnabhcigaaGreatDoor

/- The document's own Tokens, what tpl8 had left out. -/
namespace Go.Proofs.YtdopmmnabhcigaaGreatDoor
open Go.RowKit Go.Shelf
open Lx (T)
set_option maxRecDepth 100000 in
set_option maxHeartbeats 1000000 in
theorem refjoin_row (s : ByteArray) (hs : s.size ≤ 4000000000) (w : World) :
    Calls Tryz.prog 37 #[.string s] w fun e W' => ∃ v, e = .returned v ∧ W'.ownsRow w.heap.size 73 2 v (Sp.left 0 s.data.toList).length (cellsC (Sp.left 0 s.data.toList)) ∧ Below w.heap.size w W' := by
  obtain ⟨i0, hi, hz0, hz1, hz2⟩ := info_parts info37
  have hfull := Sp.left_le 0 s.data.toList
  rw [size_list] at hfull
  go_enter Tryz.func37, Tryz.ntmps37
  go_wp2_with fail
  go_loopw [3, 4] (fun v i wr => ∃ (k : Nat) (pre : List Sp.Ch), i = .int .i64 k ∧ Split s.data.toList k pre ∧ wr.ownsRow w.heap.size 73 2 v pre.length (cellsC pre) ∧ Below w.heap.size w wr) (fun _ i _ => s.size - (intOf i).toNat)
  case atStart => exact ⟨0, [], rfl, split_start _, World.ownsRow_nil _ _ _ _, Below.refl _ _⟩
  case round =>
    obtain ⟨k, pre, rfl, hsp, hrow, hB⟩ := hrel
    have hsB := hB.size
    have hkl := hsp.1
    rw [size_list] at hkl
    by_cases hlt : k < s.size
    · have hlt' : k < s.data.toList.length := by rw [size_list]; exact hlt
      cases hp : Lib.hasPrefix (s.data.toList.drop k) [92, 10] with
      | true =>
        obtain ⟨h2, hsp2⟩ := split_pair hsp hp
        rw [size_list] at h2
        obtain ⟨q1, q2⟩ := (pair_at s k (by omega)).1 hp
        have e1 : ((s[k].toNat : Int) == 92) = true := by rw [q1]; rfl
        have e2 : ((s[k + 1].toNat : Int) == 10) = true := by rw [q2]; rfl
        have e3 : k + 1 < s.size := by omega
        clear hp q1 q2
        go_wp2_with fail
        go_roundw
        case rel => exact ⟨k + 2, pre, by go_num, hsp2, hrow, hB⟩
        case measure => simp [intOf]; omega
      | false =>
        obtain ⟨hsp2, hpre, hlen⟩ := split_one hsp hlt' hp
        rw [byte_at s k hlt] at hsp2
        have hcase : ((s[k].toNat : Int) == 92) = false ∨ (((s[k].toNat : Int) == 92) = true ∧ ¬ k + 1 < s.size) ∨ (∃ h : k + 1 < s.size, ((s[k].toNat : Int) == 92) = true ∧ ((s[k + 1].toNat : Int) == 10) = false) := by
          have t1 : ((s[k].toNat : Int) == 92) = decide (s[k] = 92) := toNat_eq s[k] 92 (by decide)
          by_cases e1 : s[k] = 92
          · by_cases e2 : k + 1 < s.size
            · have t2 : ((s[k + 1].toNat : Int) == 10) = decide (s[k + 1] = 10) := toNat_eq s[k + 1] 10 (by decide)
              have e3 : ¬ s[k + 1] = 10 := fun e3 => by rw [(pair_at s k e2).2 ⟨e1, e3⟩] at hp; cases hp
              exact .inr (.inr ⟨e2, by rw [t1, decide_eq_true e1], by rw [t2, decide_eq_false e3]⟩)
            · exact .inr (.inl ⟨by rw [t1, decide_eq_true e1], e2⟩)
          · exact .inl (by rw [t1, decide_eq_false e1])
        clear hp hpre
        rcases hcase with e1 | ⟨e1, e2⟩ | ⟨e2, e1, e3⟩
        all_goals
          go_wp2_with (at_builtin; refine wpList_append_own _ rfl _ _ 66 rfl w.heap.size 73 i0 (.agg #[.int .u8 0, .int .i64 0]) 2 16 Tryz.underlying66 hi hz0 hz1 hz2 rfl (by decide) _ _ _ rfl (hrow.alloc _) ⟨wr.heap.size, 0, none⟩ 1 1 [.int .u8 s[k].toNat, .int .i64 k] rfl rfl (cell_two_new _ _ _ _) (by simp [Value.oneCell']) (by unfold maxLen; omega) (by omega) (by simp; omega) ?_; intro v' w2 hown' hgrow _; obtain ⟨g', cap', rfl⟩ := ownsRow_succ hown')
          go_roundw
          case rel =>
            refine ⟨k + 1, pre ++ [(s[k], k)], by go_num, hsp2, ?_, ?_⟩
            · rw [List.length_append, cellsC_append]; exact hown'
            · exact (hB.alloc hsB _).grown hgrow (by simp; omega) (fun j ej => (hrow.lt j ej).1)
          case measure => simp [intOf]; omega
    · have he := split_end hsp (by rw [size_list]; omega)
      go_wp2_with fail
      go_ret
      rw [← he]
      exact ⟨_, rfl, hrow, hB⟩

theorem refjoin_any (s : ByteArray) (hs : s.size ≤ 4000000000) (w : World) : Calls Tryz.prog 37 #[.string s] w (JoinPost w s.data.toList) :=
  (refjoin_row s hs w).mono fun _ _ ⟨v, h1, h2, h3⟩ => ⟨v, h1, Chars.of_row h2, h3⟩
set_option maxRecDepth 100000 in
set_option maxHeartbeats 1000000 in
theorem reftext_any (v : Value) (l : List Sp.Ch) (w : World) (hv : Chars w v l) (hl : l.length ≤ 4000000000) :
    Calls Tryz.prog 38 #[v] w fun e w' => e = .returned (.string ⟨(l.map Prod.fst).toArray⟩) ∧ Below w.heap.size w w' := by
  obtain ⟨ad, cap, rfl, -⟩ := id hv
  rcases Nat.eq_zero_or_pos l.length with h0 | hpos
  · obtain rfl : l = [] := List.length_eq_zero_iff.1 h0
    clear hv
    go_enter Tryz.func38, Tryz.ntmps38
    go_wp2_with fail
    go_loop [3, 4] (fun t i => t = .string ⟨#[]⟩ ∧ i = .int .i64 0) (fun _ _ => 0)
    case atStart => exact ⟨rfl, rfl⟩
    case round =>
      obtain ⟨rfl, rfl⟩ := hrel
      go_wp2_with fail
      go_ret
      exact ⟨rfl, Below.refl _ _⟩
  · obtain ⟨g, o, rfl, _, hcap, hmax, hg, hc⟩ := hv.cells hpos
    unfold maxLen at hmax
    obtain ⟨n, hn⟩ : ∃ n, n = l.length := ⟨_, rfl⟩
    rw [← hn] at hl hcap hpos
    rw [← hn]
    have Hn := Lib.hid hn
    have HC := Lib.hid hc
    clear hn hc hv
    go_enter Tryz.func38, Tryz.ntmps38
    go_wp2_with fail
    go_loopw [3, 4] (fun t i wr => ∃ (k : Nat) (acc : List UInt8), i = .int .i64 k ∧ t = .string ⟨acc.toArray⟩ ∧ acc = (l.map Prod.fst).take k ∧ k ≤ n ∧ Below w.heap.size w wr) (fun _ i _ => n - (intOf i).toNat)
    case atStart => exact ⟨0, [], rfl, rfl, rfl, Nat.zero_le _, Below.refl _ _⟩
    case round =>
      obtain ⟨k, acc, rfl, rfl, ha, hk, hB⟩ := hrel
      have hsB := hB.size
      have hlen : acc.length ≤ k := by rw [ha]; simp; omega
      have HA := Lib.hid ha
      clear ha
      by_cases hlt : k < n
      · obtain ⟨x, hx⟩ : ∃ x, l[k]? = some x := ⟨_, List.getElem?_eq_getElem (by rw [← Hn.out]; exact hlt)⟩
        obtain ⟨c0, c1⟩ := HC.out k x hx
        have d0 : wr.cell? ⟨g, o + k * 2, none⟩ = some (.int .u8 x.1.toNat) := (hB.cell (p := ⟨g, o + k * 2, none⟩) hg).trans c0
        have ht : acc ++ [x.1] = (l.map Prod.fst).take (k + 1) := by
          have hx' : (l.map Prod.fst)[k]? = some x.1 := by rw [List.getElem?_map, hx]; rfl
          obtain ⟨hk2, hx2⟩ := List.getElem?_eq_some_iff.1 hx'
          rw [List.take_succ_eq_append_getElem hk2, hx2, HA.out]
        have HT := Lib.hid ht
        clear ht hx c0 c1
        have hcv := conv_one x.1 wr
        have had : ∀ W, (Op.stringOp .add ⟨acc.toArray⟩ ⟨#[x.1]⟩).run Tryz.prog W = .ok (.string ⟨(acc ++ [x.1]).toArray⟩) W := fun W => add_run acc [x.1] (by simp; omega) W
        go_wp2_with fail
        go_roundw
        case rel => exact ⟨k + 1, acc ++ [x.1], by go_num, by simp, HT.out, by omega, hB.alloc hsB _⟩
        case measure => simp [intOf]; omega
      · go_wp2_with fail
        go_ret
        refine ⟨?_, hB⟩
        have e : l.map Prod.fst = acc := by rw [HA.out, List.take_of_length_le (by rw [List.length_map, ← Hn.out]; omega)]
        rw [e]
        rfl
set_option maxHeartbeats 1000000 in
theorem rletter_any (c : UInt8) (w : World) : Calls Tryz.prog 82 #[.int .u8 c.toNat] w fun e w' => e = .returned (.bool (Lx.letter c)) ∧ w = w' := by
  have hl := letter_int c
  obtain ⟨b, hb⟩ : ∃ b, b = Lx.letter c := ⟨_, rfl⟩
  rw [← hb] at hl ⊢
  obtain ⟨n, hn⟩ : ∃ n : Int, n = c.toNat := ⟨_, rfl⟩
  rw [← hn] at hl ⊢
  have HL := Lib.hid hl
  clear hl hn hb
  go_enter Tryz.func82, Tryz.ntmps82
  go_wp2_with fail
  all_goals
    go_ret
    refine ⟨ret_bool ?_, rfl⟩
    rw [HL.out, Bool.eq_iff_iff]
    simp
    try omega

set_option maxHeartbeats 1000000 in
theorem rdigit_any (c : UInt8) (w : World) : Calls Tryz.prog 83 #[.int .u8 c.toNat] w fun e w' => e = .returned (.bool (Lx.digit c)) ∧ w = w' := by
  have hl := digit_int c
  obtain ⟨b, hb⟩ : ∃ b, b = Lx.digit c := ⟨_, rfl⟩
  rw [← hb] at hl ⊢
  obtain ⟨n, hn⟩ : ∃ n : Int, n = c.toNat := ⟨_, rfl⟩
  rw [← hn] at hl ⊢
  have HL := Lib.hid hl
  clear hl hn hb
  go_enter Tryz.func83, Tryz.ntmps83
  go_wp2_with fail
  all_goals
    go_ret
    refine ⟨ret_bool ?_, rfl⟩
    rw [HL.out, Bool.eq_iff_iff]
    simp
    try omega

end Go.Proofs.YtdopmmnabhcigaaGreatDoor

/- The document's own Tokens, what tpl8 had left out. -/
namespace Go.Proofs.YtdopmmnabhcigaaGreatDoor
open Go.RowKit Go.Shelf
open Lx (T)
set_option maxHeartbeats 1000000 in
theorem is_any (s p : ByteArray) (i : Nat) (hs : s.size ≤ 4000000000) (hi : i ≤ s.size) (hp : p.size ≤ 100) (hp0 : 0 < p.size) (w : World) :
    Calls Tryz.prog 51 #[.string s, .int .i64 i, .string p] w fun e w' => e = .returned (.bool (p.data.toList.isPrefixOf (s.data.toList.drop i))) ∧ w = w' := by
  by_cases h : i + p.size ≤ s.size
  · have hx := is_pre s p i
    obtain ⟨b, hb⟩ : ∃ b, b = p.data.toList.isPrefixOf (s.data.toList.drop i) := ⟨_, rfl⟩
    rw [← hb] at hx ⊢
    have HL := Lib.hid hx
    clear hx hb
    go_enter Tryz.func51, Tryz.ntmps51
    go_wp2_with fail
    go_ret
    exact ⟨ret_bool (by rw [HL.out, ba_beq]), rfl⟩
  · have hx := is_short s p i h hp0
    have HL := Lib.hid hx
    clear hx
    go_enter Tryz.func51, Tryz.ntmps51
    go_wp2_with fail
    go_ret
    exact ⟨ret_bool HL.out.symm, rfl⟩

set_option maxHeartbeats 2000000 in
set_option maxRecDepth 100000 in
theorem rblank_any (s : ByteArray) (i : Nat) (hs : s.size ≤ 4000000000) (hi : i < s.size) (w : World) :
    Calls Tryz.prog 39 #[.string s, .int .i64 i] w fun e w' => e = .returned (.int .i64 ((i + Lx.blankLen (s.data.toList.drop i) : Nat) : Int)) ∧ w = w' := by
  have hd := drop_at s i hi
  have hbl : Lx.blankLen (s.data.toList.drop i) = if Lx.isBl s[i] then 1 else Lx.commentLen (s.data.toList.drop i) := by
    conv => lhs; rw [hd]
    rw [Lx.blankLen_cons, ← hd]
  obtain ⟨R, hR⟩ : ∃ R, R = i + Lx.blankLen (s.data.toList.drop i) := ⟨_, rfl⟩
  rw [← hR]
  rw [hbl] at hR
  clear hbl
  have hi2 := isBl_range s[i]
  cases hB : Lx.isBl s[i] with
  | true =>
    rw [hB] at hi2 hR
    rw [if_pos rfl] at hR
    subst hR
    have hcase : ((s[i].toNat : Int) == 32) = true ∨ (((s[i].toNat : Int) == 32) = false ∧ ((s[i].toNat : Int) == 9) = true) ∨ (((s[i].toNat : Int) == 32) = false ∧ ((s[i].toNat : Int) == 9) = false ∧ 11 ≤ (s[i].toNat : Int) ∧ (s[i].toNat : Int) ≤ 13) := by
      cases h1 : ((s[i].toNat : Int) == 32) with
      | true => exact .inl rfl
      | false =>
        cases h2 : ((s[i].toNat : Int) == 9) with
        | true => exact .inr (.inl ⟨rfl, rfl⟩)
        | false =>
          rw [h1, h2] at hi2
          simp at hi2
          exact .inr (.inr ⟨rfl, rfl, by omega, by omega⟩)
    clear hi2 hB hd
    rcases hcase with h1 | ⟨h1, h2⟩ | ⟨h1, h2, h3, h4⟩
    all_goals
      go_enter Tryz.func39, Tryz.ntmps39
      go_wp2_with fail
      go_ret
      exact ⟨ret_int (by omega), rfl⟩
  | false =>
    rw [hB] at hi2 hR
    rw [if_neg (by simp)] at hR
    have h1 : ((s[i].toNat : Int) == 32) = false := by cases h : ((s[i].toNat : Int) == 32) with | false => rfl | true => rw [h] at hi2; simp at hi2
    have h2 : ((s[i].toNat : Int) == 9) = false := by cases h : ((s[i].toNat : Int) == 9) with | false => rfl | true => rw [h] at hi2; simp at hi2
    have h3 : (s[i].toNat : Int) < 11 ∨ (11 ≤ (s[i].toNat : Int) ∧ 13 < (s[i].toNat : Int)) := by
      rw [h1, h2] at hi2
      simp at hi2
      omega
    have HR := Lib.hid hR
    clear hi2 hB hd hR
    cases hL : [47, 47].isPrefixOf (s.data.toList.drop i) with
    | true =>
      have hR2 : R = i + Lx.lineLen (s.data.toList.drop i) := by rw [HR.out, comment_line _ hL]
      have HL := Lib.hid hL
      have HR2 := Lib.hid hR2
      clear hL hR2
      rcases h3 with h3 | ⟨h3, h4⟩
      all_goals
        go_enter Tryz.func39, Tryz.ntmps39
        go_wp2_with fail
        refine (is_any s ⟨#[47, 47]⟩ i hs (by omega) (by decide) (by decide) _).mono ?_
        rintro e w' ⟨rfl, rfl⟩
        rw [show (⟨#[47, 47]⟩ : ByteArray).data.toList = [47, 47] from rfl, HL.out]
        go_wp2_with fail
        go_loop [1] (fun x => ∃ k : Nat, x = .int .i64 k ∧ k ≤ s.size ∧ R = k + Lx.lineLen (s.data.toList.drop k)) (fun x => s.size - (intOf x).toNat)
        case atStart => exact ⟨i, rfl, by omega, HR2.out⟩
        case round =>
          obtain ⟨k, rfl, hk, he⟩ := hrel
          have HE := Lib.hid he
          clear he
          by_cases hlt : k < s.size
          · have hd := Lib.hid (drop_at s k hlt)
            by_cases hnl : s[k] = 10
            · have t1 : ((s[k].toNat : Int) == 10) = true := u8_eq hnl
              have t2 : ((s[k].toNat : Int) != 10) = false := by simp [bne, t1]
              have HN := Lib.hid hnl
              clear hnl
              go_wp2_with fail
              go_ret
              exact ⟨ret_int (by rw [HE.out, hd.out, HN.out, line_no]; simp), rfl⟩
            · have t1 : ((s[k].toNat : Int) == 10) = false := u8_ne hnl
              have t2 : ((s[k].toNat : Int) != 10) = true := by simp [bne, t1]
              have HN := Lib.hid hnl
              clear hnl
              go_wp2_with fail
              go_round
              case rel => exact ⟨k + 1, by go_num, by omega, by rw [HE.out, hd.out, line_yes _ _ HN.out]; omega⟩
              case measure => simp [intOf]; omega
          · go_wp2_with fail
            go_ret
            exact ⟨ret_int (by rw [HE.out, drop_end s k (by omega)]; simp [Lx.lineLen]), rfl⟩
    | false =>
      cases hK : [47, 42].isPrefixOf (s.data.toList.drop i) with
      | true =>
        obtain ⟨h2l, hce⟩ := comment_block _ hK i
        rw [← HR.out, List.drop_drop] at hce
        rw [List.length_drop, size_list] at h2l
        have HL := Lib.hid hL
        have HK := Lib.hid hK
        have HC := Lib.hid hce
        clear hL hK hce
        rcases h3 with h3 | ⟨h3, h4⟩
        all_goals
          go_enter Tryz.func39, Tryz.ntmps39
          go_wp2_with fail
          refine (is_any s ⟨#[47, 47]⟩ i hs (by omega) (by decide) (by decide) _).mono ?_
          rintro e w' ⟨rfl, rfl⟩
          rw [show (⟨#[47, 47]⟩ : ByteArray).data.toList = [47, 47] from rfl, HL.out]
          go_wp2_with fail
          refine (is_any s ⟨#[47, 42]⟩ i hs (by omega) (by decide) (by decide) _).mono ?_
          rintro e w' ⟨rfl, rfl⟩
          rw [show (⟨#[47, 42]⟩ : ByteArray).data.toList = [47, 42] from rfl, HK.out]
          go_wp2_with fail
          go_loop [7] (fun x => ∃ k : Nat, x = .int .i64 k ∧ i + 2 ≤ k ∧ k ≤ s.size ∧ R = cend i k (Lx.clos (s.data.toList.drop k))) (fun x => s.size - (intOf x).toNat)
          case atStart => exact ⟨i + 2, by go_num, Nat.le_refl _, by omega, HC.out⟩
          case round =>
            obtain ⟨k, rfl, hk2, hk, he⟩ := hrel
            have HE := Lib.hid he
            clear he
            by_cases hlt : k < s.size
            · have hd := Lib.hid (drop_at s k hlt)
              cases hQ : [42, 47].isPrefixOf (s.data.toList.drop k) with
              | true =>
                have HQ := Lib.hid hQ
                clear hQ
                go_wp2_with fail
                refine (is_any s ⟨#[42, 47]⟩ k hs (by omega) (by decide) (by decide) _).mono ?_
                rintro e w' ⟨rfl, rfl⟩
                rw [show (⟨#[42, 47]⟩ : ByteArray).data.toList = [42, 47] from rfl, HQ.out]
                go_wp2_with fail
                go_ret
                exact ⟨ret_int (by rw [HE.out, clos_hit _ HQ.out]; simp [cend]), rfl⟩
              | false =>
                have hQ' := hQ
                rw [hd.out] at hQ'
                have HQ := Lib.hid hQ
                have HQ' := Lib.hid hQ'
                clear hQ hQ'
                go_wp2_with fail
                refine (is_any s ⟨#[42, 47]⟩ k hs (by omega) (by decide) (by decide) _).mono ?_
                rintro e w' ⟨rfl, rfl⟩
                rw [show (⟨#[42, 47]⟩ : ByteArray).data.toList = [42, 47] from rfl, HQ.out]
                go_wp2_with fail
                go_round
                case rel => exact ⟨k + 1, by go_num, by omega, by omega, by rw [HE.out, hd.out, clos_on _ _ HQ'.out, cend_map]⟩
                case measure => simp [intOf]; omega
            · go_wp2_with fail
              go_ret
              exact ⟨ret_int (by rw [HE.out, drop_end s k (by omega)]; rfl), rfl⟩
      | false =>
        have hR2 : R = i := by rw [HR.out, comment_no _ hL hK]; rfl
        have HL := Lib.hid hL
        have HK := Lib.hid hK
        subst hR2
        clear hL hK
        rcases h3 with h3 | ⟨h3, h4⟩
        all_goals
          go_enter Tryz.func39, Tryz.ntmps39
          go_wp2_with fail
          refine (is_any s ⟨#[47, 47]⟩ _ hs (by omega) (by decide) (by decide) _).mono ?_
          rintro e w' ⟨rfl, rfl⟩
          rw [show (⟨#[47, 47]⟩ : ByteArray).data.toList = [47, 47] from rfl, HL.out]
          go_wp2_with fail
          refine (is_any s ⟨#[47, 42]⟩ _ hs (by omega) (by decide) (by decide) _).mono ?_
          rintro e w' ⟨rfl, rfl⟩
          rw [show (⟨#[47, 42]⟩ : ByteArray).data.toList = [47, 42] from rfl, HK.out]
          go_wp2_with fail
          go_ret
          exact ⟨rfl, rfl⟩


set_option maxHeartbeats 2000000 in
theorem word_any (s : ByteArray) (i : Nat) (hs : s.size ≤ 4000000000) (hi : i < s.size) (w : World) :
    Calls Tryz.prog 52 #[.string s, .int .i64 i] w fun e w' => e = .returned (.int .i64 (rword (s.data.toList.drop i))) ∧ w = w' := by
  have hd := drop_at s i hi
  obtain ⟨R, hR⟩ : ∃ R, R = rword (s.data.toList.drop i) := ⟨_, rfl⟩
  rw [← hR]
  cases hL : Lx.letter s[i] with
  | true =>
    have hR2 : R = Lx.wordLen (s.data.toList.drop i) := by rw [hR, hd, rword_cons, if_pos hL]
    have HR := Lib.hid hR2
    have HL := Lib.hid hL
    clear hR hR2 hd hL
    go_enter Tryz.func52, Tryz.ntmps52
    go_wp2_with fail
    go_loop [5] (fun n => ∃ k : Nat, n = .int .i64 k ∧ i + k ≤ s.size ∧ R = k + Lx.wordLen (s.data.toList.drop (i + k))) (fun n => s.size - (intOf n).toNat)
    case atStart => exact ⟨0, rfl, by omega, by rw [HR.out]; simp⟩
    case round =>
      obtain ⟨k, rfl, hk, he⟩ := hrel
      have HE := Lib.hid he
      clear he
      by_cases hlt : i + k < s.size
      · have hd := Lib.hid (drop_at s (i + k) hlt)
        cases hL2 : Lx.letter s[i + k] with
        | true =>
          go_wp2_with (go_at_call 82; refine (rletter_any _ _).mono ?_; rintro e w' ⟨rfl, rfl⟩)
          go_round
          case rel => exact ⟨k + 1, by go_num, by omega, by rw [HE.out, hd.out, word_yes _ _ (by simp [Lx.alnum, hL2])]; rw [show i + (k + 1) = i + k + 1 by omega]; omega⟩
          case measure => simp [intOf]; omega
        | false =>
          have hk0 : 0 < k := by
            rcases Nat.eq_zero_or_pos k with h | h
            · exfalso
              subst h
              have := HL.out
              simp only [Nat.add_zero] at hL2
              rw [this] at hL2; cases hL2
            · exact h
          cases hD : Lx.digit s[i + k] with
          | true =>
            go_wp2_with (first | (go_at_call 82; refine (rletter_any _ _).mono ?_; rintro e w' ⟨rfl, rfl⟩) | (go_at_call 83; refine (rdigit_any _ _).mono ?_; rintro e w' ⟨rfl, rfl⟩))
            go_round
            case rel => exact ⟨k + 1, by go_num, by omega, by rw [HE.out, hd.out, word_yes _ _ (by simp [Lx.alnum, hD])]; rw [show i + (k + 1) = i + k + 1 by omega]; omega⟩
            case measure => simp [intOf]; omega
          | false =>
            go_wp2_with (first | (go_at_call 82; refine (rletter_any _ _).mono ?_; rintro e w' ⟨rfl, rfl⟩) | (go_at_call 83; refine (rdigit_any _ _).mono ?_; rintro e w' ⟨rfl, rfl⟩))
            go_ret
            refine ⟨ret_int ?_, rfl⟩
            rw [HE.out, hd.out, word_no _ _ (by simp [Lx.alnum, hL2, hD])]; simp
      · go_wp2_with fail
        go_ret
        refine ⟨ret_int ?_, rfl⟩
        rw [HE.out, drop_end s (i + k) (by omega)]; simp [Lx.wordLen]
  | false =>
    have hR2 : R = 0 := by rw [hR, hd, rword_cons, if_neg (by rw [hL]; simp)]
    subst hR2
    clear hR hd
    go_enter Tryz.func52, Tryz.ntmps52
    go_wp2_with fail
    go_loop [5] (fun n => n = .int .i64 0) (fun n => 0)
    case atStart => exact rfl
    case round =>
      obtain rfl := hrel
      go_wp2_with (go_at_call 82; refine (rletter_any _ _).mono ?_; rintro e w' ⟨rfl, rfl⟩)
      go_ret
      exact ⟨rfl, rfl⟩
end Go.Proofs.YtdopmmnabhcigaaGreatDoor
