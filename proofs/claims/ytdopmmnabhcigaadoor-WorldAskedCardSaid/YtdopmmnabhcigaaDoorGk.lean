/- What is proved: WorldBack answers true. (and what stands with it) -/
import Derived.Test.YtdopmmnabhcigaaDoorGj
import Derived.Test.YtdopmmnabhcigaaDoorGi

/- What is proved: WorldBack answers true. -/
namespace Go.Proofs.YtdopmmnabhcigaaDoor
open Go.RowKit Go.Shelf

namespace Wo
theorem mem_dfsK (names : List ByteArray) (s n : Nat) (d : ByteArray) : d ∈ dfsK names s n ↔ ∃ j, j < n ∧ s.testBit j = true ∧ names[j]? = some d := by
  unfold dfsK
  rw [List.mem_filterMap]
  constructor
  · rintro ⟨j, hj, h⟩
    cases hb : s.testBit j with
    | true => rw [hb, if_pos rfl] at h; exact ⟨j, List.mem_range.1 hj, hb, h⟩
    | false => rw [hb, if_neg (by simp)] at h; cases h
  · rintro ⟨j, hj, hb, h⟩
    exact ⟨j, List.mem_range.2 hj, by rw [hb, if_pos rfl]; exact h⟩
/-- No text twice. -/
def Dist (names : List ByteArray) (n : Nat) : Prop := ∀ i k : Nat, i < n → k < i → ∀ x, names[i]? = some x → names[k]? ≠ some x
theorem dist_idx {names : List ByteArray} (h : Dist names names.length) {j : Nat} {d : ByteArray} (hj : names[j]? = some d) : idx names d = j := by
  refine idx_of hj fun hm => ?_
  obtain ⟨k, hk, e⟩ := List.mem_take_iff_getElem.1 hm
  have hjl := (List.getElem?_eq_some_iff.1 hj).1
  exact h j k hjl (by omega) d hj (List.getElem?_eq_some_iff.2 ⟨by omega, e⟩)
theorem dfs_ok (names : List ByteArray) (s n : Nat) : SetOk names (dfsK names s n) := fun d hd => by
  obtain ⟨j, _, _, h⟩ := (mem_dfsK names s n d).1 hd
  exact List.mem_of_getElem? h
theorem dfs_bits {names : List ByteArray} (h : Dist names names.length) {s : Nat} (hs : s < 2 ^ names.length) : bitsOf names (dfsK names s names.length) = s := by
  refine Nat.eq_of_testBit_eq fun i => ?_
  rw [bitsOf_bit, Bool.eq_iff_iff]
  simp only [List.any_eq_true, decide_eq_true_eq]
  constructor
  · rintro ⟨d, hd, rfl⟩
    obtain ⟨j, _, hb, hj⟩ := (mem_dfsK _ _ _ d).1 hd
    rw [dist_idx h hj]
    exact hb
  · intro hb
    have hi : i < names.length := by
      rcases Nat.lt_or_ge i names.length with h1 | h1
      · exact h1
      · have := Nat.testBit_lt_two_pow (Nat.lt_of_lt_of_le hs (Nat.pow_le_pow_right (by omega) h1))
        rw [hb] at this
        cases this
    exact ⟨names[i], (mem_dfsK _ _ _ _).2 ⟨i, hi, hb, List.getElem?_eq_getElem hi⟩, dist_idx h (List.getElem?_eq_getElem hi)⟩
theorem back_set {names : List ByteArray} (h : Dist names names.length) {set : Int} (hok : DefsOk names set) : setV names (dfs names set) = (set, 0) := by
  obtain ⟨h1, h2, h3⟩ := hok
  obtain ⟨s, rfl⟩ : ∃ s : Nat, set = s := ⟨set.toNat, by omega⟩
  have hs : s < 2 ^ names.length := by exact_mod_cast h3
  have hd : dfs names (s : Int) = dfsK names s names.length := rfl
  unfold setV
  rw [if_neg (by omega), hd, if_pos (List.all_eq_true.2 fun d hm => (has_iff _ _).2 (dfs_ok names s _ d hm)), dfs_bits h hs]
theorem back_eq {names : List ByteArray} (h : Dist names names.length) {set other : Int} (hok : DefsOk names set) (hok2 : DefsOk names other) : decide (dfs names set = dfs names other) = decide (set = other) := by
  by_cases e : set = other
  · rw [e, decide_eq_true rfl, decide_eq_true rfl]
  · rw [decide_eq_false e]
    refine decide_eq_false fun e2 => e ?_
    have a1 := back_set h hok
    have a2 := back_set h hok2
    rw [e2] at a1
    exact congrArg Prod.fst (a1.symm.trans a2)
end Wo

set_option maxRecDepth 100000 in
set_option maxHeartbeats 16000000 in
theorem lback_any (v : Value) (names : List ByteArray) (set other : Int) (w : World) (hG : Glob w) (hv : Sts w v names) :
    Calls Tryd.prog 4 #[v, .int .i64 set, .int .i64 other] w (TruePost w) := by
  obtain ⟨ad, cap, rfl, hc1, hc2, -⟩ := id hv
  unfold maxLen at hc2
  obtain ⟨N, hN⟩ : ∃ N, N = names.length := ⟨_, rfl⟩
  have k0 := awake_any w hG
  have HV : Hid (Sts w (.slice ad N cap) names) := Lib.hid (by rw [hN]; exact hv)
  have HN := Lib.hid hN
  rw [← hN] at hc1 ⊢
  clear hv hN hG
  by_cases h8 : 8 < N
  · have t1 : (8 : Int) < N := by omega
    go_enter Tryd.func4, Tryd.ntmps4
    go_wp2_with fail
    refine k0.mono ?_
    rintro e w1 ⟨rfl, hB1⟩
    go_wp2_with fail
    go_ret
    exact ⟨rfl, hB1⟩
  · have t1 : ¬ ((8 : Int) < N) := by omega
    go_enter Tryd.func4, Tryd.ntmps4
    go_wp2_with fail
    refine k0.mono ?_
    clear k0
    rintro e w1 ⟨rfl, hB1⟩
    have HB1 := Lib.hid hB1
    clear hB1
    go_wp2_with fail
    go_loopw [8, 9] (fun i _ wr => ∃ j : Nat, i = .int .i64 j ∧ j ≤ N ∧ Wo.Dist names j ∧ Below w.heap.size w wr) (fun i _ _ => N - (intOf i).toNat)
    case atStart => exact ⟨0, rfl, Nat.zero_le _, fun i k hi => by omega, HB1.out⟩
    case round =>
      obtain ⟨j, rfl, hj, hd, hB⟩ := hrel
      by_cases hlt : j < N
      · obtain ⟨x, hx⟩ : ∃ x, names[j]? = some x := ⟨_, List.getElem?_eq_getElem (by rw [← HN.out]; exact hlt)⟩
        obtain ⟨Wr, rfl⟩ : ∃ Wr, Wr = wr := ⟨_, rfl⟩
        have HD := Lib.hid hd
        have HX := Lib.hid hx
        have HB := Lib.hid hB
        have z1 : (j : Int) < N := by omega
        clear hd hx hB
        go_wp2_with fail
        go_loopw [9] (fun i wr => ∃ k : Nat, i = .int .i64 k ∧ k ≤ j ∧ x ∉ names.take k ∧ Below w.heap.size w wr) (fun i _ => j - (intOf i).toNat)
        case atStart => exact ⟨0, rfl, Nat.zero_le _, by simp, HB.out⟩
        case round =>
          obtain ⟨k, rfl, hk, hn, hB2⟩ := hrel
          by_cases hkj : k < j
          · obtain ⟨y, hy⟩ : ∃ y, names[k]? = some y := ⟨_, List.getElem?_eq_getElem (by rw [← HN.out]; omega)⟩
            obtain ⟨g, o, rfl, -, -, -, hg, hc⟩ := HV.out.cells (by rw [← HN.out]; omega)
            have d0 := (hB2.cell (p := ⟨g, o + j, none⟩) hg).trans (hc j x HX.out)
            have d1 := (hB2.cell (p := ⟨g, o + k, none⟩) hg).trans (hc k y hy)
            have z2 : (0 : Int) ≤ j := by omega
            have z3 : (0 : Int) ≤ k := by omega
            have z4 : (k : Int) < N := by omega
            have z5 : (k : Int) < j := by omega
            by_cases hxy : x = y
            · subst hxy
              have t4 : (x.toList == x.toList) = true := by simp
              clear hc hy hn
              go_wp2_with fail
              go_quiet (fail)
              go_wp2_with fail
              go_ret
              exact ⟨rfl, below_drewN hB2 _⟩
            · have hn2 : x ∉ names.take (k + 1) := by
                rw [List.take_add_one, hy]
                intro h
                rcases List.mem_append.1 h with h | h
                · exact hn h
                · simp at h; exact hxy h
              have HN2 := Lib.hid hn2
              have t4 := lit_ne hxy
              clear hc hy hn hxy hn2
              go_wp2_with fail
              go_quiet (fail)
              go_wp2_with fail
              go_roundw
              case rel => exact ⟨k + 1, by go_num, by omega, HN2.out, below_drewN hB2 _⟩
              case measure => simp [intOf]; omega
          · obtain rfl : k = j := by omega
            have hd2 : Wo.Dist names (k + 1) := fun i q hi hq z hz hqz => by
              rcases Nat.lt_or_ge i k with h | h
              · exact HD.out i q h hq z hz hqz
              · obtain rfl : i = k := by omega
                rw [HX.out] at hz
                obtain rfl := Option.some.inj hz
                refine hn ?_
                obtain ⟨hl, e⟩ := List.getElem?_eq_some_iff.1 hqz
                rw [List.mem_take_iff_getElem]
                exact ⟨q, by omega, e⟩
            have HD2 := Lib.hid hd2
            clear hn hd2
            go_wp2_with fail
            go_roundw
            case rel => exact ⟨k + 1, by go_num, by omega, HD2.out, hB2⟩
            case measure => simp [intOf]; omega
      · obtain rfl : j = N := by omega
        rw [HN.out] at hd
        have HD := Lib.hid hd
        have HB := Lib.hid hB
        have k1 := wdefs_any _ names set _ (HV.out.below hB)
        clear hd hB
        go_wp2_with fail
        refine k1.mono ?_
        clear k1
        rintro e w2 ⟨a, rfl, ha, hB2⟩
        have hB2' := Below.then HB.out hB2
        have k2 := wdefs_any _ names other _ (HV.out.below hB2')
        have HB2 := Lib.hid hB2'
        have Ha := Lib.hid ha
        clear ha hB2 hB2'
        go_wp2_with fail
        refine k2.mono ?_
        clear k2
        rintro e w3 ⟨b, rfl, hb, hB3⟩
        have hB3' := Below.then HB2.out hB3
        have Ha3 := Lib.hid (Ha.out.below hB3)
        have Hb := Lib.hid hb
        have HB3 := Lib.hid hB3'
        have hbad : ∀ q : Int, ¬ Wo.DefsOk names q → q < 0 ∨ (¬ (q < 0) ∧ (2 : Int) ^ j ≤ q) := fun q hq => by
          by_cases h1 : q < 0
          · exact .inl h1
          · refine .inr ⟨h1, Int.not_lt.1 fun h2 => hq ⟨by rw [← HN.out]; omega, by omega, by rw [← HN.out]; exact h2⟩⟩
        have hw := pow_wrap (N := j) (by omega)
        obtain ⟨p, hp⟩ : ∃ p : Int, p = 2 ^ j := ⟨_, rfl⟩
        have hw2 : wrap64 ((2 : Int) ^ j) = p := hw.trans hp.symm
        rw [← hp] at hbad
        clear hb hB3 hB3' hw hp
        by_cases o1 : Wo.DefsOk names set
        · have e1 : Wo.defsE names set = 0 := by unfold Wo.defsE; rw [if_pos o1]
          by_cases o2 : Wo.DefsOk names other
          · have e2 : Wo.defsE names other = 0 := by unfold Wo.defsE; rw [if_pos o2]
            have l1 : Wo.defsL names set = Wo.dfs names set := by unfold Wo.defsL; rw [if_pos o1]
            have l2 : Wo.defsL names other = Wo.dfs names other := by unfold Wo.defsL; rw [if_pos o2]
            rw [l1] at Ha3
            rw [l2] at Hb
            have k3 := wset_any _ _ names (Wo.dfs names set) _ (HV.out.below HB3.out) Ha3.out
            rw [Wo.back_set HD.out o1] at k3
            have k4 := rsame_any _ _ _ _ _ Ha3.out Hb.out
            rw [Wo.back_eq HD.out o1 o2] at k4
            clear hbad o1 o2 l1 l2
            by_cases e : set = other
            · subst e
              rw [decide_eq_true rfl] at k4
              go_wp2_with fail
              refine k3.mono ?_
              rintro e w5 ⟨rfl, rfl⟩
              go_wp2_with fail
              refine k4.mono ?_
              rintro e w6 ⟨rfl, hB6⟩
              have HB6 := Lib.hid (Below.then HB3.out hB6)
              clear hB6
              go_wp2_with fail
              go_ret
              exact ⟨rfl, HB6.out⟩
            · rw [decide_eq_false e] at k4
              have t5 : (set == other) = false := by simpa using e
              clear e
              go_wp2_with fail
              refine k3.mono ?_
              rintro e w5 ⟨rfl, rfl⟩
              go_wp2_with fail
              refine k4.mono ?_
              rintro e w6 ⟨rfl, hB6⟩
              have HB6 := Lib.hid (Below.then HB3.out hB6)
              clear hB6
              go_wp2_with fail
              go_ret
              exact ⟨rfl, HB6.out⟩
          · have e2 : Wo.defsE names other = 1 := by unfold Wo.defsE; rw [if_neg o2]
            rcases hbad other o2 with h1 | ⟨h1, h2⟩
            all_goals
              clear hbad o1 o2
              go_wp2_with fail
              go_ret
              exact ⟨rfl, HB3.out⟩
        · have e1 : Wo.defsE names set = 1 := by unfold Wo.defsE; rw [if_neg o1]
          by_cases o2 : Wo.DefsOk names other
          · have e2 : Wo.defsE names other = 0 := by unfold Wo.defsE; rw [if_pos o2]
            rcases hbad set o1 with h1 | ⟨h1, h2⟩
            all_goals
              clear hbad o1 o2
              go_wp2_with fail
              go_ret
              exact ⟨rfl, HB3.out⟩
          · have e2 : Wo.defsE names other = 1 := by unfold Wo.defsE; rw [if_neg o2]
            rcases hbad set o1 with h1 | ⟨h1, h2⟩
            all_goals
              rcases hbad other o2 with h3 | ⟨h3, h4⟩
              all_goals
                clear hbad o1 o2
                go_wp2_with fail
                go_ret
                exact ⟨rfl, HB3.out⟩
end Go.Proofs.YtdopmmnabhcigaaDoor

/- What is proved: names do not hang on files' numbers or order; a text without the sign # asks for none and defines none; what is asked for is spelled. -/
namespace Go.Proofs.YtdopmmnabhcigaaDoor.Wo
open Go.Lib Go.Proofs.YtdopmmnabhcigaaDoor

section
variable {g : K → K} (hk : ∀ t, (g t).kind = t.kind) (ht : ∀ t, (g t).text = t.text)
include hk
theorem cuts_map : ∀ (l : List K) (f k : Nat), Dx.cuts f k (l.map g) = Dx.cuts f k l
  | [], f, k => rfl
  | t :: r, f, k => by
    rw [List.map_cons]
    unfold Dx.cuts
    rw [hk t, cuts_map r (k + 1) (k + 1), cuts_map r f (k + 1)]
include ht
theorem begins_map (l : List K) : Dx.begins (l.map g) = Dx.begins l := by
  have hs : ∀ t s, Dx.isSign (g t) s = Dx.isSign t s := fun t s => by unfold Dx.isSign; rw [hk, ht]
  match l with
  | [] => rfl
  | t :: r =>
    rw [List.map_cons]
    cases h : Dx.isSign t ⟨#[35]⟩ with
    | false => rw [Dx.begins_no _ _ h, Dx.begins_no _ _ (by rw [hs]; exact h)]
    | true =>
      cases r with
      | nil => rw [List.map_nil, Dx.begins_one _ h, Dx.begins_one _ (by rw [hs]; exact h)]
      | cons u r => rw [List.map_cons, Dx.begins_two _ _ _ h, Dx.begins_two _ _ _ (by rw [hs]; exact h), hk, ht]
theorem words_map (l : List K) : words (l.map g) = words l := by
  unfold words
  induction l with
  | nil => rfl
  | cons t r ih =>
    rw [List.map_cons, List.filter_cons, List.filter_cons, hk]
    split
    · rw [List.map_cons, List.map_cons, ih, ht]
    · exact ih
theorem ln_map (l : List K) (c : Nat × Nat) : asks (Dx.lnOf (l.map g) c) = asks (Dx.lnOf l c) ∧ defs (Dx.lnOf (l.map g) c) = defs (Dx.lnOf l c) := by
  have hb := begins_map hk ht ((l.drop c.1).take c.2)
  have e : ((l.map g).drop c.1).take c.2 = ((l.drop c.1).take c.2).map g := by rw [List.map_take, List.map_drop]
  unfold Dx.lnOf Dx.mkLn asks defs
  dsimp only
  rw [e, hb, ← List.map_drop, ← List.map_take, words_map hk ht, words_map hk ht]
  exact ⟨rfl, rfl⟩
theorem lines_map (l : List K) : (Dx.lines (l.map g)).flatMap asks = (Dx.lines l).flatMap asks ∧ (Dx.lines (l.map g)).flatMap defs = (Dx.lines l).flatMap defs := by
  unfold Dx.lines
  rw [cuts_map hk, List.flatMap_map, List.flatMap_map, List.flatMap_map, List.flatMap_map]
  exact ⟨congrArg (fun f => List.flatMap f _) (funext fun c => (ln_map hk ht l c).1), congrArg (fun f => List.flatMap f _) (funext fun c => (ln_map hk ht l c).2)⟩
end

def sf (n : Nat) (t : K) : K := ⟨t.kind, t.text, n, t.fr, t.en, t.bl⟩
theorem toks_num (n : Nat) (t : ByteArray) : toks n t = (toks 0 t).map (sf n) := by
  unfold toks
  rw [List.map_map]
  rfl
def askT (t : ByteArray) : List ByteArray := (Dx.lines (toks 0 t)).flatMap asks
def knT (t : ByteArray) : List ByteArray := (Dx.lines (toks 0 t)).flatMap defs
def wdT (t : ByteArray) : List ByteArray := words (toks 0 t)
theorem from_texts : ∀ (fs : Fs) (n : Nat), ((toksFrom n fs).flatMap Dx.lines).flatMap asks = fs.flatMap (fun f => askT f.2) ∧ ((toksFrom n fs).flatMap Dx.lines).flatMap defs = fs.flatMap (fun f => knT f.2) ∧
    (toksFrom n fs).flatMap words = fs.flatMap (fun f => wdT f.2)
  | [], n => ⟨rfl, rfl, rfl⟩
  | f :: r, n => by
    obtain ⟨h1, h2, h3⟩ := from_texts r (n + 1)
    have l := lines_map (g := sf n) (fun _ => rfl) (fun _ => rfl) (toks 0 f.2)
    have w := words_map (g := sf n) (fun _ => rfl) (fun _ => rfl) (toks 0 f.2)
    simp only [toksFrom, List.flatMap_cons, List.flatMap_append, h1, h2, h3, toks_num n f.2, l.1, l.2, w]
    exact ⟨rfl, rfl, rfl⟩
theorem asked_eq (fs : Fs) : askedL (lns fs) = fs.flatMap (fun f => askT f.2) := (from_texts fs 0).1
theorem known_eq (fs : Fs) : knownL (lns fs) = fs.flatMap (fun f => knT f.2) := (from_texts fs 0).2.1
theorem spelled_eq (fs : Fs) : (toksFrom 0 fs).flatMap words = fs.flatMap (fun f => wdT f.2) := (from_texts fs 0).2.2

theorem names0_same {fs gs : Fs} (ha : ∀ x, x ∈ askedL (lns fs) ↔ x ∈ askedL (lns gs)) (hk : ∀ x, x ∈ knownL (lns fs) ↔ x ∈ knownL (lns gs)) : names0 fs = names0 gs := by
  unfold names0
  refine srt_same fun x => ?_
  have hh : has (knownL (lns fs)) x = has (knownL (lns gs)) x := by rw [Bool.eq_iff_iff, has_iff, has_iff]; exact hk x
  rw [List.mem_filter, List.mem_filter, ha x]
  unfold wanted
  rw [hh]
theorem rev_same (fs : Fs) : names fs.reverse = names fs ∧ namesE fs.reverse = namesE fs ∧ known fs.reverse = known fs ∧ spelled fs.reverse = spelled fs := by
  have hr : ∀ (f : ByteArray × ByteArray → List ByteArray) (x : ByteArray), x ∈ fs.reverse.flatMap f ↔ x ∈ fs.flatMap f := fun f x => by simp [List.mem_flatMap]
  have h0 : names0 fs.reverse = names0 fs := names0_same (fun x => by rw [asked_eq, asked_eq]; exact hr _ x) (fun x => by rw [known_eq, known_eq]; exact hr _ x)
  refine ⟨by unfold names; rw [h0], by unfold namesE; rw [h0], ?_, ?_⟩
  · unfold known
    exact srt_same fun x => by rw [known_eq, known_eq]; exact hr _ x
  · unfold spelled
    exact srt_same fun x => by rw [spelled_eq, spelled_eq]; exact hr _ x
theorem small_rev {fs : Fs} (h : Small fs) : Small fs.reverse := ⟨by rw [List.length_reverse]; exact h.1, fun f hf => h.2 f (List.mem_reverse.1 hf)⟩

/-! ### A text without the sign # -/
theorem left_bytes : ∀ (s : List UInt8) (k : Nat), ∀ x ∈ Sp.left k s, x.1 ∈ s
  | [], k, x, h => by cases h
  | [c], k, x, h => by
    rw [Sp.left_single] at h
    simp at h
    subst h
    simp
  | c :: d :: r, k, x, h => by
    rw [Sp.left_cons] at h
    split at h
    · exact List.mem_cons_of_mem _ (List.mem_cons_of_mem _ (left_bytes r (k + 2) x h))
    · rcases List.mem_cons.1 h with rfl | h
      · exact List.mem_cons_self
      · exact List.mem_cons_of_mem _ (left_bytes (d :: r) (k + 1) x h)
theorem tk_bytes : ∀ (p : Bool) (l : List Sp.Ch), ∀ t ∈ Lx.tk p l, ∀ c ∈ t.text, c ∈ Lx.bytes l := by
  refine Lx.tkInd ?_ ?_ ?_
  · intro p t ht
    rw [Lx.tk_nil] at ht
    cases ht
  · intro p l hb ih t ht c hc
    rw [Lx.tk_blank p l hb] at ht
    have := ih t ht c hc
    rw [Lx.bytes_drop] at this
    exact List.mem_of_mem_drop this
  · intro p l hl hb ih t ht c hc
    rw [Lx.tk_tok p l hl hb] at ht
    rcases List.mem_cons.1 ht with rfl | ht
    · exact List.mem_of_mem_take hc
    · have := ih t ht c hc
      rw [Lx.bytes_drop] at this
      exact List.mem_of_mem_drop this
theorem no_sign {t : ByteArray} (h : (35 : UInt8) ∉ t.data.toList) : ∀ u ∈ toks 0 t, Dx.isSign u ⟨#[35]⟩ = false := by
  intro u hu
  obtain ⟨y, hy, rfl⟩ := List.mem_map.1 hu
  unfold Dx.isSign
  rw [Bool.and_eq_false_iff]
  right
  refine decide_eq_false fun e => h ?_
  have h1 : y.text = [35] := by
    have := congrArg (fun b : ByteArray => b.data.toList) e
    simpa [ofT] using this
  have h2 := tk_bytes false _ y hy 35 (by rw [h1]; simp)
  unfold Lx.bytes at h2
  obtain ⟨x, hx, hx2⟩ := List.mem_map.1 h2
  have := left_bytes _ _ x hx
  rwa [hx2] at this
theorem no_lines {t : ByteArray} (h : (35 : UInt8) ∉ t.data.toList) : askT t = [] ∧ knT t = [] := by
  have key : ∀ x ∈ Dx.lines (toks 0 t), asks x = [] ∧ defs x = [] := fun x hx => by
    obtain ⟨c, _, rfl⟩ := List.mem_map.1 hx
    have hb : Dx.begins (((toks 0 t).drop c.1).take c.2) = (1, 0) := by
      cases e : ((toks 0 t).drop c.1).take c.2 with
      | nil => rfl
      | cons u r =>
        refine Dx.begins_no u r (no_sign h u ?_)
        have : u ∈ ((toks 0 t).drop c.1).take c.2 := by rw [e]; simp
        exact List.mem_of_mem_drop (List.mem_of_mem_take this)
    unfold Dx.lnOf Dx.mkLn asks defs
    dsimp only
    rw [hb]
    exact ⟨rfl, rfl⟩
  exact ⟨List.flatMap_eq_nil_iff.2 fun x hx => (key x hx).1, List.flatMap_eq_nil_iff.2 fun x hx => (key x hx).2⟩
theorem more_same (fs : Fs) (q t : ByteArray) (h : (35 : UInt8) ∉ t.data.toList) : names (fs ++ [(q, t)]) = names fs ∧ namesE (fs ++ [(q, t)]) = namesE fs ∧ known (fs ++ [(q, t)]) = known fs := by
  obtain ⟨h1, h2⟩ := no_lines h
  have ha : ∀ x, x ∈ askedL (lns (fs ++ [(q, t)])) ↔ x ∈ askedL (lns fs) := fun x => by rw [asked_eq, asked_eq]; simp [List.flatMap_append, h1]
  have hk : ∀ x, x ∈ knownL (lns (fs ++ [(q, t)])) ↔ x ∈ knownL (lns fs) := fun x => by rw [known_eq, known_eq]; simp [List.flatMap_append, h2]
  have h0 := names0_same ha hk
  exact ⟨by unfold names; rw [h0], by unfold namesE; rw [h0], by unfold known; exact srt_same hk⟩

/-! ### What is asked for is spelled, and is not defined -/
theorem asked_spelled (fs : Fs) (x : ByteArray) (h : x ∈ names fs) : has (spelled fs) x = true ∧ has (known fs) x = false := by
  have h0 : x ∈ names0 fs := by
    unfold names at h
    split at h
    · cases h
    · exact h
  have h1 := ((srt_spec _).2 x).1 h0
  rw [List.mem_filter] at h1
  obtain ⟨h2, h3⟩ := h1
  unfold wanted at h3
  simp only [Bool.and_eq_true, Bool.not_eq_true'] at h3
  constructor
  · rw [has_iff]
    unfold spelled
    refine ((srt_spec _).2 x).2 ?_
    unfold askedL lns at h2
    rw [List.mem_flatMap] at h2
    obtain ⟨ln, hln, hx⟩ := h2
    obtain ⟨ts, hts, hl⟩ := List.mem_flatMap.1 hln
    rw [List.mem_flatMap]
    refine ⟨ts, hts, ?_⟩
    unfold asks at hx
    split at hx
    · obtain ⟨t, ht, rfl⟩ := List.mem_map.1 hx
      obtain ⟨ht1, ht2⟩ := List.mem_filter.1 ht
      exact List.mem_map.2 ⟨t, List.mem_filter.2 ⟨(lines_in ts ln hl).2 t ht1, ht2⟩, rfl⟩
    · cases hx
  · have h4 := (has_not _ _).1 h3.1.1
    rw [has_not]
    unfold known
    exact fun h5 => h4 (((srt_spec _).2 x).1 h5)
theorem names_srt (fs : Fs) : Srt (names fs) := by
  unfold names
  split
  · exact List.Pairwise.nil
  · exact (srt_spec _).1
theorem srt_next {l : List ByteArray} (h : Srt l) {i : Nat} {x y : ByteArray} (hx : l[i]? = some x) (hy : l[i + 1]? = some y) : lt x y := by
  obtain ⟨h1, e1⟩ := List.getElem?_eq_some_iff.1 hx
  obtain ⟨h2, e2⟩ := List.getElem?_eq_some_iff.1 hy
  have := List.pairwise_iff_getElem.1 h i (i + 1) h1 h2 (by omega)
  rwa [e1, e2] at this
end Go.Proofs.YtdopmmnabhcigaaDoor.Wo

/- What is proved: WorldTurned answers true. -/
namespace Go.Proofs.YtdopmmnabhcigaaDoor
open Go.RowKit Go.Shelf

theorem short_small {fs : Wo.Fs} {m : Nat} (hm : m ≤ 1000) (h : Wo.short fs m = true) : fs.length ≤ 6 ∧ Wo.Small fs := by
  unfold Wo.short at h
  rw [Bool.and_eq_true, List.all_eq_true] at h
  obtain ⟨h1, h2⟩ := h
  have h1 := of_decide_eq_true h1
  refine ⟨h1, by omega, fun f hf => ?_⟩
  have := h2 f hf
  rw [Bool.and_eq_true] at this
  exact ⟨Nat.le_trans (of_decide_eq_true this.1) hm, Nat.le_trans (of_decide_eq_true this.2) (by omega)⟩

set_option maxRecDepth 100000 in
set_option maxHeartbeats 16000000 in
theorem lturned_any (v : Value) (fs : Wo.Fs) (hz : ∀ f ∈ fs, f.2.size ≤ maxLen ∧ f.1.size ≤ maxLen) (w : World) (hG : Glob w) (hv : Fls w v fs) :
    Calls Tryd.prog 6 #[v] w (TruePost w) := by
  obtain ⟨i0, hi, hz0, hz1, hz2⟩ := info_parts infoFile
  obtain ⟨ad, cap, rfl, hc1, hc2, -⟩ := id hv
  unfold maxLen at hc2
  obtain ⟨N, hN⟩ : ∃ N, N = fs.length := ⟨_, rfl⟩
  have k0 := awake_any w hG
  have HG := Lib.hid hG
  have HV : Hid (Fls w (.slice ad N cap) fs) := Lib.hid (by rw [hN]; exact hv)
  have HN := Lib.hid hN
  have HZ := Lib.hid hz
  rw [← hN] at hc1 ⊢
  clear hv hN hG hz
  cases hs : Wo.short fs 600 with
  | false =>
    go_enter Tryd.func6, Tryd.ntmps6
    go_wp2_with fail
    refine k0.mono ?_
    clear k0
    rintro e w1 ⟨rfl, hB1⟩
    have k1 := rshort_any _ fs 600 (by omega) _ (HV.out.below hB1) HZ.out
    rw [hs] at k1
    have HB1 := Lib.hid hB1
    clear hB1 hs
    go_wp2_with fail
    refine k1.mono ?_
    clear k1
    rintro e w2 ⟨rfl, rfl⟩
    go_wp2_with fail
    go_ret
    exact ⟨rfl, HB1.out⟩
  | true =>
    obtain ⟨h6, hsm⟩ := short_small (by omega) hs
    rw [← HN.out] at h6
    obtain ⟨r1, r2, r3, r4⟩ := Wo.rev_same fs
    have HSm := Lib.hid hsm
    have HR := Lib.hid (And.intro r1 (And.intro r2 (And.intro r3 r4)))
    clear r1 r2 r3 r4 hsm
    go_enter Tryd.func6, Tryd.ntmps6
    go_wp2_with fail
    refine k0.mono ?_
    clear k0
    rintro e w1 ⟨rfl, hB1⟩
    have k1 := rshort_any _ fs 600 (by omega) _ (HV.out.below hB1) HZ.out
    rw [hs] at k1
    have HB1 := Lib.hid hB1
    clear hB1 hs
    go_wp2_with fail
    refine k1.mono ?_
    clear k1
    rintro e w2 ⟨rfl, rfl⟩
    go_wp2_with fail
    go_loopw [5, 6] (fun b i wr => ∃ k : Nat, i = .int .i64 ((N : Int) - 1 - k) ∧ k ≤ N ∧ wr.ownsRow w.heap.size 38 2 b k (flCells (fs.reverse.take k)) ∧ Below w.heap.size w wr) (fun _ i _ => (match i with | .int _ m => m + 1 | _ => 0).toNat)
    case atStart => exact ⟨0, by simp, Nat.zero_le _, World.ownsRow_nil _ _ _ _, HB1.out⟩
    case round =>
      obtain ⟨k, rfl, hk, hrow, hB⟩ := hrel
      by_cases hlt : k < N
      · obtain ⟨f, hf⟩ : ∃ f, fs[N - 1 - k]? = some f := ⟨_, List.getElem?_eq_getElem (by rw [← HN.out]; omega)⟩
        have hfr : fs.reverse[k]? = some f := by
          rw [List.getElem?_reverse (by rw [← HN.out]; exact hlt), ← HN.out]
          exact hf
        have hto : fs.reverse.take (k + 1) = fs.reverse.take k ++ [f] := by rw [List.take_add_one, hfr]; rfl
        obtain ⟨g, o, rfl, -, -, -, hgl, hcell⟩ := HV.out.cells (by rw [← HN.out]; omega)
        obtain ⟨c0, c1⟩ := hcell _ f hf
        replace c0 := (hB.cell (p := ⟨g, o + (N - 1 - k) * 2, none⟩) hgl).trans c0
        replace c1 := (hB.cell (p := ⟨g, o + (N - 1 - k) * 2 + 1, none⟩) hgl).trans c1
        obtain ⟨j, hj⟩ : ∃ j, j = N - 1 - k := ⟨_, rfl⟩
        rw [← hj] at c0 c1
        have hji : (N : Int) - 1 - k = (j : Int) := by omega
        have HTo := Lib.hid hto
        obtain ⟨pa, tx⟩ := f
        dsimp only at c0 c1
        rw [hji]
        have HJi := Lib.hid hji
        have z0 : (0 : Int) ≤ j := by omega
        have z1 : (j : Int) < N := by omega
        clear hf hfr hto hcell hj hji
        go_wp2_with (first
          | (at_builtin; refine wpList_append_own _ rfl _ _ 32 rfl w.heap.size 38 i0 (.agg #[.string ByteArray.empty, .string ByteArray.empty]) 2 32 Tryd.underlying32 hi hz0 hz1 hz2 rfl (by decide) _ _ _ rfl (hrow.alloc _) ⟨wr.heap.size, 0, none⟩ 1 1 [.string pa, .string tx] rfl rfl (cell_two_new _ _ _ _) (by simp [Value.oneCell']) (by unfold maxLen; omega) (by omega) (by have := hB.size; simp; omega) ?_; intro v' w5 hown5 hg5 hnil5; go_frame)
          | fail)
        go_roundw
        case rel =>
          refine ⟨k + 1, by have := HJi.out; congr 1; omega, by omega, ?_, (hB.alloc hB.size _).grown hg5 (by have := hB.size; simp; omega) (fun i e => (hrow.lt i e).1)⟩
          rw [HTo.out, flCells_append]
          exact hown5
        case measure => simp
      · obtain rfl : k = N := by omega
        rw [List.take_of_length_le (by rw [List.length_reverse, ← HN.out]; exact Nat.le_refl _)] at hrow
        have hbk := Fls.of_row hrow
        have hzz : (k : Int) - 1 - k = -1 := by omega
        rw [hzz]
        have k1 := wnames_any _ fs HSm.out _ (HV.out.below hB) (HG.out.later hB)
        have HB := Lib.hid hB
        have HBk := Lib.hid hbk
        clear hrow hB hbk hzz
        go_wp2_with fail
        refine k1.mono ?_
        clear k1
        rintro e w3 ⟨a, rfl, ha, hB3⟩
        have hB3' := Below.then HB.out hB3
        have hbk3 := HBk.out.below hB3
        have k2 := wnames_any _ fs.reverse (Wo.small_rev HSm.out) _ hbk3 (HG.out.later hB3')
        rw [HR.out.1, HR.out.2.1] at k2
        have HB3 := Lib.hid hB3'
        have HBk3 := Lib.hid hbk3
        have Ha3 := Lib.hid ha
        clear hB3 hB3' hbk3 ha HBk HB
        go_wp2_with fail
        refine k2.mono ?_
        clear k2
        rintro e w4 ⟨b, rfl, hb, hB4⟩
        have hB4' := Below.then HB3.out hB4
        have k3 := wknown_any _ fs HSm.out _ (HV.out.below hB4') (HG.out.later hB4')
        have k6 := same_yes _ _ _ _ (Ha3.out.below hB4) hb
        have HB4 := Lib.hid hB4'
        have HBk4 := Lib.hid (HBk3.out.below hB4)
        have Ha4 := Lib.hid (Ha3.out.below hB4)
        have Hb4 := Lib.hid hb
        clear hB4 hB4' hb k6 Ha3 HBk3 HB3
        go_wp2_with fail
        refine k3.mono ?_
        clear k3
        rintro e w5 ⟨c, rfl, hc, hB5⟩
        have hB5' := Below.then HB4.out hB5
        have hbk5 := HBk4.out.below hB5
        have k4 := wknown_any _ fs.reverse (Wo.small_rev HSm.out) _ hbk5 (HG.out.later hB5')
        rw [HR.out.2.2.1] at k4
        have HB5 := Lib.hid hB5'
        have HBk5 := Lib.hid hbk5
        have Ha5 := Lib.hid (Ha4.out.below hB5)
        have Hb5 := Lib.hid (Hb4.out.below hB5)
        have Hc5 := Lib.hid hc
        clear hB5 hB5' hbk5 hc Ha4 Hb4 HBk4 HB4
        go_wp2_with fail
        refine k4.mono ?_
        clear k4
        rintro e w6 ⟨d, rfl, hd, hB6⟩
        have hB6' := Below.then HB5.out hB6
        have k5 := wspelled_any _ fs HSm.out _ (HV.out.below hB6') (HG.out.later hB6')
        have HB6 := Lib.hid hB6'
        have HBk6 := Lib.hid (HBk5.out.below hB6)
        have Ha6 := Lib.hid (Ha5.out.below hB6)
        have Hb6 := Lib.hid (Hb5.out.below hB6)
        have Hc6 := Lib.hid (Hc5.out.below hB6)
        have Hd6 := Lib.hid hd
        clear hB6 hB6' hd Ha5 Hb5 Hc5 HBk5 HB5
        go_wp2_with fail
        refine k5.mono ?_
        clear k5
        rintro e w7 ⟨s, rfl, hs7, hB7⟩
        have hB7' := Below.then HB6.out hB7
        have hbk7 := HBk6.out.below hB7
        have k6 := wspelled_any _ fs.reverse (Wo.small_rev HSm.out) _ hbk7 (HG.out.later hB7')
        rw [HR.out.2.2.2] at k6
        have HB7 := Lib.hid hB7'
        have Ha7 := Lib.hid (Ha6.out.below hB7)
        have Hb7 := Lib.hid (Hb6.out.below hB7)
        have Hc7 := Lib.hid (Hc6.out.below hB7)
        have Hd7 := Lib.hid (Hd6.out.below hB7)
        have Hs7 := Lib.hid hs7
        clear hB7 hB7' hbk7 hs7 Ha6 Hb6 Hc6 Hd6 HBk6 HB6
        go_wp2_with fail
        refine k6.mono ?_
        clear k6
        rintro e w8 ⟨t, rfl, ht8, hB8⟩
        have k7 := same_yes _ _ _ _ (Ha7.out.below hB8) (Hb7.out.below hB8)
        have HB8 := Lib.hid (Below.then HB7.out hB8)
        have Hc8 := Lib.hid (Hc7.out.below hB8)
        have Hd8 := Lib.hid (Hd7.out.below hB8)
        have Hs8 := Lib.hid (Hs7.out.below hB8)
        have Ht8 := Lib.hid ht8
        clear hB8 ht8 Ha7 Hb7 Hc7 Hd7 Hs7 HB7
        go_wp2_with fail
        refine k7.mono ?_
        clear k7
        rintro e w9 ⟨rfl, hB9⟩
        have k8 := same_yes _ _ _ _ (Hc8.out.below hB9) (Hd8.out.below hB9)
        have HB9 := Lib.hid (Below.then HB8.out hB9)
        have Hs9 := Lib.hid (Hs8.out.below hB9)
        have Ht9 := Lib.hid (Ht8.out.below hB9)
        clear hB9 Hc8 Hd8 Hs8 Ht8 HB8
        go_wp2_with fail
        refine k8.mono ?_
        clear k8
        rintro e w10 ⟨rfl, hB10⟩
        have k9 := same_yes _ _ _ _ (Hs9.out.below hB10) (Ht9.out.below hB10)
        have HB10 := Lib.hid (Below.then HB9.out hB10)
        clear hB10 Hs9 Ht9 HB9
        go_wp2_with fail
        refine k9.mono ?_
        clear k9
        rintro e w11 ⟨rfl, hB11⟩
        have HB11 := Lib.hid (Below.then HB10.out hB11)
        clear hB11 HB10
        go_wp2_with fail
        go_ret
        exact ⟨rfl, HB11.out⟩
end Go.Proofs.YtdopmmnabhcigaaDoor
