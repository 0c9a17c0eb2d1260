/- GlueTexts answers true of all tokens, where they hold together at most 1048576 values and letters, the tables of signs and of utf8 holding what their initialisers lay (tied to the program's text): no other condition. -/
import Derived.Test.YtlkcmegjbdibcaaDoorOpR
import Derived.Test.YtlkcmegjbdibcaaDoorZ11
import Derived.Test.YtlkcmegjbdibcaaDoorLawT
import Derived.Deep.DeepHandedRow
namespace Go.Proofs.YtlkcmegjbdibcaaDoor
open Go.ChangeShapes Go.WideShapes Go.ChangeAt Go.RowKit Go.Deep
open Go.ChangeMaps (open_string)

/-- How much the tokens' texts take. -/
def tw : List K → Nat
  | [] => 0
  | t :: r => (t.text.size + 1) + tw r
theorem tw_mem : ∀ (l : List K) (t : K), t ∈ l → t.text.size + 1 ≤ tw l
  | [], _, h => by cases h
  | x :: r, t, h => by
    rcases List.mem_cons.1 h with rfl | h
    · simp only [tw]; omega
    · have := tw_mem r t h; simp only [tw]; omega
theorem tw_length : ∀ l : List K, l.length ≤ tw l
  | [] => Nat.zero_le _
  | x :: r => by have := tw_length r; simp only [tw, List.length_cons]; omega
theorem tw_txt (q : Bool) : ∀ (l : List K) (seen gap : Bool), (Gl.txt q seen gap l).length ≤ 2 * tw l
  | [], _, _ => by simp [Gl.txt]
  | t :: r, seen, gap => by
    have ih := fun s g => tw_txt q r s g
    have hw := Gl.wr_len q t
    simp only [tw]
    cases h7 : (t.kind == 7) with
    | true =>
      have e : Gl.txt q seen gap (t :: r) = Gl.txt q seen true r := by simp [Gl.txt, h7]
      rw [e]
      have := ih seen true
      omega
    | false =>
      have e : Gl.txt q seen gap (t :: r) = (if seen && (t.bl || gap) then [32] else []) ++ Gl.wr q t ++ Gl.txt q true false r := by simp [Gl.txt, h7]
      rw [e]
      have := ih true false
      have h32 : (if seen && (t.bl || gap) then [32] else ([] : List UInt8)).length ≤ 1 := by split <;> simp
      simp only [List.length_append]
      omega
section
variable {H : Type} {enc : TypeId × Value → H}
theorem bulk_mem : ∀ (l : List (DataW H)) (d : DataW H), d ∈ l → Rows.uptoBulk d ≤ Rows.uptoBulkAll l
  | [], _, h => by cases h
  | x :: r, d, h => by
    rcases List.mem_cons.1 h with rfl | h
    · simp only [Rows.uptoBulkAll]; omega
    · have := bulk_mem r d h; simp only [Rows.uptoBulkAll]; omega
theorem tw_bulk (F : Nat → K) (D : Nat → DataW H) : ∀ l : List Nat, (∀ i ∈ l, (F i).text.size + 1 ≤ Rows.uptoBulk (D i)) → tw (l.map F) ≤ Rows.uptoBulkAll (l.map D)
  | [], _ => Nat.le_refl _
  | i :: r, h => by
    have := tw_bulk F D r (fun j hj => h j (List.mem_cons_of_mem _ hj))
    have := h i List.mem_cons_self
    simp only [List.map_cons, tw, Rows.uptoBulkAll]
    omega
theorem open_tokB {W : World} {base fuel : Nat} {sp : Nat → Bool} {hd : Bool} {cs : List Value} {x : DataW H × List MemPlace} (h : DataW.trod enc Tryd.prog W base sp hd fuel 26 cs = some x) : ∃ t : K, cs = kCells t ∧ t.text.size + 1 ≤ Rows.uptoBulk x.1 := by
  obtain ⟨t, e, _⟩ := open_tok h
  refine ⟨t, e, ?_⟩
  obtain ⟨ys, n, _, hx, hl, hyl, hf⟩ := DataW.trod_struct Tryd.underlying26 h
  obtain ⟨y1, e1⟩ : ∃ y, ys[1]? = some y := ⟨_, List.getElem?_eq_getElem (by rw [show ys.length = 6 from hyl]; omega)⟩
  have f1 := (hf 1 _ rfl).trans e1
  obtain ⟨A, g1, hy, _⟩ := DataW.trod_string Tryd.underlying9 f1
  rw [e] at g1
  simp [kCells, cells9] at g1
  have hm : (DataW.lit (.string A.data.toList) : DataW H) ∈ ys.map (·.1) := List.mem_map.2 ⟨y1, List.mem_of_getElem? e1, by rw [hy]⟩
  have hb := bulk_mem _ _ hm
  rw [hx]
  simp only [Rows.uptoBulk] at hb ⊢
  have : A.data.toList.length = A.size := size_list A
  rw [g1]
  omega
set_option maxRecDepth 100000 in
/-- A list of tokens that came in, and how much it takes. -/
theorem open_toksB {W : World} {r : Reach} {b0 : Nat} {v : Value} {d : DataW H} {ps : List MemPlace} (hv : Value.okWide Tryd.prog W r b0 22 v) (h : DataW.Trod enc Tryd.prog W 0 (fun _ => true) true 22 v d ps) :
    ∃ ts : List K, Ks W v ts ∧ tw ts ≤ Rows.uptoBulk d := by
  obtain ⟨Ad, k, cap, rfl⟩ := okWide_slice Tryd.underlying22 hv
  obtain ⟨fuel, h⟩ := h
  rcases open_slice Tryd.underlying22 h with ⟨e, _⟩ | ⟨a, len, cap', m, n, D, Pl, hcs, _, hl, hmx, hm, hd, hx⟩
  · have e' : (Value.slice Ad k cap) = .slice none 0 0 := by simpa [Value.cells] using e
    rw [e']
    exact ⟨[], Ks.none_at _ _ 0 (Nat.zero_le _), by simp [tw]⟩
  · have e' : (Value.slice Ad k cap) = .slice (some a) len cap' := by simpa [Value.cells] using hcs
    injection e' with e1 e2 e3
    subst e1 e2 e3
    have hm' : m = cap := by simpa using hm
    have hall : ∀ i, ∃ t : K, i < k → W.cells? 0 (a.add (i * 6)) 6 = some (kCells t) ∧ t.text.size + 1 ≤ Rows.uptoBulk (D i) := fun i => by
      by_cases hi : i < k
      · obtain ⟨cs', hc, ht⟩ := hx i (by omega)
        rw [cellsTok] at hc
        obtain ⟨t, rfl, hsz⟩ := open_tokB ht
        exact ⟨t, fun _ => ⟨hc, hsz⟩⟩
      · exact ⟨⟨0, ⟨#[]⟩, 0, 0, 0, false⟩, fun h => absurd h hi⟩
    obtain ⟨F, hF⟩ := Classical.axiomOfChoice hall
    have hd1 : d = .slice ((List.range k).map D) ((List.range (m - k)).map fun j => D (k + j)) := congrArg Prod.fst hd
    refine ⟨(List.range k).map F, ⟨some a, cap, by simp, by simpa using hl, hmx, fun i t hit => ?_⟩, ?_⟩
    · have hi : i < k := by have := (List.getElem?_eq_some_iff.1 hit).1; simpa using this
      have hFi : F i = t := by
        rw [List.getElem?_map, List.getElem?_range hi] at hit
        exact Option.some.inj hit
      have hsp : a = ⟨a.block, a.off, none⟩ := by
        obtain ⟨_, _, hat0⟩ := World.cells?_some (hF 0 (by omega)).1
        have z := hat0 0 (by omega)
        rw [Go.Deep.add_add] at z
        simp only [Nat.zero_mul, Nat.add_zero, kCells, List.getElem?_cons_zero] at z
        have e : a.add 0 = a := by unfold Addr.add; simp
        rw [e] at z
        exact spot_none z
      obtain ⟨_, _, hat⟩ := World.cells?_some (hF i hi).1
      have q0 := hat 0 (by omega)
      have q1 := hat 1 (by omega)
      have q2 := hat 2 (by omega)
      have q3 := hat 3 (by omega)
      have q4 := hat 4 (by omega)
      have q5 := hat 5 (by omega)
      rw [hFi, Go.Deep.add_add] at q0 q1 q2 q3 q4 q5
      simp only [kCells, List.getElem?_cons_zero, List.getElem?_cons_succ] at q0 q1 q2 q3 q4 q5
      generalize a.block = ab at hsp
      generalize a.off = ao at hsp
      subst hsp
      rw [add_none] at q0 q1 q2 q3 q4 q5
      exact ⟨ab, ao, rfl, q0, q1, q2, q3, q4, q5⟩
    · rw [hd1]
      have := tw_bulk F D (List.range k) (fun i hi => (hF i (List.mem_range.1 hi)).2)
      simp only [Rows.uptoBulk]
      omega
end

theorem glueTexts_reads (os : Os) {H : Type} (enc : TypeId × Value → H) : ∃ places, DataW.whole enc Tryd.prog ((World.laidAll Tryd.prog os laid1).forCall (fun _ _ => 0) ⟨#[], #[.slice none 0 0], []⟩).memory Tryd.f3.params.toList Rows.glueTextsSpec.vars false #[(.slice none 0 0 : Value)].toList 8 = some ([.nil], [], places) :=
  ⟨[], by kernel_rfl⟩
set_option maxRecDepth 100000 in
theorem glueTexts_lifted (os : Os) (started : os.Started) (H : Type) (enc : TypeId × Value → H) (F : Stop.Interp) :
    ReturnsInHanded {} Tryd.checked os 3 .any ((Rows.OpenSpec.upto Rows.glueTextsSpec).preRow enc Tryd.prog Tryd.f3 Rows.glueTextsUptoRow.domain false Rows.glueTextsUptoRow.laid) (((Rows.OpenSpec.upto Rows.glueTextsSpec).at F).post enc Tryd.prog Tryd.f3 false true false false) := by
  obtain ⟨places, hx⟩ := glueTexts_reads os enc
  refine returnsInHanded_of_row (C := Tryd.checked) (s := Rows.OpenSpec.upto Rows.glueTextsSpec) Tryd.own started (by kernel_rfl) Tryd.func3
    (witness_row_at (enc := enc) (C := Tryd.checked) false (World.laidAll Tryd.prog os laid1) #[.slice none 0 0] (World.laidAll_os _ _ _) (by kernel_rfl) (by kernel_rfl) (by kernel_rfl)
      (OpenSpec.preRow_of_cond 8 hx (by kernel_rfl) (fun k hk => by cases hk; kernel_rfl) (by kernel_rfl) (door_met os _))) ?_
  intro W base args ds gs before hval0 hW _ hcond _ hL hsh _
  have hval : ∀ (j : Nat) t v, Tryd.f3.params[j]? = some t → args[j]? = some v → Value.okWide Tryd.prog W .any base t v := hval0
  have hW' := hW
  obtain ⟨p, q, hA0, hV, rfl, _, _⟩ := hW
  have hA : DataW.TrodAll enc Tryd.prog W 0 (fun _ => true) true Tryd.f3.params.toList args.toList ds p := hA0
  have hAll := hA
  have hG : Glob W := glob_of hL hsh
  have hbk : Rows.uptoBulkAll (ds ++ gs) ≤ 1048576 := of_decide_eq_true (hcond _ rfl)
  rw [Tryd.params3] at hA hval
  obtain ⟨v0, vs0, d0, ds0, p0, q0, hargs, rfl, rfl, h0, r0⟩ := trodAll_cons hA
  obtain ⟨rfl, rfl, rfl⟩ := trodAll_nil r0
  obtain rfl : args = #[v0] := by cases args; simp_all
  obtain ⟨rfl, rfl⟩ := trodVars_none hV
  simp only [List.append_nil, Rows.uptoBulkAll] at hbk
  obtain ⟨ts0, hk0, hb0⟩ := open_toksB (hval 0 22 v0 rfl rfl) h0
  have hlen := tw_length ts0
  have ht1 := tw_txt false ts0 false false
  have ht2 := tw_txt true ts0 false false
  refine (ltexts_of awake_any ts0 (fun v w hG hv => gtext_any ts0 v w hv (by omega) (by omega)) (fun v w hG hv => gstring_any ts0 v w hG hv (by omega) (fun t ht => by have := tw_mem ts0 t ht; omega) (by omega)) v0 W hG hk0 (by omega) (fun t ht => by have := tw_mem ts0 t ht; omega) (by omega) (by omega)).mono fun e W' ⟨he, hb⟩ => ?_
  subst he
  exact ⟨_, rfl, law_post (s := Rows.glueTextsSpec) hW' hAll rfl ⟨rfl, rfl, rfl⟩ (by kernel_rfl) (by kernel_rfl) (fun x hx => by simpa using hx) (fun x hx => by simpa using hx) hb⟩

theorem glueTexts_row : Rows.GlueTextsUptoSaid :=
  OpenClaim.holds_of_cond 3 Tryd.f3 rfl rfl rfl rfl rfl rfl rfl ⟨rfl, rfl, rfl, rfl, rfl⟩ rfl rfl rfl rfl rfl (by kernel_rfl) Tryd.func3 (by kernel_rfl)
    (of_decide_eq_true (by kernel_rfl)) (by unfold Func.isWrapper; first | (rw [if_pos (by decide +kernel)]; kernel_rfl) | (rw [if_neg (by decide +kernel)]; exact ⟨rfl, rfl⟩))
    (fun os started H enc _ F => by rw [OpenClaim.pre_eq_preRow]; exact glueTexts_lifted os started H enc F)

theorem glueTexts_holds : Rows.GlueTextsUptoCardSaid :=
  Claim7.holds_tied_plain_at .later [] [.data, .data, .pinned] true (true, "b903df7195dc52ea2f164dbe653ea3ce17d3d2d08ef6b66b5e553c10261f080c") false
    glueTexts_row (fun _ h => by cases h) (by kernel_rfl) (fun _ h => by cases h) glueTextsUpto_row_tie rfl ⟨rfl, rfl⟩ (by kernel_rfl) rfl
    (fun f fn hf hfn => by
      obtain rfl : f = 3 := Option.some.inj ((show Tryd.prog.funcNamed "emend/emendlaw07.GlueTexts" = some 3 by kernel_rfl).symm.trans hf) |>.symm
      obtain rfl : fn = Tryd.f3 := (Option.some.inj (Tryd.func3.symm.trans hfn)).symm
      exact ⟨by kernel_rfl, fun j t ht => by
        rw [Tryd.params3] at ht
        have hm : t ∈ [22] := by simpa using Array.mem_of_getElem? ht
        have hall : ([22].all fun u => !Tryd.prog.wantsStandIn u) = true := by kernel_rfl
        exact (show Tryd.prog.wantsStandIn t = false by simpa using List.all_eq_true.1 hall t hm)⟩)
    (by kernel_rfl)

#print axioms glueTexts_holds
end Go.Proofs.YtlkcmegjbdibcaaDoor
