/- What is proved: a body, statement by statement: what stands behind so many statements; how one is walked alone. (and what stands with it) -/
import Derived.Test.YtlepnafgcmeimaaGreatDoorGi
import Derived.Test.YtlepnafgcmeimaaGreatDoorGh
import Derived.Test.YtlepnafgcmeimaaGreatDoorGe
import Derived.IntWalk
import Derived.Deep.LoopGhost

/- What is proved: a body, statement by statement: what stands behind so many statements; how one is walked alone. -/
namespace Go.Proofs.YtlepnafgcmeimaaGreatDoor
open Go.RowKit Go.Shelf

/-- What stands behind so many statements. -/
def secs : Nat → Code → Code
  | 0, c => c
  | n + 1, .seq _ b => secs n b
  | _, c => c
def fstC : Code → Code
  | .seq a _ => a
  | c => c
def isSeq : Code → Bool
  | .seq _ _ => true
  | _ => false
theorem secs_succ : ∀ (n : Nat) (c : Code), isSeq (secs n c) = true → secs n c = .seq (fstC (secs n c)) (secs (n + 1) c)
  | 0, .seq a b, _ => rfl
  | n + 1, .seq a b, h => secs_succ n b h
  | n + 1, .skip, h => by simp [secs, isSeq] at h
  | n + 1, .region _ _ _, h => by simp [secs, isSeq] at h
  | n + 1, .cond _ _ _, h => by simp [secs, isSeq] at h
  | n + 1, .loop _, h => by simp [secs, isSeq] at h
  | n + 1, .block _ _, h => by simp [secs, isSeq] at h
  | n + 1, .scope _, h => by simp [secs, isSeq] at h
  | n + 1, .label _, h => by simp [secs, isSeq] at h
  | n + 1, .exit _, h => by simp [secs, isSeq] at h
  | n + 1, .goto _, h => by simp [secs, isSeq] at h
  | n + 1, .ret, h => by simp [secs, isSeq] at h
/-- A statement, and what stands behind it. -/
theorem wp_sec {P : Program} {Q : Exit → Act → World → Prop} {a : Act} {w : World} (n : Nat) (c : Code) (hs : isSeq (secs n c) = true)
    (h : (fstC (secs n c)).wp P (Exit.then (fun a w => (secs (n + 1) c).wp P Q a w) Q) a w) : (secs n c).wp P Q a w := by
  rw [secs_succ n c hs]
  exact wp_seq h

theorem lit_beq (t : ByteArray) (l : List UInt8) : (t.toList == l) = decide (t = ⟨l.toArray⟩) := by
  rw [← ba_beq, Lib.toList_data ⟨l.toArray⟩]
theorem lit_no {t : ByteArray} {l : List UInt8} (h : ¬ t = ⟨l.toArray⟩) : (t.toList == l) = false := by rw [lit_beq]; exact decide_eq_false h
theorem lit_yes {t : ByteArray} {l : List UInt8} (h : t = ⟨l.toArray⟩) : (t.toList == l) = true := by rw [lit_beq]; exact decide_eq_true h
theorem lit_ne {a b : ByteArray} (h : ¬ a = b) : (a.toList == b.toList) = false := by rw [ba_beq]; exact decide_eq_false h
theorem add_ba (a b c : ByteArray) (h : a.size + b.size ≤ 100000000000) (hc : c.data.toList = a.data.toList ++ b.data.toList) (w : World) : (Op.stringOp .add a b).run Tryz.prog w = .ok (.string c) w := by
  have e : c = a ++ b := by
    rw [← Go.Lib.mk_data a, ← Go.Lib.mk_data b, ByteArray.mk_append_mk, ← hc, Go.Lib.mk_data]
  rw [run_string_add_sum w _ _ (by omega), e]
theorem Ks.toks {W : World} {v : Value} {f : Int} {ts : List Lx.T} (h : Ks W v (ts.map (ofT f))) : Toks W v f ts := by
  obtain ⟨ad, cap, rfl, h1, h2, h3⟩ := h
  rw [List.length_map] at h1
  refine ⟨ad, cap, by rw [List.length_map], h1, h2, fun i t ht => ?_⟩
  exact h3 i (ofT f t) (by rw [List.getElem?_map, ht]; rfl)
theorem below_cof {W W' : World} {a : Addr} {v : Value} (h : Below W.heap.size W W') (hc : W.cell? a = some v) : W'.cell? a = some v := (h.cell (lt_of_cell hc)).trans hc
theorem box6_cells {W : World} {b t : Nat} {a0 a1 a2 a3 a4 a5 : Value} (h : W.heap[b]? = some (.cells #[a0, a1, a2, a3, a4, a5] t (0, 0))) :
    W.cell? ⟨b, 0, none⟩ = some a0 ∧ W.cell? ⟨b, 1, none⟩ = some a1 ∧ W.cell? ⟨b, 2, none⟩ = some a2 ∧ W.cell? ⟨b, 3, none⟩ = some a3 ∧ W.cell? ⟨b, 4, none⟩ = some a4 ∧ W.cell? ⟨b, 5, none⟩ = some a5 :=
  ⟨(Lib.cell_of_heap h 0).trans rfl, (Lib.cell_of_heap h 1).trans rfl, (Lib.cell_of_heap h 2).trans rfl, (Lib.cell_of_heap h 3).trans rfl, (Lib.cell_of_heap h 4).trans rfl, (Lib.cell_of_heap h 5).trans rfl⟩
end Go.Proofs.YtlepnafgcmeimaaGreatDoor

/- What is proved: plain facts: what is written of tokens, one behind the other; a string read byte by byte. -/
namespace Go.Proofs.YtlepnafgcmeimaaGreatDoor
namespace Gl

/-- What is there: the text, did a token stand ahead, and a line end since? -/
structure St where
  s : List UInt8
  seen : Bool
  gap : Bool
def St.zero : St := ⟨[], false, false⟩
def step (q : Bool) (x : St) (t : K) : St := if t.kind == 7 then ⟨x.s, x.seen, true⟩ else ⟨x.s ++ ((if x.seen && (t.bl || x.gap) then [32] else []) ++ wr q t), true, false⟩
def run (q : Bool) (l : List K) : St := l.foldl (step q) .zero
theorem fold_txt (q : Bool) : ∀ (l : List K) (x : St), (l.foldl (step q) x).s = x.s ++ txt q x.seen x.gap l
  | [], x => by simp [txt]
  | t :: r, x => by
    rw [List.foldl_cons, fold_txt q r]
    unfold step
    cases h : (t.kind == 7) with
    | true => simp [txt, h]
    | false => simp [txt, h, List.append_assoc]
theorem run_txt (q : Bool) (l : List K) : (run q l).s = txt q false false l := by
  have := fold_txt q l .zero
  simpa [run, St.zero] using this
theorem run_take (q : Bool) (l : List K) (k : Nat) (t : K) (h : l[k]? = some t) : run q (l.take (k + 1)) = step q (run q (l.take k)) t := by
  rw [List.take_add_one, h]
  simp [run, List.foldl_append]
theorem run_le (q : Bool) (l : List K) (k : Nat) : (run q (l.take k)).s.length ≤ (txt q false false l).length := by
  rw [← run_txt]
  conv => rhs; rw [← List.take_append_drop k l]
  unfold run
  rw [List.foldl_append, fold_txt q (l.drop k)]
  simp
theorem step_nl {q : Bool} {x : St} {t : K} (h : t.kind = 7) : step q x t = ⟨x.s, x.seen, true⟩ := by simp [step, h]
theorem step_tok {q : Bool} {x : St} {t : K} (h : t.kind ≠ 7) : step q x t = ⟨x.s ++ ((if x.seen && (t.bl || x.gap) then [32] else []) ++ wr q t), true, false⟩ := by
  have : (t.kind == 7) = false := by simpa using h
  simp [step, this]
theorem esc_take (l : List UInt8) (k : Nat) (c : UInt8) (h : l[k]? = some c) : esc (l.take (k + 1)) = esc (l.take k) ++ (if c = 92 ∨ c = 34 then [92, c] else [c]) := by
  rw [List.take_add_one, h]
  simp [esc]
theorem esc_len (l : List UInt8) : (esc l).length ≤ 2 * l.length := by
  induction l with
  | nil => simp [esc]
  | cons c r ih =>
    have : esc (c :: r) = (if c = 92 ∨ c = 34 then [92, c] else [c]) ++ esc r := by simp [esc]
    rw [this, List.length_append, List.length_cons]
    split <;> simp <;> omega

/-! A string's inside, read byte by byte. -/
/-- What was read so far goes with what is left. -/
def Way (M out : List UInt8) (i : Nat) : Prop := unq M = (unq (M.drop i)).map (out ++ ·)
theorem Way.start (M : List UInt8) : Way M [] 0 := by
  unfold Way
  rw [List.drop_zero]
  cases unq M <;> rfl
theorem drop_at {M : List UInt8} {i : Nat} {c : UInt8} (h : M[i]? = some c) : M.drop i = c :: M.drop (i + 1) := by
  obtain ⟨hi, e⟩ := List.getElem?_eq_some_iff.1 h
  rw [List.drop_eq_getElem_cons hi, e]
theorem Way.quote {M out : List UInt8} {i : Nat} (h : Way M out i) (hc : M[i]? = some 34) : unq M = none := by
  unfold Way at h
  rw [h, drop_at hc]
  cases M.drop (i + 1) with
  | nil => rfl
  | cons d r => simp [unq]
theorem Way.last {M out : List UInt8} {i : Nat} (h : Way M out i) (hc : M[i]? = some 92) (hl : M.length = i + 1) : unq M = none := by
  unfold Way at h
  rw [h, drop_at hc, List.drop_of_length_le (by omega)]
  rfl
theorem Way.pair {M out : List UInt8} {i : Nat} {d : UInt8} (h : Way M out i) (hc : M[i]? = some 92) (hd : M[i + 1]? = some d) : Way M (out ++ [d]) (i + 2) := by
  unfold Way at h ⊢
  rw [h, drop_at hc, drop_at hd, unq_two]
  cases unq (M.drop (i + 1 + 1)) with
  | none => rfl
  | some y => simp
theorem Way.one {M out : List UInt8} {i : Nat} {c : UInt8} (h : Way M out i) (hc : M[i]? = some c) (h1 : c ≠ 34) (h2 : c ≠ 92) : Way M (out ++ [c]) (i + 1) := by
  unfold Way at h ⊢
  rw [h, drop_at hc, unq_cons h1 h2]
  cases unq (M.drop (i + 1)) with
  | none => rfl
  | some y => simp
theorem Way.fin {M out : List UInt8} {i : Nat} (h : Way M out i) (hl : M.length ≤ i) : unq M = some out := by
  unfold Way at h
  rw [h, List.drop_of_length_le hl]
  simp [unq]
/-- What a text says as a string, or none. -/
def unquote (s : List UInt8) : Option (List UInt8) :=
  if 2 ≤ s.length ∧ s.head? = some 34 ∧ s.getLast? = some 34 then unq ((s.drop 1).dropLast) else none
theorem unquote_quoted (X : List UInt8) : unquote (34 :: (X ++ [34])) = unq X := by
  have h1 : (34 :: (X ++ [34])).getLast? = some 34 := by rw [← List.cons_append, List.getLast?_append]; rfl
  unfold unquote
  rw [if_pos ⟨by simp, rfl, h1⟩]
  simp
end Gl
end Go.Proofs.YtlepnafgcmeimaaGreatDoor

/- What is proved: what the document's own escaped tells of a token. -/
namespace Go.Proofs.YtlepnafgcmeimaaGreatDoor
open Go.RowKit Go.Shelf

namespace Gl
def wrb (b : Bool) (l : List UInt8) : List UInt8 := if b then esc l else l
def isQ (t : K) : Bool := t.kind == 4 || t.kind == 3
theorem wr_wrb (t : K) : wr true t = wrb (isQ t) t.text.data.toList := by
  unfold wr wrb isQ
  rw [Bool.true_and]
theorem wrb_take (b : Bool) (l : List UInt8) (k : Nat) (c : UInt8) (h : l[k]? = some c) : wrb b (l.take (k + 1)) = wrb b (l.take k) ++ (if b ∧ (c = 92 ∨ c = 34) then [92, c] else [c]) := by
  cases b with
  | true => simp only [wrb, if_true, true_and]; exact esc_take l k c h
  | false => simp only [wrb, Bool.false_eq_true, if_false, false_and]; rw [List.take_add_one, h]; rfl
theorem wrb_len (b : Bool) (l : List UInt8) : (wrb b l).length ≤ 2 * l.length := by
  cases b with
  | true => exact esc_len l
  | false => show l.length ≤ _; omega
end Gl

set_option maxRecDepth 100000 in
set_option maxHeartbeats 4000000 in
theorem resc_any (t : K) (w : World) (hl : t.text.size ≤ 400000000) :
    Calls Tryz.prog 44 #[kAgg t] w fun e w' => e = .returned (.string ⟨(Gl.wr true t).toArray⟩) ∧ Below w.heap.size w w' := by
  rw [Gl.wr_wrb]
  obtain ⟨b, hb⟩ : ∃ b, b = Gl.isQ t := ⟨_, rfl⟩
  rw [← hb]
  have HBQ := Lib.hid hb
  obtain ⟨kind, tx, tf, tfr, ten, tbl⟩ := t
  dsimp only at hl ⊢
  obtain ⟨n, hn⟩ : ∃ n, n = tx.size := ⟨_, rfl⟩
  have Hn := Lib.hid hn
  have HL := Lib.hid hl
  clear hb hl hn
  unfold kAgg
  go_enter Tryz.func44, Tryz.ntmps44
  go_wp2_with fail
  have hB0 : Below w.heap.size w (w.alloc (.cells #[.int .i64 kind, .string tx, .int .i64 tf, .int .i64 tfr, .int .i64 ten, .bool tbl] 30)) := (Below.refl _ w).alloc (Nat.le_refl _) _
  have hbox := heap_alloc_new w (.cells #[.int .i64 kind, .string tx, .int .i64 tf, .int .i64 tfr, .int .i64 ten, .bool tbl] 30)
  generalize w.alloc (.cells #[.int .i64 kind, .string tx, .int .i64 tf, .int .i64 tfr, .int .i64 ten, .bool tbl] 30) = W0 at hB0 hbox ⊢
  have HB0 := Lib.hid hB0
  have HBOX := Lib.hid hbox
  clear hB0 hbox
  go_loopw [3, 4] (fun s i wr => ∃ (k : Nat) (acc : List UInt8), i = .int .i64 k ∧ k ≤ n ∧ s = .string ⟨acc.toArray⟩ ∧ acc = Gl.wrb b (tx.data.toList.take k) ∧ Below W0.heap.size W0 wr) (fun _ i _ => n - (intOf i).toNat)
  case atStart => exact ⟨0, [], rfl, Nat.zero_le _, rfl, by cases b <;> rfl, Below.refl _ _⟩
  case round =>
    obtain ⟨k, acc, rfl, hk, rfl, ha, hB⟩ := hrel
    have hbx := (hB.block _ (lt_of_block HBOX.out)).trans HBOX.out
    obtain ⟨x0, x1, x2, x3, x4, x5⟩ := box6_cells hbx
    have hal : acc.length ≤ 800000000 := by
      have h1 := Gl.wrb_len b (tx.data.toList.take k)
      rw [← ha, List.length_take, size_list] at h1
      have := HL.out
      omega
    have HA := Lib.hid ha
    have HB := Lib.hid hB
    clear ha hB hbx x2 x3 x4 x5
    have hnl : n ≤ 400000000 := by rw [Hn.out]; exact HL.out
    by_cases hlt : k < n
    · have hkt : k < tx.size := by rw [← Hn.out]; exact hlt
      obtain ⟨c, hc⟩ : ∃ c, c = tx[k] := ⟨_, rfl⟩
      have hck : tx.data.toList[k]? = some c := by rw [hc, List.getElem?_eq_getElem (by rw [size_list]; exact hkt)]; rfl
      have hstep := Gl.wrb_take b tx.data.toList k c hck
      rw [← HA.out] at hstep
      have y1 : (0 : Int) ≤ k := by omega
      have y2 : (k : Int) < tx.size := by omega
      have y3 : (k : Int) ≤ 400000000 := by omega
      have HST := Lib.hid hstep
      clear hck hstep
      have hcv2 : ∀ w : World, (convert 70 9 (.slice (some ⟨w.heap.size, 0, none⟩) 1 1)).run Tryz.prog (w.alloc (.cells #[.int .u8 92] 5)) = .ok (.string ⟨#[92]⟩) (w.alloc (.cells #[.int .u8 92] 5)) := fun w => conv_one 92 w
      have hcv : ∀ w : World, (convert 70 9 (.slice (some ⟨w.heap.size, 0, none⟩) 1 1)).run Tryz.prog (w.alloc (.cells #[.int .u8 tx[k].toNat] 5)) = .ok (.string ⟨#[c]⟩) (w.alloc (.cells #[.int .u8 tx[k].toNat] 5)) := fun w => by rw [hc]; exact conv_one _ w
      have hcvB : (convert 70 9 (.slice (some ⟨wr.heap.size + 1, 0, none⟩) 1 1)).run Tryz.prog ((wr.alloc (.cells #[.int .u8 92] 5)).alloc (.cells #[.int .u8 tx[k].toNat] 5)) = .ok (.string ⟨#[c]⟩) ((wr.alloc (.cells #[.int .u8 92] 5)).alloc (.cells #[.int .u8 tx[k].toNat] 5)) := by
        have := hcv (wr.alloc (.cells #[.int .u8 92] 5))
        rwa [World.size_alloc] at this
      have had1 : ∀ W, (Op.stringOp .add ⟨acc.toArray⟩ ⟨#[92]⟩).run Tryz.prog W = .ok (.string ⟨(acc ++ [92]).toArray⟩) W := fun W => add_run acc [92] (by simp; omega) W
      have had2 : ∀ W, (Op.stringOp .add ⟨(acc ++ [92]).toArray⟩ ⟨#[c]⟩).run Tryz.prog W = .ok (.string ⟨((acc ++ [92]) ++ [c]).toArray⟩) W := fun W => add_run (acc ++ [92]) [c] (by simp; omega) W
      have had3 : ∀ W, (Op.stringOp .add ⟨acc.toArray⟩ ⟨#[c]⟩).run Tryz.prog W = .ok (.string ⟨(acc ++ [c]).toArray⟩) W := fun W => add_run acc [c] (by simp; omega) W
      have hcc : tx[k] = 92 ∨ (tx[k] ≠ 92 ∧ tx[k] = 34) ∨ (tx[k] ≠ 92 ∧ tx[k] ≠ 34) := by
        by_cases h1 : tx[k] = 92
        · exact .inl h1
        · by_cases h2 : tx[k] = 34
          · exact .inr (.inl ⟨h1, h2⟩)
          · exact .inr (.inr ⟨h1, h2⟩)
      have hkk : kind = 4 ∨ (kind ≠ 4 ∧ kind = 3) ∨ (kind ≠ 4 ∧ kind ≠ 3) := by omega
      rcases hcc with h1 | ⟨h1, h2⟩ | ⟨h1, h2⟩
      · have t1 : ((tx[k].toNat : Int) == 92) = true := u8_eq h1
        have HC92 := Lib.hid (show c = 92 ∨ c = 34 from .inl (by rw [hc, h1]))
        clear h1 hc
        rcases hkk with rfl | ⟨h3, rfl⟩ | ⟨h3, h4⟩
        · have HNX := Lib.hid (show acc ++ [92, c] = Gl.wrb b (tx.data.toList.take (k + 1)) by rw [HST.out, if_pos ⟨by rw [HBQ.out]; rfl, HC92.out⟩])
          go_wp2_with fail
          go_roundw
          case rel => exact ⟨k + 1, _, by go_num, by omega, rfl, HNX.out, (HB.out.alloc HB.out.size _).alloc (Nat.le_trans HB.out.size (by simp)) _⟩
          case measure => simp [intOf]; omega
        · have HNX := Lib.hid (show acc ++ [92, c] = Gl.wrb b (tx.data.toList.take (k + 1)) by rw [HST.out, if_pos ⟨by rw [HBQ.out]; rfl, HC92.out⟩])
          go_wp2_with fail
          go_roundw
          case rel => exact ⟨k + 1, _, by go_num, by omega, rfl, HNX.out, (HB.out.alloc HB.out.size _).alloc (Nat.le_trans HB.out.size (by simp)) _⟩
          case measure => simp [intOf]; omega
        · have t3 : (kind == 4) = false := by simpa using h3
          have t4 : (kind == 3) = false := by simpa using h4
          have HNX := Lib.hid (show acc ++ [c] = Gl.wrb b (tx.data.toList.take (k + 1)) by rw [HST.out, if_neg (fun h => by have := h.1; rw [HBQ.out] at this; simp [Gl.isQ, t3, t4] at this)])
          clear h3 h4
          go_wp2_with fail
          go_roundw
          case rel => exact ⟨k + 1, _, by go_num, by omega, rfl, HNX.out, HB.out.alloc HB.out.size _⟩
          case measure => simp [intOf]; omega
      · have t1 : ((tx[k].toNat : Int) == 92) = false := u8_ne h1
        have t2 : ((tx[k].toNat : Int) == 34) = true := u8_eq h2
        have HC92 := Lib.hid (show c = 92 ∨ c = 34 from .inr (by rw [hc, h2]))
        clear h1 h2 hc
        rcases hkk with rfl | ⟨h3, rfl⟩ | ⟨h3, h4⟩
        · have HNX := Lib.hid (show acc ++ [92, c] = Gl.wrb b (tx.data.toList.take (k + 1)) by rw [HST.out, if_pos ⟨by rw [HBQ.out]; rfl, HC92.out⟩])
          go_wp2_with fail
          go_roundw
          case rel => exact ⟨k + 1, _, by go_num, by omega, rfl, HNX.out, (HB.out.alloc HB.out.size _).alloc (Nat.le_trans HB.out.size (by simp)) _⟩
          case measure => simp [intOf]; omega
        · have HNX := Lib.hid (show acc ++ [92, c] = Gl.wrb b (tx.data.toList.take (k + 1)) by rw [HST.out, if_pos ⟨by rw [HBQ.out]; rfl, HC92.out⟩])
          go_wp2_with fail
          go_roundw
          case rel => exact ⟨k + 1, _, by go_num, by omega, rfl, HNX.out, (HB.out.alloc HB.out.size _).alloc (Nat.le_trans HB.out.size (by simp)) _⟩
          case measure => simp [intOf]; omega
        · have t3 : (kind == 4) = false := by simpa using h3
          have t4 : (kind == 3) = false := by simpa using h4
          have HNX := Lib.hid (show acc ++ [c] = Gl.wrb b (tx.data.toList.take (k + 1)) by rw [HST.out, if_neg (fun h => by have := h.1; rw [HBQ.out] at this; simp [Gl.isQ, t3, t4] at this)])
          clear h3 h4
          go_wp2_with fail
          go_roundw
          case rel => exact ⟨k + 1, _, by go_num, by omega, rfl, HNX.out, HB.out.alloc HB.out.size _⟩
          case measure => simp [intOf]; omega
      · have t1 : ((tx[k].toNat : Int) == 92) = false := u8_ne h1
        have t2 : ((tx[k].toNat : Int) == 34) = false := u8_ne h2
        have HNX := Lib.hid (show acc ++ [c] = Gl.wrb b (tx.data.toList.take (k + 1)) by
          rw [HST.out, if_neg (fun h => by rcases h.2 with e | e; exact h1 (by rw [← hc, e]); exact h2 (by rw [← hc, e]))])
        clear h1 h2 hc hkk
        go_wp2_with fail
        go_roundw
        case rel => exact ⟨k + 1, _, by go_num, by omega, rfl, HNX.out, HB.out.alloc HB.out.size _⟩
        case measure => simp [intOf]; omega
    · have y2 : ¬ (k : Int) < tx.size := by rw [← Hn.out]; omega
      have HNX := Lib.hid (show Gl.wrb b tx.data.toList = acc by rw [HA.out, List.take_of_length_le (by rw [size_list, ← Hn.out]; omega)])
      go_wp2_with fail
      go_ret
      exact ⟨by rw [HNX.out]; rfl, Below.then HB0.out HB.out⟩
end Go.Proofs.YtlepnafgcmeimaaGreatDoor

/- What is proved: what the document's own Text, of tokens, tells. -/
namespace Go.Proofs.YtlepnafgcmeimaaGreatDoor
open Go.RowKit Go.Shelf

namespace Gl
/-- The number of the last token that was written, by what is there. -/
def LastIs (x : St) (last : Int) (i : Nat) : Prop := (x.seen = false ∧ last = -1) ∨ (x.seen = true ∧ 0 ≤ last ∧ last < i ∧ x.gap = decide (last < (i : Int) - 1))
theorem LastIs.nl {q : Bool} {x : St} {last : Int} {i : Nat} {t : K} (h : LastIs x last i) (h7 : t.kind = 7) : LastIs (step q x t) last (i + 1) := by
  rw [step_nl h7]
  rcases h with ⟨h1, h2⟩ | ⟨h1, h2, h3, h4⟩
  · exact .inl ⟨h1, h2⟩
  · refine .inr ⟨h1, h2, by omega, ?_⟩
    show true = _
    rw [decide_eq_true (by omega)]
theorem LastIs.tok {q : Bool} {x : St} (i : Nat) {t : K} (h7 : t.kind ≠ 7) : LastIs (step q x t) (i : Int) (i + 1) := by
  rw [step_tok h7]
  refine .inr ⟨rfl, by omega, by omega, ?_⟩
  show false = _
  rw [decide_eq_false (by omega)]
end Gl

set_option maxRecDepth 100000 in
set_option maxHeartbeats 4000000 in
theorem rtext_any (v : Value) (q : Bool) (l : List K) (w : World) (hv : Ks w v l) (hl : l.length ≤ 1000000000) (hx : ∀ t ∈ l, t.text.size ≤ 400000000) (ht : (Gl.txt q false false l).length ≤ 1000000000) :
    Calls Tryz.prog 25 #[v, .bool q] w fun e w' => e = .returned (.string ⟨(Gl.txt q false false l).toArray⟩) ∧ Below w.heap.size w w' := by
  obtain ⟨ad, cap, rfl, h1, h2, -⟩ := id hv
  obtain ⟨n, hn⟩ : ∃ n, n = l.length := ⟨_, rfl⟩
  rw [← hn] at hv h1 hl ⊢
  have HV := Lib.hid hv
  have Hn := Lib.hid hn
  have HX := Lib.hid hx
  have HT := Lib.hid ht
  clear hv hn hx ht h1 h2
  go_enter Tryz.func25, Tryz.ntmps25
  go_wp2_with fail
  go_loopw [5, 6, 7] (fun s a i wr => ∃ (k : Nat) (last : Int) (acc : List UInt8), i = .int .i64 k ∧ k ≤ n ∧ a = .int .i64 last ∧ s = .string ⟨acc.toArray⟩ ∧ acc = (Gl.run q (l.take k)).s ∧ Gl.LastIs (Gl.run q (l.take k)) last k ∧ Below w.heap.size w wr) (fun _ _ i _ => n - (intOf i).toNat)
  case atStart => exact ⟨0, -1, [], rfl, Nat.zero_le _, rfl, rfl, rfl, .inl ⟨rfl, rfl⟩, Below.refl _ _⟩
  case round =>
    obtain ⟨k, last, acc, rfl, hk, rfl, rfl, ha, hla, hB⟩ := hrel
    have HB := Lib.hid hB
    have HA := Lib.hid ha
    have HLA := Lib.hid hla
    have hks := HV.out.below hB
    have hlo : (-1 : Int) ≤ last ∧ last < n + 1 := by rcases hla with ⟨_, h⟩ | ⟨_, h1, h2, _⟩ <;> omega
    obtain ⟨hlo1, hlo2⟩ := hlo
    clear hB ha hla
    by_cases hlt : k < n
    · obtain ⟨t, ht⟩ : ∃ t, l[k]? = some t := ⟨_, List.getElem?_eq_getElem (by rw [← Hn.out]; exact hlt)⟩
      obtain ⟨g, o, rfl, d0, d1, d2, d3, d4, d5⟩ := (show ∃ g o, ad = some ⟨g, o, none⟩ ∧ KAt wr g (o + k * 6) t by
        obtain ⟨ad', cap', e, -, -, h3⟩ := hks
        injection e with e1 e2 e3
        subst e1
        exact h3 k t ht)
      have hgl := lt_of_cell d0
      have y1 : (0 : Int) ≤ k := by omega
      have y2 : (k : Int) < n := by omega
      have hst := Gl.run_take q l k t ht
      have hle := Gl.run_le q l (k + 1)
      have hts := HX.out t (List.mem_of_getElem? ht)
      obtain ⟨x, hxe⟩ : ∃ x, x = Gl.run q (l.take k) := ⟨_, rfl⟩
      rw [← hxe] at hst
      have hla := HLA.out
      rw [← hxe] at hla
      have hacc : acc = x.s := by rw [hxe]; exact HA.out
      have htl := HT.out
      by_cases h7 : t.kind = 7
      · have t7 : (t.kind == 7) = true := by simpa using h7
        have HNX := Lib.hid (show acc = (Gl.run q (l.take (k + 1))).s ∧ Gl.LastIs (Gl.run q (l.take (k + 1))) last (k + 1) by
          rw [hst]; exact ⟨by rw [Gl.step_nl h7]; exact hacc, hla.nl h7⟩)
        clear h7 hst hle hla hacc htl hks d1 d2 d3 d4 hxe hts ht
        go_wp2_with fail
        go_roundw
        case rel => exact ⟨k + 1, last, acc, by go_num, by omega, rfl, rfl, HNX.out.1, HNX.out.2, HB.out⟩
        case measure => simp [intOf]; omega
      · have t7 : (t.kind == 7) = false := by simpa using h7
        obtain ⟨sp, hsp⟩ : ∃ sp, sp = (x.seen && (t.bl || x.gap)) := ⟨_, rfl⟩
        have hstep := Gl.step_tok (q := q) (x := x) h7
        rw [← hsp, ← hacc] at hstep
        obtain ⟨A2, hA2⟩ : ∃ A2, A2 = acc ++ (if sp then [32] else []) := ⟨_, rfl⟩
        obtain ⟨E, hE⟩ : ∃ E, E = Gl.wr q t := ⟨_, rfl⟩
        have hfin : (Gl.run q (l.take (k + 1))).s = A2 ++ E := by rw [hst, hstep, hA2, hE, List.append_assoc]
        have hfl : A2.length + E.length ≤ 1000000000 := by
          have := congrArg List.length hfin
          rw [List.length_append] at this
          omega
        obtain ⟨Fi, hFi⟩ : ∃ Fi, Fi = A2 ++ E := ⟨_, rfl⟩
        have hA2l : acc.length ≤ A2.length := by rw [hA2]; simp
        have HNX := Lib.hid (show Fi = (Gl.run q (l.take (k + 1))).s ∧ Gl.LastIs (Gl.run q (l.take (k + 1))) (k : Int) (k + 1) from ⟨by rw [hFi]; exact hfin.symm, by rw [hst]; exact Gl.LastIs.tok k h7⟩)
        have hcase : (sp = false ∧ decide (0 ≤ last) = false) ∨ (sp = true ∧ decide (0 ≤ last) = true ∧ t.bl = true) ∨ (sp = true ∧ decide (0 ≤ last) = true ∧ t.bl = false ∧ decide (last < (k : Int) - 1) = true) ∨ (sp = false ∧ decide (0 ≤ last) = true ∧ t.bl = false ∧ decide (last < (k : Int) - 1) = false) := by
          rcases hla with ⟨h1, h2⟩ | ⟨h1, h2, h3, h4⟩
          · exact .inl ⟨by rw [hsp, h1]; rfl, decide_eq_false (by omega)⟩
          · rw [h1, h4] at hsp
            have h5 : decide (0 ≤ last) = true := decide_eq_true h2
            cases hb : t.bl with
            | true => exact .inr (.inl ⟨by rw [hsp, hb]; rfl, h5, rfl⟩)
            | false =>
              cases hg : decide (last < (k : Int) - 1) with
              | true => exact .inr (.inr (.inl ⟨by rw [hsp, hb, hg]; rfl, h5, rfl, rfl⟩))
              | false => exact .inr (.inr (.inr ⟨by rw [hsp, hb, hg]; rfl, h5, rfl, rfl⟩))
        have hads : sp = true → ∀ W, (Op.stringOp .add ⟨acc.toArray⟩ ⟨#[32]⟩).run Tryz.prog W = .ok (.string ⟨A2.toArray⟩) W := fun e W => by
          rw [hA2, e]; exact add_run acc [32] (by simp; omega) W
        have hsame : sp = false → A2 = acc := fun e => by rw [hA2, e]; simp
        have hadE : ∀ W, (Op.stringOp .add ⟨A2.toArray⟩ ⟨E.toArray⟩).run Tryz.prog W = .ok (.string ⟨Fi.toArray⟩) W := fun W => by rw [hFi]; exact add_run A2 _ (by omega) W
        have htx : q = false → t.text = ⟨E.toArray⟩ := fun e => by
          rw [hE, e]
          simp [Gl.wr]
        have hesc : q = true → ∀ w', Calls Tryz.prog 44 #[kAgg t] w' fun e w'' => e = .returned (.string ⟨E.toArray⟩) ∧ Below w'.heap.size w' w'' := fun e w' => by
          rw [hE, e]; exact resc_any t w' hts
        have HTX := Lib.hid htx
        have HESC := Lib.hid hesc
        have HADS := Lib.hid hads
        have HSAME := Lib.hid hsame
        have hnl : k ≤ 1000000000 := by omega
        clear hst hle hacc htl hks hxe ht hstep hfin hfl hA2 hla htx hsp h7 HA HLA hesc hads hsame hE hFi hts
        obtain ⟨kind, tx, tf, tfr, ten, tbl⟩ := t
        dsimp only at d0 d1 d2 d3 d4 d5 t7 hcase HTX
        unfold kAgg at HESC
        rcases hcase with ⟨rfl, c1⟩ | ⟨rfl, c1, rfl⟩ | ⟨rfl, c1, rfl, c3⟩ | ⟨rfl, c1, rfl, c3⟩
        · obtain rfl := HSAME.out rfl
          cases q
          · have htx := HTX.out rfl
            subst htx
            go_wp2_with fail
            go_roundw
            case rel => exact ⟨k + 1, k, Fi, by go_num, by omega, rfl, rfl, HNX.out.1, HNX.out.2, HB.out⟩
            case measure => simp [intOf]; omega
          · go_wp2_with fail
            refine (HESC.out (by trivial) _).mono ?_
            rintro e w1 ⟨rfl, hB1⟩
            have HB1 := Lib.hid (Below.then HB.out hB1)
            clear hB1
            go_wp2_with fail
            go_roundw
            case rel => exact ⟨k + 1, k, Fi, by go_num, by omega, rfl, rfl, HNX.out.1, HNX.out.2, HB1.out⟩
            case measure => simp [intOf]; omega
        · have hads := HADS.out rfl
          cases q
          · have htx := HTX.out rfl
            subst htx
            go_wp2_with fail
            go_roundw
            case rel => exact ⟨k + 1, k, Fi, by go_num, by omega, rfl, rfl, HNX.out.1, HNX.out.2, HB.out⟩
            case measure => simp [intOf]; omega
          · go_wp2_with fail
            refine (HESC.out (by trivial) _).mono ?_
            rintro e w1 ⟨rfl, hB1⟩
            have HB1 := Lib.hid (Below.then HB.out hB1)
            clear hB1
            go_wp2_with fail
            go_roundw
            case rel => exact ⟨k + 1, k, Fi, by go_num, by omega, rfl, rfl, HNX.out.1, HNX.out.2, HB1.out⟩
            case measure => simp [intOf]; omega
        · have hads := HADS.out rfl
          cases q
          · have htx := HTX.out rfl
            subst htx
            go_wp2_with fail
            go_roundw
            case rel => exact ⟨k + 1, k, Fi, by go_num, by omega, rfl, rfl, HNX.out.1, HNX.out.2, HB.out⟩
            case measure => simp [intOf]; omega
          · go_wp2_with fail
            refine (HESC.out (by trivial) _).mono ?_
            rintro e w1 ⟨rfl, hB1⟩
            have HB1 := Lib.hid (Below.then HB.out hB1)
            clear hB1
            go_wp2_with fail
            go_roundw
            case rel => exact ⟨k + 1, k, Fi, by go_num, by omega, rfl, rfl, HNX.out.1, HNX.out.2, HB1.out⟩
            case measure => simp [intOf]; omega
        · obtain rfl := HSAME.out rfl
          cases q
          · have htx := HTX.out rfl
            subst htx
            go_wp2_with fail
            go_roundw
            case rel => exact ⟨k + 1, k, Fi, by go_num, by omega, rfl, rfl, HNX.out.1, HNX.out.2, HB.out⟩
            case measure => simp [intOf]; omega
          · go_wp2_with fail
            refine (HESC.out (by trivial) _).mono ?_
            rintro e w1 ⟨rfl, hB1⟩
            have HB1 := Lib.hid (Below.then HB.out hB1)
            clear hB1
            go_wp2_with fail
            go_roundw
            case rel => exact ⟨k + 1, k, Fi, by go_num, by omega, rfl, rfl, HNX.out.1, HNX.out.2, HB1.out⟩
            case measure => simp [intOf]; omega
    · have hkn : k = n := by omega
      have HF := Lib.hid (show acc = Gl.txt q false false l by rw [HA.out, List.take_of_length_le (by rw [← Hn.out]; omega), Gl.run_txt])
      have y2 : ¬ (k : Int) < n := by omega
      clear hks
      go_wp2_with fail
      go_ret
      exact ⟨by rw [HF.out]; rfl, HB.out⟩
end Go.Proofs.YtlepnafgcmeimaaGreatDoor

/- What is proved: what One tells of a text. -/
namespace Go.Proofs.YtlepnafgcmeimaaGreatDoor
open Go.RowKit Go.Shelf
open Lx (T)

/-- A token as a value. -/
def tokAgg (f : Int) (t : T) : Value := .agg #[.int .i64 t.kind, .string ⟨t.text.toArray⟩, .int .i64 f, .int .i64 t.fr, .int .i64 t.to, .bool t.bl]
def zeroTok : T := ⟨0, [], 0, 0, false⟩
/-- The token that a text is. -/
def oneOf (t : List UInt8) : Option T :=
  match Lx.tk false (Sp.left 0 t) with
  | [x] => if x.kind ≠ 7 ∧ x.text.length = t.length then some x else none
  | _ => none
def OnePost (w : World) (o : Option T) (e : Ending) (w' : World) : Prop := e = .returned (.tuple #[tokAgg 0 (o.getD zeroTok), .bool o.isSome]) ∧ Below w.heap.size w w'

set_option maxRecDepth 100000 in
set_option maxHeartbeats 4000000 in
theorem one_any (s : ByteArray) (hs : s.size ≤ 1000000000) (w : World) (hG : Glob w) : Calls Tryz.prog 13 #[.string s] w (OnePost w (oneOf s.data.toList)) := by
  have hB0 : Below w.heap.size w (w.alloc (.cells #[.int .i64 0, .string ⟨#[]⟩, .int .i64 0, .int .i64 0, .int .i64 0, .bool false] 30)) := (Below.refl _ w).alloc (Nat.le_refl _) _
  have HB0 := Lib.hid hB0
  have HG := Lib.hid (hG.later hB0)
  obtain ⟨ts, hts⟩ : ∃ ts, ts = Lx.tk false (Sp.left 0 s.data.toList) := ⟨_, rfl⟩
  obtain ⟨o, ho⟩ : ∃ o, o = oneOf s.data.toList := ⟨_, rfl⟩
  rw [← ho]
  unfold oneOf at ho
  rw [← hts] at ho
  have HT := Lib.hid hts
  have HO := Lib.hid ho
  clear hB0 hG hts ho
  go_enter Tryz.func13, Tryz.ntmps13
  go_wp2_with fail
  refine (tokens_any 0 s hs _ HG.out).mono ?_
  rintro e w1 ⟨v, rfl, hv, hB1⟩
  rw [← HT.out] at hv
  obtain ⟨ad, cap, rfl, -⟩ := id hv
  have hbk : w1.heap[w.heap.size]? = some (.cells #[.int .i64 0, .string ⟨#[]⟩, .int .i64 0, .int .i64 0, .int .i64 0, .bool false] 30 (0, 0)) := (hB1.block _ (by simp)).trans (heap_alloc_new w _)
  have hB : Below w.heap.size w w1 := HB0.out.trans (hB1.mono HB0.out.size)
  have c0 : w1.cell? ⟨w.heap.size, 0, none⟩ = some (.int .i64 0) := by rw [Lib.cell_of_heap hbk]; rfl
  have c1 : w1.cell? ⟨w.heap.size, 1, none⟩ = some (.string ⟨#[]⟩) := by rw [Lib.cell_of_heap hbk]; rfl
  have c2 : w1.cell? ⟨w.heap.size, 2, none⟩ = some (.int .i64 0) := by rw [Lib.cell_of_heap hbk]; rfl
  have c3 : w1.cell? ⟨w.heap.size, 3, none⟩ = some (.int .i64 0) := by rw [Lib.cell_of_heap hbk]; rfl
  have c4 : w1.cell? ⟨w.heap.size, 4, none⟩ = some (.int .i64 0) := by rw [Lib.cell_of_heap hbk]; rfl
  have c5 : w1.cell? ⟨w.heap.size, 5, none⟩ = some (.bool false) := by rw [Lib.cell_of_heap hbk]; rfl
  have f0 : w1.frozen? ⟨w.heap.size, 0, none⟩ = false := Lib.frozen_of_heap hbk 0
  have f1 : w1.frozen? ⟨w.heap.size, 1, none⟩ = false := Lib.frozen_of_heap hbk 1
  have f2 : w1.frozen? ⟨w.heap.size, 2, none⟩ = false := Lib.frozen_of_heap hbk 2
  have f3 : w1.frozen? ⟨w.heap.size, 3, none⟩ = false := Lib.frozen_of_heap hbk 3
  have f4 : w1.frozen? ⟨w.heap.size, 4, none⟩ = false := Lib.frozen_of_heap hbk 4
  have f5 : w1.frozen? ⟨w.heap.size, 5, none⟩ = false := Lib.frozen_of_heap hbk 5
  clear hbk hB1
  by_cases h1 : ts.length = 1
  · obtain ⟨x, rfl⟩ : ∃ x, ts = [x] := List.length_eq_one_iff.1 h1
    obtain ⟨g, o', rfl, -, hcap, hmax, hg, hc⟩ := hv.cells (by simp)
    have hcap1 : 1 ≤ cap := hcap
    unfold maxLen at hmax
    obtain ⟨d0, d1, d2, d3, d4, d5⟩ := hc 0 x rfl
    simp only [Nat.zero_mul, Nat.add_zero] at d0 d1 d2 d3 d4 d5
    obtain ⟨tx, htx⟩ : ∃ tx : ByteArray, tx = ⟨x.text.toArray⟩ := ⟨_, rfl⟩
    have htl : tx.data.toList = x.text := by rw [htx]
    rw [← htx] at d1
    have HTX := Lib.hid htx
    have hfull := Lx.one_full s.data.toList x HT.out.symm
    rw [size_list] at hfull
    have ho := HO.out
    rw [size_list] at ho
    by_cases hk : x.kind = 7
    · have t1 : ((x.kind : Int) == 7) = true := by rw [hk]; rfl
      have hn : o = none := by rw [ho]; simp [hk]
      subst hn
      clear hc hv htl hfull ho hk h1 htx
      go_wp2_with fail
      exact bodyPost_ret (v := .tuple #[tokAgg 0 zeroTok, .bool false]) (by simp [results, Tryz.results13, go_sem, tokAgg, zeroTok, c0, c1, c2, c3, c4, c5]) rfl ⟨rfl, (((((hB.setCell (p := ⟨w.heap.size, 0, none⟩) (Nat.le_refl _) _).setCell (p := ⟨w.heap.size, 1, none⟩) (Nat.le_refl _) _).setCell (p := ⟨w.heap.size, 2, none⟩) (Nat.le_refl _) _).setCell (p := ⟨w.heap.size, 3, none⟩) (Nat.le_refl _) _).setCell (p := ⟨w.heap.size, 4, none⟩) (Nat.le_refl _) _).setCell (p := ⟨w.heap.size, 5, none⟩) (Nat.le_refl _) _⟩
    · have t1 : ((x.kind : Int) == 7) = false := by rw [beq_eq_false_iff_ne]; omega
      by_cases hlen : x.text.length = s.size
      · obtain ⟨e1, -⟩ := hfull hlen
        have hst : tx = s := by
          apply ByteArray.ext
          apply Array.toList_inj.1
          rw [htl, e1]
        have t2 : (tx.toList == s.toList) = true := by rw [hst]; simp
        have t3 : (tx.toList != s.toList) = false := by simp [bne, t2]
        have hn : o = some x := by rw [ho]; simp [hk, hlen]
        subst hn
        have HST := Lib.hid hst
        clear hc hv htl hfull ho hk h1 htx e1 hlen hst
        go_wp2_with fail
        exact bodyPost_ret (v := .tuple #[tokAgg 0 x, .bool true]) (by simp [results, Tryz.results13, go_sem, tokAgg, HTX.out, c0, c1, c2, c3, c4, c5]) rfl ⟨rfl, (((((hB.setCell (p := ⟨w.heap.size, 0, none⟩) (Nat.le_refl _) _).setCell (p := ⟨w.heap.size, 1, none⟩) (Nat.le_refl _) _).setCell (p := ⟨w.heap.size, 2, none⟩) (Nat.le_refl _) _).setCell (p := ⟨w.heap.size, 3, none⟩) (Nat.le_refl _) _).setCell (p := ⟨w.heap.size, 4, none⟩) (Nat.le_refl _) _).setCell (p := ⟨w.heap.size, 5, none⟩) (Nat.le_refl _) _⟩
      · have hst : tx ≠ s := by
          intro e
          apply hlen
          rw [← htl, e, size_list]
        have t2 : (tx.toList == s.toList) = false := by rw [ba_beq]; simpa using hst
        have t3 : (tx.toList != s.toList) = true := by simp [bne, t2]
        have hn : o = none := by rw [ho]; simp [hlen]
        subst hn
        clear hc hv htl hfull ho hk h1 htx hlen hst
        go_wp2_with fail
        exact bodyPost_ret (v := .tuple #[tokAgg 0 zeroTok, .bool false]) (by simp [results, Tryz.results13, go_sem, tokAgg, zeroTok, c0, c1, c2, c3, c4, c5]) rfl ⟨rfl, (((((hB.setCell (p := ⟨w.heap.size, 0, none⟩) (Nat.le_refl _) _).setCell (p := ⟨w.heap.size, 1, none⟩) (Nat.le_refl _) _).setCell (p := ⟨w.heap.size, 2, none⟩) (Nat.le_refl _) _).setCell (p := ⟨w.heap.size, 3, none⟩) (Nat.le_refl _) _).setCell (p := ⟨w.heap.size, 4, none⟩) (Nat.le_refl _) _).setCell (p := ⟨w.heap.size, 5, none⟩) (Nat.le_refl _) _⟩
  · have t1 : ((ts.length : Int) != 1) = true := by simp [bne]; omega
    have t2 : ((ts.length : Int) == 1) = false := by rw [beq_eq_false_iff_ne]; omega
    have hn : o = none := by
      rw [HO.out]
      match ts, h1 with
      | [], _ => rfl
      | [x], h => simp at h
      | x :: y :: r, _ => rfl
    subst hn
    clear h1 hv
    go_wp2_with fail
    exact bodyPost_ret (v := .tuple #[tokAgg 0 zeroTok, .bool false]) (by simp [results, Tryz.results13, go_sem, tokAgg, zeroTok, c0, c1, c2, c3, c4, c5]) rfl ⟨rfl, (((((hB.setCell (p := ⟨w.heap.size, 0, none⟩) (Nat.le_refl _) _).setCell (p := ⟨w.heap.size, 1, none⟩) (Nat.le_refl _) _).setCell (p := ⟨w.heap.size, 2, none⟩) (Nat.le_refl _) _).setCell (p := ⟨w.heap.size, 3, none⟩) (Nat.le_refl _) _).setCell (p := ⟨w.heap.size, 4, none⟩) (Nat.le_refl _) _).setCell (p := ⟨w.heap.size, 5, none⟩) (Nat.le_refl _) _⟩
end Go.Proofs.YtlepnafgcmeimaaGreatDoor

/- What String and Paste tell: values; a box of six cells. -/
namespace Go.Proofs.YtlepnafgcmeimaaGreatDoor
open Go.RowKit Go.Shelf
open Lx (T)

def strTok (s : List UInt8) : Value := .agg #[.int .i64 4, .string ⟨s.toArray⟩, .int .i64 0, .int .i64 0, .int .i64 0, .bool false]
/-- What Paste tells: the first token's place, what One told. -/
def pasteV (a : K) (o : Option T) : Value :=
  match o with
  | none => .tuple #[.agg #[.int .i64 0, .string ⟨#[]⟩, .int .i64 0, .int .i64 0, .int .i64 0, .bool false], .int .i64 70]
  | some t => .tuple #[.agg #[.int .i64 t.kind, .string ⟨t.text.toArray⟩, .int .i64 a.file, .int .i64 a.fr, .int .i64 a.en, .bool a.bl], .int .i64 0]
theorem six_set {W : World} {B : Nat} {z0 z1 z2 z3 z4 z5 : Value} (h : W.heap[B]? = some (.cells #[z0, z1, z2, z3, z4, z5] 30 (0, 0))) (a0 a1 a2 a3 a4 a5 : Value) :
    ((((((W.setCell ⟨B, 0, none⟩ a0).setCell ⟨B, 1, none⟩ a1).setCell ⟨B, 2, none⟩ a2).setCell ⟨B, 3, none⟩ a3).setCell ⟨B, 4, none⟩ a4).setCell ⟨B, 5, none⟩ a5).heap[B]? = some (.cells #[a0, a1, a2, a3, a4, a5] 30 (0, 0)) := by
  simp [World.setCell, Array.getElem?_modify, h]
theorem six_below {n B : Nat} {w W : World} (hB : Below n w W) (hn : n ≤ B) (a0 a1 a2 a3 a4 a5 : Value) :
    Below n w ((((((W.setCell ⟨B, 0, none⟩ a0).setCell ⟨B, 1, none⟩ a1).setCell ⟨B, 2, none⟩ a2).setCell ⟨B, 3, none⟩ a3).setCell ⟨B, 4, none⟩ a4).setCell ⟨B, 5, none⟩ a5) :=
  (((((hB.setCell hn _).setCell hn _).setCell hn _).setCell hn _).setCell hn _).setCell hn _
end Go.Proofs.YtlepnafgcmeimaaGreatDoor

/- The landed expansion of macros, ags plain functions that say nothing where what comes grows large. -/
namespace Go.Proofs.YtlepnafgcmeimaaGreatDoor
namespace Ep
open Mx (M isP has LP RP CM HS HH VA)

/-- A token with its hide set, a bit for each macro that was replaced; a placemarker. -/
structure HT where
  t : K
  hd : Nat
  mark : Bool
def HT.of (t : K) : HT := ⟨t, 0, false⟩
def blK (t : K) (b : Bool) : K := ⟨t.kind, t.text, t.file, t.fr, t.en, b⟩
def zeroK : K := ⟨0, ⟨#[]⟩, 0, 0, 0, false⟩
/-- Newlines count ags blanks. -/
def lined : Bool → List K → List HT
  | _, [] => []
  | b, t :: r => if t.kind = 7 then lined true r else HT.of (blK t (t.bl || b)) :: lined false r
/-- The first one has that Blank. -/
def come : List HT → Bool → List HT
  | [], _ => []
  | x :: r, b => ⟨blK x.t b, x.hd, x.mark⟩ :: r

/-- The last place of a name. -/
def lastIx (s : ByteArray) : List ByteArray → Nat → Option Nat
  | [], _ => none
  | p :: r, i => match lastIx s r (i + 1) with | some j => some j | none => if p = s then some i else none
def parIx (m : M) (s : ByteArray) : Option Nat :=
  if m.fn then (if m.va && decide (s = VA) then some m.ps.length else lastIx s m.ps 0) else none
def parOf (m : M) (t : K) : Option Nat := if t.kind == 1 then parIx m t.text else none
/-- A piece of a body: 0 itself, 1 a sign that pastes, 2 a parameter ags a string, 3 ags it is, 4 expanded. -/
structure Pc where
  t : K
  way : Nat
  par : Nat
def isIn (o : Option K) (s : ByteArray) : Bool := match o with | some t => isP t s | none => false
def parIn (m : M) (o : Option K) : Option Nat := match o with | some t => parOf m t | none => none
def pieceAt (m : M) (prev : Option K) (t : K) (next : Option K) : Pc :=
  if isP t HH then ⟨t, 1, 0⟩
  else if isP t HS && (parIn m next).isSome then ⟨t, 2, (parIn m next).getD 0⟩
  else match parOf m t with
    | none => ⟨t, 0, 0⟩
    | some p => if isIn prev HH || isIn next HH then ⟨t, 3, p⟩ else ⟨t, 4, p⟩
def pieceOf (m : M) (i : Nat) : Pc :=
  match m.body[i]? with
  | none => ⟨zeroK, 0, 0⟩
  | some t => pieceAt m (if i = 0 then none else m.body[i - 1]?) t m.body[i + 1]?
def pcs (m : M) : Nat → Nat → List Pc
  | 0, _ => []
  | f + 1, i => if i < m.body.length then pieceOf m i :: pcs m f (if (pieceOf m i).way = 2 then i + 2 else i + 1) else []
def pieces (m : M) : List Pc := pcs m m.body.length 0
def uses (w : Nat) (P : List Pc) (i : Nat) : Bool := P.any fun p => p.way == w && p.par == i

abbrev R (α : Type) := Option (Except Int α)
structure Arg where
  raw : List HT
  full : List HT
  quoted : K
structure Fl where
  out : List HT
  gl : Bool
/-- Of two tokens one, or an error. -/
def pasted (a b : HT) : Option (HT × Int) :=
  if b.mark then some (a, 0)
  else if a.mark then some (⟨blK b.t a.t.bl, b.hd, b.mark⟩, 0)
  else if 1000000 < a.t.text.size + b.t.text.size then none
  else match oneOf (a.t.text.data.toList ++ b.t.text.data.toList) with
    | none => some (⟨zeroK, a.hd &&& b.hd, false⟩, 70)
    | some o => some (⟨⟨o.kind, ⟨o.text.toArray⟩, a.t.file, a.t.fr, a.t.en, a.t.bl⟩, a.hd &&& b.hd, false⟩, 0)
def app (f : Fl) (t : HT) : R Fl := if f.out.length < 4000 then some (.ok ⟨f.out ++ [t], f.gl⟩) else none
def add (f : Fl) (t : HT) : R Fl :=
  match f.out.getLast? with
  | some l =>
    if f.gl then
      match pasted l t with
      | none => none
      | some (o, e) => if e = 0 then some (.ok ⟨f.out.dropLast ++ [o], false⟩) else some (.error e)
    else if l.mark then some (.ok ⟨f.out.dropLast ++ [t], f.gl⟩)
    else app f t
  | none => app f t
def addAll : List HT → Fl → R Fl
  | [], f => some (.ok f)
  | t :: r, f => match add f t with | some (.ok f') => addAll r f' | o => o
def markOf (b : Bool) : HT := ⟨⟨0, ⟨#[]⟩, 0, 0, 0, b⟩, 0, true⟩
def piece (f : Fl) (p : Pc) (ags : List Arg) : R Fl :=
  match p.way with
  | 1 => if f.gl then add f (HT.of p.t) else some (.ok ⟨f.out, true⟩)
  | 2 => match ags[p.par]? with
    | none => none
    | some a => add f (HT.of ⟨a.quoted.kind, a.quoted.text, p.t.file, p.t.fr, p.t.en, p.t.bl⟩)
  | 3 => match ags[p.par]? with
    | none => none
    | some a => if a.raw.isEmpty then add f (markOf p.t.bl) else addAll (come a.raw p.t.bl) f
  | 4 => match ags[p.par]? with
    | none => none
    | some a => addAll (come a.full p.t.bl) f
  | _ => add f (HT.of p.t)
def fill (ags : List Arg) : List Pc → Fl → R Fl
  | [], f => some (.ok f)
  | p :: r, f => match piece f p ags with | some (.ok f') => fill ags r f' | o => o
def unmark (l : List HT) : List HT := match l.getLast? with | some x => if x.mark then l.dropLast else l | none => l
/-- What a body comes to. -/
def filled (P : List Pc) (ags : List Arg) : R (List HT) :=
  match fill ags P ⟨[], false⟩ with
  | none => none
  | some (.error e) => some (.error e)
  | some (.ok f) => some (.ok (unmark f.out))
def hide (l : List HT) (h : Nat) : List HT := l.map fun x => ⟨x.t, x.hd ||| h, x.mark⟩

/-- The places of the signs between which arguments stand. -/
def cuts : List K → Nat → Nat → List Nat → Option (List Nat)
  | [], _, _, _ => none
  | t :: r, i, d, out =>
    if isP t LP then cuts r (i + 1) (d + 1) (if d = 0 then out ++ [i] else out)
    else if d = 0 then none
    else if isP t RP then (if d = 1 then some (out ++ [i]) else cuts r (i + 1) (d - 1) out)
    else if d = 1 && isP t CM then cuts r (i + 1) d (out ++ [i])
    else cuts r (i + 1) d out
def sl (l : List HT) (a b : Nat) : List HT := (l.drop a).take (b - a)
def drop1 (n : Nat) : List (List HT) → List (List HT)
  | [] => []
  | l :: r => if l.length ≤ n then r else l.drop n :: r
/-- The first tokens, where they stand in one list. -/
def takeS (n : Nat) (st : List (List HT)) : Option (List HT × List (List HT)) :=
  match st with
  | [] => none
  | l :: r => if n ≤ l.length then some (l.take n, drop1 n (l :: r)) else none
def flat (st : List (List HT)) : List K := (st.flatten).map (·.t)
def opens : List (List HT) → Bool
  | (x :: _) :: _ => isP x.t LP
  | _ => false
/-- The arguments of the parameters, or there are not ags many. -/
def shared (m : M) (ins : List HT) (cs : List Nat) : Except Int (List (List HT)) :=
  if !m.fn then .ok []
  else
    let n := if m.ps.length = 0 && ins.length = 2 then 0 else cs.length - 1
    if n < m.ps.length || (decide (m.ps.length < n) && !m.va) then .error 81
    else .ok (((List.range m.ps.length).map fun i => sl ins (cs.getD i 0 + 1) (cs.getD (i + 1) 0)) ++
      (if m.va then [if m.ps.length < n then sl ins (cs.getD m.ps.length 0 + 1) (ins.length - 1) else []] else []))

/-- Which macros were replaced, in their order; how many tokens were. -/
structure XS where
  pl : List Nat
  steps : Nat
def bareH (l : List HT) : List K := l.map (·.t)
/-- A string of an argument, where it is no long one. -/
def strOf (l : List HT) : Option K :=
  if (l.all fun x => decide (x.t.text.size ≤ 1000000)) && decide ((Gl.txt true false false (bareH l)).length ≤ 1000000) then some ⟨4, ⟨(34 :: (Gl.txt true false false (bareH l) ++ [34])).toArray⟩, 0, 0, 0, false⟩ else none
def argsOf (run : XS → List HT → R (XS × List HT)) (P : List Pc) : Nat → XS → List (List HT) → R (XS × List Arg)
  | _, X, [] => some (.ok (X, []))
  | i, X, raw :: r =>
    match (if uses 4 P i then run X raw else some (.ok (X, []))) with
    | none => none
    | some (.error e) => some (.error e)
    | some (.ok (X1, full)) =>
      match (if uses 2 P i then strOf raw else some zeroK) with
      | none => none
      | some q =>
        match argsOf run P (i + 1) X1 r with
        | none => none
        | some (.error e) => some (.error e)
        | some (.ok (X2, ags)) => some (.ok (X2, ⟨raw, full, q⟩ :: ags))
def ixOf (s : ByteArray) : List M → Nat → Option Nat
  | [], _ => none
  | m :: r, i => if m.name = s then some i else ixOf s r (i + 1)
def planIx (j : Nat) : List Nat → Nat → Option Nat
  | [], _ => none
  | a :: r, i => if a = j then some i else planIx j r (i + 1)
/-- The macro by which a token is replaced. -/
def macroOf (ms : List M) (X : XS) (x : HT) : Option Nat :=
  if x.t.kind = 1 then
    match ixOf x.t.text ms 0 with
    | none => none
    | some j => match planIx j X.pl 0 with | some q => if x.hd.testBit q then none else some j | none => some j
  else none
def stepOf (X : XS) (j : Nat) : Option (XS × Nat) :=
  if X.steps < 1000 then
    match planIx j X.pl 0 with
    | some q => some (⟨X.pl, X.steps + 1⟩, q)
    | none => if X.pl.length < 60 then some (⟨X.pl ++ [j], X.steps + 1⟩, X.pl.length) else none
  else none
/-- What is within an invocation's brackets, and they; the places of its signs; the names that are hidden; what is behind. -/
def takeInv (m : M) (x : HT) (st : List (List HT)) : R (List HT × List Nat × Nat × List (List HT)) :=
  if m.fn then
    if 1000000 < (flat st).length then none
    else match cuts (flat st) 0 0 [] with
    | none => some (.error 80)
    | some cs =>
      match takeS (cs.getLastD 0 + 1) st with
      | none => none
      | some (ins, st') => match ins.getLast? with | none => none | some z => some (.ok (ins, cs, x.hd &&& z.hd, st'))
  else some (.ok ([], [], x.hd, st))
def fit (x : HT) (come' : List HT) (h q : Nat) : List HT := come (hide come' (h ||| (1 <<< q))) x.t.bl
/-- What comes of a token, and what is behind it then. -/
def replace (run : XS → List HT → R (XS × List HT)) (_ms : List M) (X : XS) (j : Nat) (m : M) (x : HT) (st : List (List HT)) : R (XS × List HT × List (List HT)) :=
  match takeInv m x st with
  | none => none
  | some (.error e) => some (.error e)
  | some (.ok (ins, cs, h, st')) =>
    match stepOf X j with
    | none => none
    | some (X1, q) =>
      match shared m ins cs with
      | .error e => some (.error e)
      | .ok raws =>
        match argsOf run (pieces m) 0 X1 raws with
        | none => none
        | some (.error e) => some (.error e)
        | some (.ok (X2, ags)) =>
          match filled (pieces m) ags with
          | none => none
          | some (.error e) => some (.error e)
          | some (.ok l) => some (.ok (X2, fit x l h q, st'))
def put (l : List HT) (b : Bool) (st : List (List HT)) : List (List HT) × Bool := if l.isEmpty then (st, b) else (l :: st, false)
def next (st : List (List HT)) (b : Bool) : Option (HT × List (List HT)) :=
  match st with
  | (x :: r) :: st' => some (⟨blK x.t (x.t.bl || b), x.hd, x.mark⟩, drop1 1 ((x :: r) :: st'))
  | _ => none
def stays (x : HT) : R (XS × List HT) → R (XS × List HT)
  | some (.ok (X, l)) => some (.ok (X, x :: l))
  | o => o
def run (ms : List M) : Nat → Nat → XS → List (List HT) → Bool → R (XS × List HT)
  | 0, _, _, _, _ => none
  | n + 1, k, X, st, b =>
    match next st b with
    | none => some (.ok (X, []))
    | some (x, st') =>
      if 1000000 < x.t.text.size then none
      else
        match macroOf ms X x with
        | none => if k < 4000 then stays x (run ms n (k + 1) X st' false) else none
        | some j =>
          match ms[j]? with
          | none => none
          | some m =>
            if m.fn && !opens st' then (if k < 4000 then stays x (run ms n (k + 1) X st' false) else none)
            else
              match replace (fun X l => run ms n 0 X (put l false []).1 false) ms X j m x st' with
              | none => none
              | some (.error e) => some (.error e)
              | some (.ok (X', l, st'')) => run ms n k X' (put l x.t.bl st'').1 (put l x.t.bl st'').2
def expand (ms : List M) (n : Nat) (l : List K) : R (XS × List HT) := run ms n 0 ⟨[], 0⟩ (put (lined false l) false []).1 false
end Ep
end Go.Proofs.YtlepnafgcmeimaaGreatDoor

/- Tokens with hide sets in memory; what may turn. -/
namespace Go.Proofs.YtlepnafgcmeimaaGreatDoor
open Go.RowKit Go.Shelf
open Ep (HT)

/-! ### hide sets -/
/-- The cells of a hide set. -/
def nmCells (h : Nat) : Array Value := #[.int .u64 h, .int .u64 0, .int .u64 0, .int .u64 0, .int .u64 0, .int .u64 0, .int .u64 0, .int .u64 0, .int .u64 0, .int .u64 0, .int .u64 0, .int .u64 0, .int .u64 0, .int .u64 0, .int .u64 0, .int .u64 0]
/-- A pointer to a hide set, or none, which is the empty one. -/
def HidP (W : World) (p : Option Addr) (h : Nat) : Prop :=
  h < 18446744073709551616 ∧ ((p = none ∧ h = 0) ∨ ∃ b, p = some ⟨b, 0, none⟩ ∧ W.heap[b]? = some (.cells (nmCells h) 137 (0, 0)))
/-- Cells of that type stay. -/
def Kept (t : TypeId) (W W' : World) : Prop := ∀ (b : Nat) (cs : Array Value) (fz : Nat × Nat), W.heap[b]? = some (.cells cs t fz) → W'.heap[b]? = some (.cells cs t fz)
theorem Kept.of_below {W W' : World} (h : Below W.heap.size W W') (t : TypeId) : Kept t W W' := fun b _ _ hb => (h.block b (Array.getElem?_eq_some_iff.1 hb).1).trans hb
theorem HidP.keep {W W' : World} {p : Option Addr} {h : Nat} (hp : HidP W p h) (hk : Kept 137 W W') : HidP W' p h := by
  obtain ⟨h0, h1⟩ := hp
  refine ⟨h0, ?_⟩
  rcases h1 with h1 | ⟨b, e, hb⟩
  · exact .inl h1
  · exact .inr ⟨b, e, hk b _ _ hb⟩
theorem HidP.zero (W : World) : HidP W none 0 := ⟨by omega, .inl ⟨rfl, rfl⟩⟩

/-! ### tokens -/
/-- A token's value, its hide set at that pointer. -/
def htAgg (x : HT) (p : Option Addr) : Value := .agg #[.int .i64 x.t.kind, .string x.t.text, .int .i64 x.t.file, .int .i64 x.t.fr, .int .i64 x.t.en, .bool x.t.bl, .pointer p, .bool x.mark]
def htCells (x : HT) (p : Option Addr) : List Value := kCells x.t ++ [.pointer p, .bool x.mark]
theorem htCells_length (x : HT) (p : Option Addr) : (htCells x p).length = 8 := rfl
/-- The cells at a place are a token's. -/
def HAt (W : World) (g o : Nat) (x : HT) : Prop :=
  (∃ cs fz, W.heap[g]? = some (.cells cs 92 fz)) ∧ KAt W g o x.t ∧ ∃ p, W.cell? ⟨g, o + 6, none⟩ = some (.pointer p) ∧ W.cell? ⟨g, o + 7, none⟩ = some (.bool x.mark) ∧ HidP W p x.hd
theorem HAt.keep {W W' : World} {g o : Nat} {x : HT} (h : HAt W g o x) (h1 : Kept 92 W W') (h2 : Kept 137 W W') : HAt W' g o x := by
  obtain ⟨⟨cs, fz, hg⟩, hk, p, c6, c7, hp⟩ := h
  have hg' := h1 g cs fz hg
  have hb : W'.heap[g]? = W.heap[g]? := hg'.trans hg.symm
  exact ⟨⟨cs, fz, hg'⟩, hk.kept hb, p, (World.cell?_of_block (a := ⟨g, o + 6, none⟩) hb).trans c6, (World.cell?_of_block (a := ⟨g, o + 7, none⟩) hb).trans c7, hp.keep h2⟩
/-- A slice value whose elements are these tokens. -/
def Hs (W : World) (v : Value) (l : List HT) : Prop :=
  ∃ ad cap, v = .slice ad l.length cap ∧ l.length ≤ cap ∧ cap ≤ maxLen ∧ ∀ i x, l[i]? = some x → ∃ g o, ad = some ⟨g, o, none⟩ ∧ HAt W g (o + i * 8) x
theorem Hs.keep {W W' : World} {v : Value} {l : List HT} (h : Hs W v l) (h1 : Kept 92 W W') (h2 : Kept 137 W W') : Hs W' v l := by
  obtain ⟨ad, cap, rfl, a1, a2, a3⟩ := h
  refine ⟨ad, cap, rfl, a1, a2, fun i x hx => ?_⟩
  obtain ⟨g, o, e, c⟩ := a3 i x hx
  exact ⟨g, o, e, c.keep h1 h2⟩
theorem Hs.below {W W' : World} {v : Value} {l : List HT} (h : Hs W v l) (hb : Below W.heap.size W W') : Hs W' v l := h.keep (Kept.of_below hb _) (Kept.of_below hb _)
theorem Hs.nil (W : World) (ad : Option Addr) (cap : Nat) (hc : cap ≤ maxLen) : Hs W (.slice ad 0 cap) [] :=
  ⟨ad, cap, rfl, Nat.zero_le _, hc, fun i t ht => by simp at ht⟩
theorem Hs.cells {W : World} {ad : Option Addr} {n cap : Nat} {l : List HT} (h : Hs W (.slice ad n cap) l) (hl : 0 < l.length) :
    ∃ g o, ad = some ⟨g, o, none⟩ ∧ n = l.length ∧ l.length ≤ cap ∧ cap ≤ maxLen ∧ g < W.heap.size ∧ ∀ i x, l[i]? = some x → HAt W g (o + i * 8) x := by
  obtain ⟨ad', cap', e, h1, h2, h3⟩ := h
  injection e with e1 e2 e3
  subst e1 e2 e3
  obtain ⟨g, o, rfl, c0⟩ := h3 0 _ (List.getElem?_eq_getElem hl)
  refine ⟨g, o, rfl, rfl, h1, h2, lt_of_cell c0.2.1.1, fun i x hx => ?_⟩
  obtain ⟨g', o', e, d⟩ := h3 i x hx
  injection e with e
  injection e with e4 e5
  subst e4 e5
  exact d
theorem Hs.form {W : World} {v : Value} {l : List HT} (h : Hs W v l) : ∃ ad cap, v = .slice ad l.length cap ∧ l.length ≤ cap ∧ cap ≤ maxLen := by
  obtain ⟨ad, cap, rfl, h1, h2, _⟩ := h
  exact ⟨ad, cap, rfl, h1, h2⟩
/-- A slice of a slice, its address at any place that is right where something is left. -/
theorem Hs.part {W : World} {g o n cap : Nat} {l : List HT} (h : Hs W (.slice (some ⟨g, o, none⟩) n cap) l) (a b x : Nat) (hab : a ≤ b) (hb : b ≤ l.length) (hx : a < cap → x = a * 8) :
    Hs W (.slice (some ⟨g, o + x, none⟩) (b - a) (cap - a)) (Ep.sl l a b) := by
  obtain ⟨ad', cap', e, h1, h2, h3⟩ := h
  injection e with e1 e2 e3
  subst e1 e2 e3
  unfold Ep.sl
  have hl : ((l.drop a).take (b - a)).length = b - a := by rw [List.length_take, List.length_drop]; omega
  refine ⟨_, cap - a, by rw [hl], by rw [hl]; omega, by omega, fun i t ht => ?_⟩
  have hi : i < b - a := by have := (List.getElem?_eq_some_iff.1 ht).1; omega
  rw [List.getElem?_take, if_pos hi, List.getElem?_drop] at ht
  obtain ⟨g', o', e', ha⟩ := h3 _ t ht
  injection e' with e'
  injection e' with e4 e5
  subst e4 e5
  refine ⟨g, o + x, rfl, ?_⟩
  rw [hx (by omega), show o + a * 8 + i * 8 = o + (a + i) * 8 by omega]
  exact ha

/-! ### rows of tokens -/
/-- These cells are those of these tokens. -/
def HCs (W : World) : List HT → List Value → Prop
  | [], cs => cs = []
  | x :: l, cs => ∃ p r, cs = htCells x p ++ r ∧ HidP W p x.hd ∧ HCs W l r
theorem HCs.keep {W W' : World} (hk : Kept 137 W W') : ∀ {l : List HT} {cs : List Value}, HCs W l cs → HCs W' l cs
  | [], _, h => h
  | _ :: _, _, ⟨p, r, e, hp, h⟩ => ⟨p, r, e, hp.keep hk, HCs.keep hk h⟩
theorem HCs.length {W : World} : ∀ {l : List HT} {cs : List Value}, HCs W l cs → cs.length = l.length * 8
  | [], _, h => by rw [show _ = [] from h]; rfl
  | x :: l, _, ⟨p, r, e, _, h⟩ => by rw [e, List.length_append, htCells_length, HCs.length h, List.length_cons]; omega
theorem HCs.append {W : World} : ∀ {l : List HT} {cs : List Value} {m : List HT} {ds : List Value}, HCs W l cs → HCs W m ds → HCs W (l ++ m) (cs ++ ds)
  | [], _, _, _, h, k => by rw [show _ = [] from h]; exact k
  | x :: l, _, m, ds, ⟨p, r, e, hp, h⟩, k => ⟨p, r ++ ds, by rw [e, List.append_assoc], hp, HCs.append h k⟩
theorem HCs.one {W : World} {x : HT} {p : Option Addr} (hp : HidP W p x.hd) : HCs W [x] (htCells x p) := ⟨p, [], (List.append_nil _).symm, hp, rfl⟩
theorem HCs.snoc {W : World} {l : List HT} {cs : List Value} {x : HT} {p : Option Addr} (h : HCs W l cs) (hp : HidP W p x.hd) : HCs W (l ++ [x]) (cs ++ htCells x p) := h.append (HCs.one hp)
theorem HCs.get {W : World} : ∀ {l : List HT} {cs : List Value}, HCs W l cs → ∀ (i : Nat) (x : HT), l[i]? = some x → ∃ p, HidP W p x.hd ∧ ∀ (j : Nat) (v : Value), (htCells x p)[j]? = some v → cs[i * 8 + j]? = some v
  | [], _, _, i, x, hx => by simp at hx
  | y :: l, cs, ⟨p, r, e, hp, h⟩, i, x, hx => by
    subst e
    have h8 := htCells_length y p
    cases i with
    | zero =>
      simp at hx; subst hx
      refine ⟨p, hp, fun j v hj => ?_⟩
      have hlt := (List.getElem?_eq_some_iff.1 hj).1
      rw [List.getElem?_append_left (by omega), Nat.zero_mul, Nat.zero_add]
      exact hj
    | succ i =>
      simp at hx
      obtain ⟨q, hq, hc⟩ := HCs.get h i x hx
      refine ⟨q, hq, fun j v hj => ?_⟩
      rw [List.getElem?_append_right (by omega), h8, show (i + 1) * 8 + j - 8 = i * 8 + j by omega]
      exact hc j v hj
theorem HCs.dropLast {W : World} : ∀ {l : List HT} {cs : List Value}, HCs W l cs → HCs W l.dropLast (cs.take (l.dropLast.length * 8))
  | [], _, h => by rw [show _ = [] from h]; rfl
  | [x], _, ⟨p, r, e, hp, h⟩ => by
    show HCs W [] (List.take (0 * 8) _)
    rw [Nat.zero_mul, List.take_zero]
    rfl
  | x :: y :: l, _, ⟨p, r, e, hp, h⟩ => by
    subst e
    refine ⟨p, r.take ((y :: l).dropLast.length * 8), ?_, hp, HCs.dropLast h⟩
    rw [show (x :: y :: l).dropLast = x :: (y :: l).dropLast from rfl, List.length_cons, Nat.add_mul, Nat.one_mul, List.take_append, htCells_length, List.take_of_length_le (by rw [htCells_length]; omega), Nat.add_sub_cancel]

/-- A row of one's own of tokens. -/
def HRow (W : World) (B : Nat) (v : Value) (l : List HT) : Prop := ∃ cs, W.ownsRow B 92 8 v l.length cs ∧ HCs W l cs
theorem HRow.nil (W : World) (B : Nat) : HRow W B (.slice none 0 0) [] := ⟨[], World.ownsRow_nil _ _ _ _, rfl⟩
theorem HRow.below {W W' : World} {B : Nat} {v : Value} {l : List HT} (h : HRow W B v l) (hb : Below W.heap.size W W') : HRow W' B v l := by
  obtain ⟨cs, h1, h2⟩ := h
  exact ⟨cs, row_below h1 hb, h2.keep (Kept.of_below hb _)⟩
theorem HRow.hs {W : World} {B : Nat} {v : Value} {l : List HT} (h : HRow W B v l) : Hs W v l := by
  obtain ⟨cs, h, hcs⟩ := h
  have hc := fun g => h.cells (g := g)
  rcases h.2 with ⟨rfl, h0⟩ | ⟨g, cap, cur, rfl, _, hblk, h1, h2, _, _⟩
  · refine ⟨none, 0, by rw [h0], by omega, Nat.zero_le _, fun i x hx => ?_⟩
    rw [List.length_eq_zero_iff.1 h0] at hx
    simp at hx
  · refine ⟨_, cap, rfl, h1, h2, fun i t ht => ⟨g, 0, rfl, ?_⟩⟩
    obtain ⟨p, hp, hget⟩ := hcs.get i t ht
    have key : ∀ j v, (htCells t p)[j]? = some v → W.cell? ⟨g, 0 + (i * 8 + j), none⟩ = some v := fun j v hj => by
      have := hc g rfl (i * 8 + j) v (hget j v hj)
      rwa [add_none] at this
    refine ⟨⟨_, _, hblk⟩, ⟨key 0 _ rfl, ?_, ?_, ?_, ?_, ?_⟩, p, ?_, ?_, hp⟩
    · exact key 1 _ rfl
    · exact key 2 _ rfl
    · exact key 3 _ rfl
    · exact key 4 _ rfl
    · exact key 5 _ rfl
    · exact key 6 _ rfl
    · exact key 7 _ rfl
theorem infoHt : (Tryz.prog.info? 92).map (fun i => (i.zero, i.size, i.bytes)) = some (some (.agg #[.int .i64 0, .string ByteArray.empty, .int .i64 0, .int .i64 0, .int .i64 0, .bool false, .pointer none, .bool false]), 8, 72) := by kernel_rfl

/-! ### what may turn -/
/-- What stays: all but the expansion's and the macros' own blocks, where they may turn, and a rest's from n on. -/
def okO (x : Bool) (n b : Nat) : Obj → Prop
  | .cells _ t _ => (x = true → t ≠ 81 ∧ t ≠ 85) ∧ ((t ≠ 88 ∧ t ≠ 54) ∨ b < n)
  | _ => True
structure Fr (x : Bool) (N n : Nat) (w w' : World) : Prop where
  os : w'.os = w.os
  tape : w'.tape = w.tape
  output : w'.output = w.output
  size : w.heap.size ≤ w'.heap.size
  block : ∀ b o, w.heap[b]? = some o → (b < N ∨ okO x n b o) → w'.heap[b]? = some o
section
variable {x : Bool} {N n m : Nat} {w w1 w' : World}
theorem Fr.refl (x : Bool) (N n : Nat) (w : World) : Fr x N n w w := ⟨rfl, rfl, rfl, Nat.le_refl _, fun _ _ h _ => h⟩
theorem Fr.trans (h : Fr x N n w w1) (k : Fr x N n w1 w') : Fr x N n w w' :=
  ⟨k.os.trans h.os, k.tape.trans h.tape, k.output.trans h.output, Nat.le_trans h.size k.size, fun b o hb ho => k.block b o (h.block b o hb ho) ho⟩
theorem Fr.of_below (h : Below w.heap.size w w') : Fr x N n w w' :=
  ⟨h.os, h.tape, h.output, h.size, fun b _ hb _ => (h.block b (Array.getElem?_eq_some_iff.1 hb).1).trans hb⟩
theorem Fr.le (h : Fr x N n w w') (hm : m ≤ n) : Fr x N m w w' := ⟨h.os, h.tape, h.output, h.size, fun b o hb ho => h.block b o hb (by
  rcases ho with ho | ho
  · exact .inl ho
  · right
    cases o with
    | cells cs t fz =>
      refine ⟨ho.1, ?_⟩
      rcases ho.2 with h | h
      · exact .inl h
      · exact .inr (by omega)
    | _ => trivial)⟩
theorem Fr.any (h : Fr false N n w w') : Fr x N n w w' := ⟨h.os, h.tape, h.output, h.size, fun b o hb ho => h.block b o hb (by
  rcases ho with ho | ho
  · exact .inl ho
  · right
    cases o with
    | cells cs t fz => exact ⟨fun e => (by cases e), ho.2⟩
    | _ => trivial)⟩
theorem Fr.below (h : Fr x N n w w') (hN : N ≤ w.heap.size) : Below N w w' :=
  ⟨h.os, h.tape, h.output, h.size, fun b hb => by
    have hlt : b < w.heap.size := by omega
    rw [h.block b _ (Array.getElem?_eq_getElem hlt) (.inl hb), Array.getElem?_eq_getElem hlt]⟩
theorem Fr.kept (h : Fr x N n w w') {t : TypeId} (h1 : t ≠ 81) (h2 : t ≠ 85) (h3 : t ≠ 88) (h4 : t ≠ 54) : Kept t w w' :=
  fun b _ _ hb => h.block b _ hb (.inr ⟨fun _ => ⟨h1, h2⟩, .inl ⟨h3, h4⟩⟩)
theorem Fr.ht (h : Fr x N n w w') : Kept 92 w w' := h.kept (by decide) (by decide) (by decide) (by decide)
theorem Fr.nm (h : Fr x N n w w') : Kept 137 w w' := h.kept (by decide) (by decide) (by decide) (by decide)
theorem Fr.hs (h : Fr x N n w w') {v : Value} {l : List HT} (hv : Hs w v l) : Hs w' v l := hv.keep h.ht h.nm
theorem Fr.hid (h : Fr x N n w w') {p : Option Addr} {q : Nat} (hp : HidP w p q) : HidP w' p q := hp.keep h.nm
end
end Go.Proofs.YtlepnafgcmeimaaGreatDoor

/- What is proved: hide sets: has, with, either, both. -/
namespace Go.Proofs.YtlepnafgcmeimaaGreatDoor
open Go.RowKit Go.Shelf

theorem u64_wrap (n : Nat) (h : n < 18446744073709551616) : IntKind.u64.wrap (n : Int) = n := by
  show ((n : Int) % 18446744073709551616) = n
  omega
theorem u64_nat (a : Nat) (ha : a < 18446744073709551616) : (BitVec.ofInt 64 (a : Int)).toNat = a := by
  rw [BitVec.ofInt_natCast, BitVec.toNat_ofNat]
  exact Nat.mod_eq_of_lt (by omega)
theorem or64_lt {a b : Nat} (ha : a < 18446744073709551616) (hb : b < 18446744073709551616) : a ||| b < 18446744073709551616 := Nat.or_lt_two_pow (n := 64) (by omega) (by omega)
theorem and64_lt {a b : Nat} (hb : b < 18446744073709551616) : a &&& b < 18446744073709551616 := Nat.and_lt_two_pow (n := 64) a (by omega)
theorem or64 (a b : Nat) (ha : a < 18446744073709551616) (hb : b < 18446744073709551616) : Go.bits .or .u64 (a : Int) (b : Int) = ((a ||| b : Nat) : Int) := by
  show IntKind.u64.wrap ((BitVec.ofInt 64 (a : Int) ||| BitVec.ofInt 64 (b : Int)).toNat : Int) = _
  rw [BitVec.toNat_or, u64_nat a ha, u64_nat b hb]
  exact u64_wrap _ (or64_lt ha hb)
theorem and64 (a b : Nat) (ha : a < 18446744073709551616) (hb : b < 18446744073709551616) : Go.bits .and .u64 (a : Int) (b : Int) = ((a &&& b : Nat) : Int) := by
  show IntKind.u64.wrap ((BitVec.ofInt 64 (a : Int) &&& BitVec.ofInt 64 (b : Int)).toNat : Int) = _
  rw [BitVec.toNat_and, u64_nat a ha, u64_nat b hb]
  exact u64_wrap _ (and64_lt hb)
theorem pow64 (i : Nat) (hi : i < 60) : (1 <<< i : Nat) < 18446744073709551616 ∧ IntKind.u64.wrap ((2 : Int) ^ i) = ((1 <<< i : Nat) : Int) := by
  have h1 : (1 <<< i : Nat) = 2 ^ i := Nat.one_shiftLeft i
  have h2 : 2 ^ i < 2 ^ 60 := Nat.pow_lt_pow_right (by omega) hi
  rw [h1]
  refine ⟨by omega, ?_⟩
  have := u64_wrap (2 ^ i) (by omega)
  rwa [show ((2 ^ i : Nat) : Int) = (2 : Int) ^ i by push_cast; rfl] at this
theorem bit64 (h i : Nat) (hh : h < 18446744073709551616) : (Go.bits .and .u64 ((h : Int) / 2 ^ i) 1 == 1) = h.testBit i := by
  have e0 : ((h : Int) / 2 ^ i) = ((h / 2 ^ i : Nat) : Int) := by simp
  have hlt : h / 2 ^ i < 18446744073709551616 := Nat.lt_of_le_of_lt (Nat.div_le_self _ _) hh
  have e1 := and64 (h / 2 ^ i) 1 hlt (by omega)
  rw [show ((1 : Nat) : Int) = 1 from rfl] at e1
  rw [e0, e1, Nat.and_one_is_mod, Nat.testBit_eq_decide_div_mod_eq]
  generalize h / 2 ^ i % 2 = q
  by_cases hq : q = 1
  · subst hq; rfl
  · rw [beq_eq_false_iff_ne.2 (by omega)]
    simp [hq]
theorem nm_cells {w : World} {b h : Nat} (hb : w.heap[b]? = some (.cells (nmCells h) 137 (0, 0))) :
    w.cell? ⟨b, 0, none⟩ = some (.int .u64 h) ∧ w.cell? ⟨b, 1, none⟩ = some (.int .u64 0) ∧ w.cell? ⟨b, 2, none⟩ = some (.int .u64 0) ∧ w.cell? ⟨b, 3, none⟩ = some (.int .u64 0) ∧
    w.cell? ⟨b, 4, none⟩ = some (.int .u64 0) ∧ w.cell? ⟨b, 5, none⟩ = some (.int .u64 0) ∧ w.cell? ⟨b, 6, none⟩ = some (.int .u64 0) ∧ w.cell? ⟨b, 7, none⟩ = some (.int .u64 0) ∧
    w.cell? ⟨b, 8, none⟩ = some (.int .u64 0) ∧ w.cell? ⟨b, 9, none⟩ = some (.int .u64 0) ∧ w.cell? ⟨b, 10, none⟩ = some (.int .u64 0) ∧ w.cell? ⟨b, 11, none⟩ = some (.int .u64 0) ∧
    w.cell? ⟨b, 12, none⟩ = some (.int .u64 0) ∧ w.cell? ⟨b, 13, none⟩ = some (.int .u64 0) ∧ w.cell? ⟨b, 14, none⟩ = some (.int .u64 0) ∧ w.cell? ⟨b, 15, none⟩ = some (.int .u64 0) :=
  ⟨(Lib.cell_of_heap hb 0).trans rfl, (Lib.cell_of_heap hb 1).trans rfl, (Lib.cell_of_heap hb 2).trans rfl, (Lib.cell_of_heap hb 3).trans rfl, (Lib.cell_of_heap hb 4).trans rfl, (Lib.cell_of_heap hb 5).trans rfl, (Lib.cell_of_heap hb 6).trans rfl, (Lib.cell_of_heap hb 7).trans rfl, (Lib.cell_of_heap hb 8).trans rfl, (Lib.cell_of_heap hb 9).trans rfl, (Lib.cell_of_heap hb 10).trans rfl, (Lib.cell_of_heap hb 11).trans rfl, (Lib.cell_of_heap hb 12).trans rfl, (Lib.cell_of_heap hb 13).trans rfl, (Lib.cell_of_heap hb 14).trans rfl, (Lib.cell_of_heap hb 15).trans rfl⟩
/-- The cell at a place: the set's word, or 0. -/
theorem nm_at {w : World} {b h k : Nat} (hb : w.heap[b]? = some (.cells (nmCells h) 137 (0, 0))) (hk : k < 16) : w.cell? ⟨b, k, none⟩ = some (.int .u64 ((if k = 0 then h else 0 : Nat) : Int)) := by
  rw [Lib.cell_of_heap hb k]
  rcases (by omega : k = 0 ∨ k = 1 ∨ k = 2 ∨ k = 3 ∨ k = 4 ∨ k = 5 ∨ k = 6 ∨ k = 7 ∨ k = 8 ∨ k = 9 ∨ k = 10 ∨ k = 11 ∨ k = 12 ∨ k = 13 ∨ k = 14 ∨ k = 15) with rfl | rfl | rfl | rfl | rfl | rfl | rfl | rfl | rfl | rfl | rfl | rfl | rfl | rfl | rfl | rfl <;> rfl
theorem nm_set {w : World} {b h k h' : Nat} (hb : w.heap[b]? = some (.cells (nmCells h) 137 (0, 0))) (hk : k < 16) :
    (w.setCell ⟨b, k, none⟩ (.int .u64 ((if k = 0 then h' else 0 : Nat) : Int))).heap[b]? = some (.cells (nmCells (if k = 0 then h' else h)) 137 (0, 0)) := by
  rw [heap_setCell_same w b k (nmCells h) 137 _ hb]
  rcases (by omega : k = 0 ∨ k = 1 ∨ k = 2 ∨ k = 3 ∨ k = 4 ∨ k = 5 ∨ k = 6 ∨ k = 7 ∨ k = 8 ∨ k = 9 ∨ k = 10 ∨ k = 11 ∨ k = 12 ∨ k = 13 ∨ k = 14 ∨ k = 15) with rfl | rfl | rfl | rfl | rfl | rfl | rfl | rfl | rfl | rfl | rfl | rfl | rfl | rfl | rfl | rfl <;> rfl

set_option maxRecDepth 100000 in
set_option maxHeartbeats 4000000 in
theorem ehas_any (p : Option Addr) (h i : Nat) (w : World) (hp : HidP w p h) (hi : i < 60) :
    Calls Tryz.prog 56 #[.pointer p, .int .i64 i] w fun e w' => e = .returned (.bool (h.testBit i)) ∧ w' = w := by
  obtain ⟨hh, ⟨rfl, rfl⟩ | ⟨b, rfl, hb⟩⟩ := hp
  · go_enter Tryz.func56, Tryz.ntmps56
    go_wp2_with fail
    go_ret
    simp
  · have c0 : w.cell? ⟨b, 0, none⟩ = some (.int .u64 h) := (Lib.cell_of_heap hb 0).trans rfl
    have q1 := Lib.hid (bit64 h i hh)
    have q2 : (i : Int).tdiv 64 = 0 := by rw [Int.tdiv_eq_ediv_of_nonneg (by omega)]; omega
    have q3 : (i : Int).tmod 64 = i := by rw [Int.tmod_eq_emod_of_nonneg (by omega)]; omega
    have q4 : (i : Int) / 64 = 0 := by omega
    have q5 : (i : Int) % 64 = i := by omega
    clear hb
    go_enter Tryz.func56, Tryz.ntmps56
    go_wp2_with fail
    go_ret
    rw [← q1.out]
    exact ⟨rfl, rfl⟩

noncomputable def ewithBody : Code := Tryz.f66.body.getD .skip
set_option maxRecDepth 100000 in
set_option maxHeartbeats 4000000 in
theorem ewith_end (W : World) (B h i : Nat) (c0 c2 c3 c4 c6 c7 c8 c9 c10 c11 c12 c13 c14 c15 c16 c17 c18 c19 c20 : Value) (hB : W.heap[B]? = some (.cells (nmCells h) 137 (0, 0))) (hi : i < 60) (Post : Ending → World → Prop)
    (hpost : Post (.returned (.pointer (some ⟨B, 0, none⟩))) (W.setCell ⟨B, 0, none⟩ (.int .u64 (Go.bits .or .u64 h (IntKind.u64.wrap (2 ^ i))))).drew) :
    Code.wp Tryz.prog (secs 3 ewithBody) (bodyPost Tryz.prog Tryz.f66 Post) ⟨#[c0, .int .i64 i, c2, c3, c4, .pointer (some ⟨B, 0, none⟩), c6, c7, c8, c9, c10, c11, c12, c13, c14, c15, c16, c17, c18, c19, c20], []⟩ W := by
  have c0 : W.cell? ⟨B, 0, none⟩ = some (.int .u64 h) := (Lib.cell_of_heap hB 0).trans rfl
  have f0 : W.frozen? ⟨B, 0, none⟩ = false := by simp [World.frozen?, hB]
  have q1 : i / 64 = 0 := by omega
  have q2 : (i : Int) / 64 = 0 := by omega
  have q3 : (i : Int) % 64 = i := by omega
  have q4 : (i : Int).tdiv 64 = 0 := by rw [Int.tdiv_eq_ediv_of_nonneg (by omega)]; omega
  have q5 : (i : Int).tmod 64 = i := by rw [Int.tmod_eq_emod_of_nonneg (by omega)]; omega
  have HP := Lib.hid hpost
  clear hB hpost
  refine wp_sec 3 ewithBody rfl ?_
  conv => arg 2; whnf
  go_wp2_with fail
  go_region
  go_wp2_with fail
  refine wp_sec 4 ewithBody rfl ?_
  conv => arg 2; whnf
  go_wp2_with fail
  conv => arg 2; whnf
  go_wp2_with fail
  exact HP.out
def WithPost (w : World) (h : Nat) (e : Ending) (w' : World) : Prop := (∃ q, e = .returned (.pointer (some q)) ∧ HidP w' (some q) h) ∧ Below w.heap.size w w'
theorem ewith_post {w W : World} {B h i : Nat} (hB : W.heap[B]? = some (.cells (nmCells h) 137 (0, 0))) (hi : i < 60) (hh : h < 18446744073709551616) (hw : Below w.heap.size w W) (hlt : w.heap.size ≤ B) :
    WithPost w (h ||| (1 <<< i)) (.returned (.pointer (some ⟨B, 0, none⟩))) (W.setCell ⟨B, 0, none⟩ (.int .u64 (Go.bits .or .u64 h (IntKind.u64.wrap (2 ^ i))))).drew := by
  obtain ⟨p1, p2⟩ := pow64 i hi
  rw [p2, or64 _ _ hh p1]
  refine ⟨⟨_, rfl, or64_lt hh p1, .inr ⟨B, rfl, ?_⟩⟩, (hw.setCell hlt _).drew⟩
  exact nm_set (k := 0) (h' := h ||| (1 <<< i)) hB (by omega)
set_option maxRecDepth 100000 in
set_option maxHeartbeats 4000000 in
theorem ewith_any (p : Option Addr) (h i : Nat) (w : World) (hp : HidP w p h) (hi : i < 60) :
    Calls Tryz.prog 66 #[.pointer p, .int .i64 i] w (WithPost w (h ||| (1 <<< i))) := by
  have HE := fun (W : World) (hB : W.heap[w.heap.size]? = some (.cells (nmCells h) 137 (0, 0))) (hw : Below w.heap.size w W) =>
    ewith_post hB hi hp.1 hw (Nat.le_refl _)
  obtain ⟨hh, ⟨rfl, rfl⟩ | ⟨b, rfl, hb⟩⟩ := hp
  · have hB0 := heap_alloc_new w (.cells (nmCells 0) 137)
    have hw0 : Below w.heap.size w (w.alloc (.cells (nmCells 0) 137)) := (Below.refl _ w).alloc (Nat.le_refl _) _
    have HE0 := Lib.hid (HE _ hB0 hw0)
    have HB0 := Lib.hid hB0
    clear HE hB0 hw0
    go_enter Tryz.func66, Tryz.ntmps66
    show Code.wp Tryz.prog (secs 0 ewithBody) _ _ _
    refine wp_sec 0 ewithBody rfl ?_
    conv => arg 2; whnf
    go_wp2_with fail
    refine wp_sec 1 ewithBody rfl ?_
    conv => arg 2; whnf
    go_wp2_with fail
    refine wp_sec 2 ewithBody rfl ?_
    conv => arg 2; whnf
    go_wp2_with fail
    exact ewith_end _ w.heap.size 0 i _ _ _ _ _ _ _ _ _ _ _ _ _ _ _ _ _ _ _ HB0.out hi _ HE0.out
  · have hbW := lt_of_heap hb
    have hB0 := heap_alloc_new w (.cells (nmCells h) 137)
    have hw0 : Below w.heap.size w (w.alloc (.cells (nmCells h) 137)) := (Below.refl _ w).alloc (Nat.le_refl _) _
    have HE0 := Lib.hid (HE _ hB0 hw0)
    have HB0 := Lib.hid hB0
    obtain ⟨c0, c1, c2, c3, c4, c5, c6, c7, c8, c9, c10, c11, c12, c13, c14, c15⟩ := nm_cells hb
    clear HE hB0 hw0 hb
    go_enter Tryz.func66, Tryz.ntmps66
    show Code.wp Tryz.prog (secs 0 ewithBody) _ _ _
    refine wp_sec 0 ewithBody rfl ?_
    conv => arg 2; whnf
    go_wp2_with fail
    refine wp_sec 1 ewithBody rfl ?_
    conv => arg 2; whnf
    go_wp2_with fail
    refine wp_sec 2 ewithBody rfl ?_
    conv => arg 2; whnf
    go_wp2_with fail
    exact ewith_end _ w.heap.size h i _ _ _ _ _ _ _ _ _ _ _ _ _ _ _ _ _ _ _ HB0.out hi _ HE0.out
end Go.Proofs.YtlepnafgcmeimaaGreatDoor

/- What is proved: hide sets: either, both. -/
namespace Go.Proofs.YtlepnafgcmeimaaGreatDoor
open Go.RowKit Go.Shelf

set_option maxRecDepth 100000 in
set_option maxHeartbeats 4000000 in
theorem eor_some (g : Nat) (a : Addr) (v : Value) (w : World) (h0 : w.cell? ⟨g, 0, none⟩ = some (.pointer (some a))) (h1 : w.cell? ⟨g, 1, none⟩ = some v) :
    Calls Tryz.prog 99 #[.slice (some ⟨g, 0, none⟩) 2 2] w fun e w' => e = .returned (.pointer (some a)) ∧ w' = w := by
  go_enter Tryz.func99, Tryz.ntmps99
  go_wp2_with fail
  go_loopw [8] (fun i wr => i = .int .i64 0 ∧ wr = w) (fun _ _ => 0)
  case atStart => exact ⟨rfl, rfl⟩
  case round =>
    obtain ⟨rfl, rfl⟩ := hrel
    go_wp2_with fail
    go_ret
    exact ⟨rfl, rfl⟩
set_option maxRecDepth 100000 in
set_option maxHeartbeats 4000000 in
theorem eor_none (g : Nat) (p : Option Addr) (w : World) (h0 : w.cell? ⟨g, 0, none⟩ = some (.pointer none)) (h1 : w.cell? ⟨g, 1, none⟩ = some (.pointer p)) :
    Calls Tryz.prog 99 #[.slice (some ⟨g, 0, none⟩) 2 2] w fun e w' => e = .returned (.pointer p) ∧ w' = w := by
  go_enter Tryz.func99, Tryz.ntmps99
  go_wp2_with fail
  go_loopw [8] (fun i wr => (i = .int .i64 0 ∨ i = .int .i64 1 ∨ (i = .int .i64 2 ∧ p = none)) ∧ wr = w) (fun i _ => 2 - (intOf i).toNat)
  case atStart => exact ⟨.inl rfl, rfl⟩
  case round =>
    obtain ⟨rfl | rfl | ⟨rfl, rfl⟩, rfl⟩ := hrel
    · go_wp2_with fail
      go_roundw
      case rel => simp
      case measure => simp [intOf]
    · cases p with
      | none =>
        go_wp2_with fail
        go_roundw
        case rel => simp
        case measure => simp [intOf]
      | some a =>
        go_wp2_with fail
        go_ret
        exact ⟨rfl, rfl⟩
    · go_wp2_with fail
      go_ret
      exact ⟨rfl, rfl⟩

noncomputable def eeitherBody : Code := Tryz.f82.body.getD .skip
theorem or_step {w : World} {B h h' k : Nat} (hB : w.heap[B]? = some (.cells (nmCells (if k = 0 then h else h ||| h')) 137 (0, 0))) (hk : k < 16) (hh : h < 18446744073709551616) (hh' : h' < 18446744073709551616) :
    (w.setCell ⟨B, k, none⟩ (.int .u64 (Go.bits .or .u64 ((if k = 0 then h else 0 : Nat) : Int) ((if k = 0 then h' else 0 : Nat) : Int)))).heap[B]? = some (.cells (nmCells (h ||| h')) 137 (0, 0)) := by
  have e : Go.bits .or .u64 ((if k = 0 then h else 0 : Nat) : Int) ((if k = 0 then h' else 0 : Nat) : Int) = ((if k = 0 then h ||| h' else 0 : Nat) : Int) := by
    by_cases hz : k = 0
    · rw [if_pos hz, if_pos hz, if_pos hz]; exact or64 _ _ hh hh'
    · rw [if_neg hz, if_neg hz, if_neg hz]; rfl
  rw [e, nm_set hB hk]
  by_cases hz : k = 0
  · rw [if_pos hz]
  · rw [if_neg hz, if_neg hz]
set_option maxRecDepth 100000 in
set_option maxHeartbeats 4000000 in
theorem eeither_end (W : World) (B b h h' n : Nat) (c0 c2 c3 c4 c6 c7 c8 c9 c10 c11 c12 c13 c14 c15 c16 c17 c18 c19 c20 c21 c22 c23 c24 c25 c26 c27 c28 c29 c30 c31 c32 c33 : Value) (hB : W.heap[B]? = some (.cells (nmCells h) 137 (0, 0))) (hb : W.heap[b]? = some (.cells (nmCells h') 137 (0, 0)))
    (hn : b < n) (hBn : n ≤ B) (hh : h < 18446744073709551616) (hh' : h' < 18446744073709551616) (Post : Ending → World → Prop)
    (hpost : ∀ w', w'.heap[B]? = some (.cells (nmCells (h ||| h')) 137 (0, 0)) → Below n W w' → Post (.returned (.pointer (some ⟨B, 0, none⟩))) w') :
    Code.wp Tryz.prog (secs 3 eeitherBody) (bodyPost Tryz.prog Tryz.f82 Post) ⟨#[c0, .pointer (some ⟨b, 0, none⟩), c2, c3, c4, .pointer (some ⟨B, 0, none⟩), c6, c7, c8, c9, c10, c11, c12, c13, c14, c15, c16, c17, c18, c19, c20, c21, c22, c23, c24, c25, c26, c27, c28, c29, c30, c31, c32, c33], []⟩ W := by
  have HP := Lib.hid hpost
  have HB := Lib.hid hB
  have Hb := Lib.hid hb
  have Hh := Lib.hid hh
  have Hh' := Lib.hid hh'
  clear hpost hB hb hh hh'
  refine wp_sec 3 eeitherBody rfl ?_
  conv => arg 2; whnf
  go_wp2_with fail
  go_loopw [20] (fun i wr => ∃ k : Nat, i = .int .i64 k ∧ k ≤ 16 ∧ wr.heap[B]? = some (.cells (nmCells (if k = 0 then h else h ||| h')) 137 (0, 0)) ∧ Below n W wr) (fun i _ => 16 - (intOf i).toNat)
  case atStart => exact ⟨0, rfl, by omega, HB.out, Below.refl _ _⟩
  case round =>
    obtain ⟨k, rfl, hk, hBr, hw⟩ := hrel
    by_cases hlt : k < 16
    · have hbr := (hw.block b hn).trans Hb.out
      have c1 := nm_at hBr hlt
      have c2 := nm_at hbr hlt
      have f1 : wr.frozen? ⟨B, k, none⟩ = false := by simp [World.frozen?, hBr]
      have e1 : (if k = 0 then (if k = 0 then h else h ||| h') else 0 : Nat) = (if k = 0 then h else 0 : Nat) := by by_cases hz : k = 0 <;> simp [hz]
      rw [e1] at c1
      have hst := Lib.hid (or_step hBr hlt Hh.out Hh'.out)
      obtain ⟨x, hx⟩ : ∃ x : Nat, x = (if k = 0 then h else 0) := ⟨_, rfl⟩
      obtain ⟨y, hy⟩ : ∃ y : Nat, y = (if k = 0 then h' else 0) := ⟨_, rfl⟩
      rw [← hx] at c1 hst
      rw [← hy] at c2 hst
      have z1 : (0 : Int) ≤ k := by omega
      have z2 : (k : Int) < 16 := by omega
      have HW := Lib.hid hw
      clear hx hy hBr hbr e1 hw
      go_wp2_with fail
      go_region
      go_wp2_with fail
      go_roundw
      case rel =>
        refine ⟨k + 1, by go_num, by omega, ?_, ?_⟩
        · rw [if_neg (by omega)]
          exact hst.out
        · exact (HW.out.setCell hBn _).drew
      case measure => simp [intOf]; omega
    · obtain rfl : k = 16 := by omega
      have HBr := Lib.hid hBr
      have HW := Lib.hid hw
      clear hBr hw
      go_wp2_with fail
      refine wp_sec 4 eeitherBody rfl ?_
      conv => arg 2; whnf
      go_wp2_with fail
      conv => arg 2; whnf
      go_wp2_with fail
      exact HP.out _ HBr.out HW.out

noncomputable def ebothBody : Code := Tryz.f61.body.getD .skip
theorem and_step {w : World} {B h h' k : Nat} (hB : w.heap[B]? = some (.cells (nmCells (if k = 0 then h else h &&& h')) 137 (0, 0))) (hk : k < 16) (hh : h < 18446744073709551616) (hh' : h' < 18446744073709551616) :
    (w.setCell ⟨B, k, none⟩ (.int .u64 (Go.bits .and .u64 ((if k = 0 then h else 0 : Nat) : Int) ((if k = 0 then h' else 0 : Nat) : Int)))).heap[B]? = some (.cells (nmCells (h &&& h')) 137 (0, 0)) := by
  have e : Go.bits .and .u64 ((if k = 0 then h else 0 : Nat) : Int) ((if k = 0 then h' else 0 : Nat) : Int) = ((if k = 0 then h &&& h' else 0 : Nat) : Int) := by
    by_cases hz : k = 0
    · rw [if_pos hz, if_pos hz, if_pos hz]; exact and64 _ _ hh hh'
    · rw [if_neg hz, if_neg hz, if_neg hz]; rfl
  rw [e, nm_set hB hk]
  by_cases hz : k = 0
  · rw [if_pos hz]
  · rw [if_neg hz, if_neg hz]
set_option maxRecDepth 100000 in
set_option maxHeartbeats 4000000 in
theorem eboth_end (W : World) (B b h h' n : Nat) (c0 c2 c3 c4 c6 c7 c8 c9 c10 c11 c12 c13 c14 c15 c16 c17 c18 c19 c20 c21 c22 c23 c24 c25 c26 c27 c28 c29 : Value) (hB : W.heap[B]? = some (.cells (nmCells h) 137 (0, 0))) (hb : W.heap[b]? = some (.cells (nmCells h') 137 (0, 0)))
    (hn : b < n) (hBn : n ≤ B) (hh : h < 18446744073709551616) (hh' : h' < 18446744073709551616) (Post : Ending → World → Prop)
    (hpost : ∀ w', w'.heap[B]? = some (.cells (nmCells (h &&& h')) 137 (0, 0)) → Below n W w' → Post (.returned (.pointer (some ⟨B, 0, none⟩))) w') :
    Code.wp Tryz.prog (secs 3 ebothBody) (bodyPost Tryz.prog Tryz.f61 Post) ⟨#[c0, .pointer (some ⟨b, 0, none⟩), c2, c3, c4, .pointer (some ⟨B, 0, none⟩), c6, c7, c8, c9, c10, c11, c12, c13, c14, c15, c16, c17, c18, c19, c20, c21, c22, c23, c24, c25, c26, c27, c28, c29], []⟩ W := by
  have HP := Lib.hid hpost
  have HB := Lib.hid hB
  have Hb := Lib.hid hb
  have Hh := Lib.hid hh
  have Hh' := Lib.hid hh'
  clear hpost hB hb hh hh'
  refine wp_sec 3 ebothBody rfl ?_
  conv => arg 2; whnf
  go_wp2_with fail
  go_loopw [16] (fun i wr => ∃ k : Nat, i = .int .i64 k ∧ k ≤ 16 ∧ wr.heap[B]? = some (.cells (nmCells (if k = 0 then h else h &&& h')) 137 (0, 0)) ∧ Below n W wr) (fun i _ => 16 - (intOf i).toNat)
  case atStart => exact ⟨0, rfl, by omega, HB.out, Below.refl _ _⟩
  case round =>
    obtain ⟨k, rfl, hk, hBr, hw⟩ := hrel
    by_cases hlt : k < 16
    · have hbr := (hw.block b hn).trans Hb.out
      have c1 := nm_at hBr hlt
      have c2 := nm_at hbr hlt
      have f1 : wr.frozen? ⟨B, k, none⟩ = false := by simp [World.frozen?, hBr]
      have e1 : (if k = 0 then (if k = 0 then h else h &&& h') else 0 : Nat) = (if k = 0 then h else 0 : Nat) := by by_cases hz : k = 0 <;> simp [hz]
      rw [e1] at c1
      have hst := Lib.hid (and_step hBr hlt Hh.out Hh'.out)
      obtain ⟨x, hx⟩ : ∃ x : Nat, x = (if k = 0 then h else 0) := ⟨_, rfl⟩
      obtain ⟨y, hy⟩ : ∃ y : Nat, y = (if k = 0 then h' else 0) := ⟨_, rfl⟩
      rw [← hx] at c1 hst
      rw [← hy] at c2 hst
      have z1 : (0 : Int) ≤ k := by omega
      have z2 : (k : Int) < 16 := by omega
      have HW := Lib.hid hw
      clear hx hy hBr hbr e1 hw
      go_wp2_with fail
      go_region
      go_wp2_with fail
      go_roundw
      case rel =>
        refine ⟨k + 1, by go_num, by omega, ?_, ?_⟩
        · rw [if_neg (by omega)]
          exact hst.out
        · exact (HW.out.setCell hBn _).drew
      case measure => simp [intOf]; omega
    · obtain rfl : k = 16 := by omega
      have HBr := Lib.hid hBr
      have HW := Lib.hid hw
      clear hBr hw
      go_wp2_with fail
      refine wp_sec 4 ebothBody rfl ?_
      conv => arg 2; whnf
      go_wp2_with fail
      conv => arg 2; whnf
      go_wp2_with fail
      exact HP.out _ HBr.out HW.out

theorem hid_or0 (h : Nat) : 0 ||| h = h := Nat.zero_or h
theorem nm_new (w : World) (h : Nat) : (w.alloc (.cells (nmCells h) 137)).heap[w.heap.size]? = some (.cells (nmCells h) 137 (0, 0)) := heap_alloc_new w _
/-- A pointer to a hide set, that is none only where that one is. -/
def NmPost (w : World) (h : Nat) (y : Bool) (e : Ending) (w' : World) : Prop := ∃ r, e = .returned (.pointer r) ∧ HidP w' r h ∧ (y = true → r ≠ none) ∧ Below w.heap.size w w'
set_option maxRecDepth 100000 in
set_option maxHeartbeats 4000000 in
theorem eeither_any (p q : Option Addr) (h h' : Nat) (w : World) (hp : HidP w p h) (hq : HidP w q h') :
    Calls Tryz.prog 82 #[.pointer p, .pointer q] w (NmPost w (h ||| h') q.isSome) := by
  obtain ⟨hh, ⟨rfl, rfl⟩ | ⟨b, rfl, hb⟩⟩ := hp
  · have hB0 : Below w.heap.size w (w.alloc (.cells #[.pointer none, .pointer q] 90)) := (Below.refl _ w).alloc (Nat.le_refl _) _
    have hq' := hq.keep (Kept.of_below hB0 _)
    have c0 : (w.alloc (.cells #[.pointer none, .pointer q] 90)).cell? ⟨w.heap.size, 0, none⟩ = some (.pointer none) := by simp
    have c1 : (w.alloc (.cells #[.pointer none, .pointer q] 90)).cell? ⟨w.heap.size, 1, none⟩ = some (.pointer q) := by simp
    have K := Lib.hid (eor_none _ _ _ c0 c1)
    have HQ := Lib.hid hq'
    clear hq hq' c0 c1
    go_enter Tryz.func82, Tryz.ntmps82
    go_wp2_with fail
    refine (K.out).mono ?_
    rintro e w1 ⟨rfl, rfl⟩
    go_wp2_with fail
    go_ret
    refine ⟨q, rfl, ?_, ?_, hB0⟩
    · rw [hid_or0]; exact HQ.out
    · intro hy; rintro rfl; cases hy
  · obtain ⟨hh', ⟨rfl, rfl⟩ | ⟨b', rfl, hb'⟩⟩ := hq
    · have hB0 : Below w.heap.size w (w.alloc (.cells #[.pointer (some ⟨b, 0, none⟩), .pointer none] 90)) := (Below.refl _ w).alloc (Nat.le_refl _) _
      have hp' := HidP.keep (p := some ⟨b, 0, none⟩) ⟨hh, .inr ⟨b, rfl, hb⟩⟩ (Kept.of_below hB0 _)
      have c0 : (w.alloc (.cells #[.pointer (some ⟨b, 0, none⟩), .pointer none] 90)).cell? ⟨w.heap.size, 0, none⟩ = some (.pointer (some ⟨b, 0, none⟩)) := by simp
      have c1 : (w.alloc (.cells #[.pointer (some ⟨b, 0, none⟩), .pointer none] 90)).cell? ⟨w.heap.size, 1, none⟩ = some (.pointer none) := by simp
      have K := Lib.hid (eor_some _ _ _ _ c0 c1)
      have HQ := Lib.hid hp'
      clear hb hp' c0 c1
      go_enter Tryz.func82, Tryz.ntmps82
      go_wp2_with fail
      refine (K.out).mono ?_
      rintro e w1 ⟨rfl, rfl⟩
      go_wp2_with fail
      go_ret
      refine ⟨_, rfl, ?_, ?_, hB0⟩
      · rw [Nat.or_zero]; exact HQ.out
      · intro hy; cases hy
    · have hbW := lt_of_heap hb
      have hB0 : Below w.heap.size w (w.alloc (.cells (nmCells h) 137)) := (Below.refl _ w).alloc (Nat.le_refl _) _
      have K := Lib.hid (fun c0 c2 c3 c4 c6 c7 c8 c9 c10 c11 c12 c13 c14 c15 c16 c17 c18 c19 c20 c21 c22 c23 c24 c25 c26 c27 c28 c29 c30 c31 c32 c33 =>
        eeither_end (w.alloc (.cells (nmCells h) 137)) w.heap.size b' h h' w.heap.size c0 c2 c3 c4 c6 c7 c8 c9 c10 c11 c12 c13 c14 c15 c16 c17 c18 c19 c20 c21 c22 c23 c24 c25 c26 c27 c28 c29 c30 c31 c32 c33
        (nm_new w h) ((hB0.block b' (lt_of_heap hb')).trans hb') (lt_of_heap hb') (Nat.le_refl _) hh hh' (NmPost w (h ||| h') true)
        (fun w' h1 h2 => ⟨_, rfl, ⟨or64_lt hh hh', .inr ⟨_, rfl, h1⟩⟩, fun _ => by simp, hB0.trans h2⟩))
      obtain ⟨c0, c1, c2, c3, c4, c5, c6, c7, c8, c9, c10, c11, c12, c13, c14, c15⟩ := nm_cells hb
      clear hb hb' hB0
      go_enter Tryz.func82, Tryz.ntmps82
      show Code.wp Tryz.prog (secs 0 eeitherBody) _ _ _
      refine wp_sec 0 eeitherBody rfl ?_
      conv => arg 2; whnf
      go_wp2_with fail
      refine wp_sec 1 eeitherBody rfl ?_
      conv => arg 2; whnf
      go_wp2_with fail
      refine wp_sec 2 eeitherBody rfl ?_
      conv => arg 2; whnf
      go_wp2_with fail
      exact K.out _ _ _ _ _ _ _ _ _ _ _ _ _ _ _ _ _ _ _ _ _ _ _ _ _ _ _ _ _ _ _ _
end Go.Proofs.YtlepnafgcmeimaaGreatDoor
