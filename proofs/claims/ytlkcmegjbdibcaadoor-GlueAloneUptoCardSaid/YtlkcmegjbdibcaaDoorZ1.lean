/- What is proved: plain facts on tokens as those of one line; what Print writes of any tokens. -/
import Derived.Test.YtlkcmegjbdibcaaDoorBld
import Derived.Test.YtlkcmegjbdibcaaDoorY1
namespace Go.Proofs.YtlkcmegjbdibcaaDoor
open Go.RowKit Go.Shelf

namespace Gl
/-- A token as one of a line. -/
def one (q seen gap : Bool) (t : K) : K := ⟨t.kind, ⟨(wr q t).toArray⟩, t.file, t.fr, t.en, seen && (gap || t.bl)⟩
/-- The tokens of one line: did one stand ahead, and a line end since? -/
def ln (q : Bool) : Bool → Bool → List K → List K
  | _, _, [] => []
  | seen, gap, t :: r => if t.kind = 7 then ln q seen true r else one q seen gap t :: ln q true false r
/-- What Print writes of tokens. -/
def prk (l : List K) : List UInt8 := l.flatMap fun t => (if t.bl then [32] else []) ++ t.text.data.toList
theorem prk_nil : prk [] = [] := rfl
theorem prk_cons (t : K) (r : List K) : prk (t :: r) = ((if t.bl then [32] else []) ++ t.text.data.toList) ++ prk r := by simp [prk]
theorem prk_append (a b : List K) : prk (a ++ b) = prk a ++ prk b := by simp [prk]
theorem prk_ln (q : Bool) : ∀ (l : List K) (seen gap : Bool), prk (ln q seen gap l) = txt q seen gap l
  | [], _, _ => rfl
  | t :: r, seen, gap => by
    have ih := fun s g => prk_ln q r s g
    by_cases h7 : t.kind = 7
    · have e : (t.kind == 7) = true := by simpa using h7
      rw [ln, if_pos h7, txt, if_pos e]
      exact ih seen true
    · have e : ¬ (t.kind == 7) = true := by simpa using h7
      rw [ln, if_neg h7, txt, if_neg e, prk_cons, ih true false]
      show ((if (seen && (gap || t.bl)) = true then [32] else []) ++ wr q t) ++ _ = _
      rw [Bool.or_comm gap t.bl]
theorem ln_length (q : Bool) : ∀ (l : List K) (seen gap : Bool), (ln q seen gap l).length ≤ l.length
  | [], _, _ => by simp [ln]
  | t :: r, seen, gap => by
    have ih := fun s g => ln_length q r s g
    rw [ln]
    split
    · have := ih seen true; simp; omega
    · have := ih true false; simp; omega
theorem prk_take_succ (ts : List K) (k : Nat) (t : K) (h : ts[k]? = some t) : prk (ts.take (k + 1)) = prk (ts.take k) ++ ((if t.bl then [32] else []) ++ t.text.data.toList) := by
  obtain ⟨hk, e⟩ := List.getElem?_eq_some_iff.1 h
  rw [List.take_succ_eq_append_getElem hk, prk_append, e, prk_cons, prk_nil, List.append_nil]
theorem prk_take_le (ts : List K) (k : Nat) : (prk (ts.take k)).length ≤ (prk ts).length := by
  have := prk_append (ts.take k) (ts.drop k)
  rw [List.take_append_drop] at this
  rw [this]; simp
end Gl

set_option maxRecDepth 100000 in
set_option maxHeartbeats 4000000 in
theorem printk_any (v : Value) (ts : List K) (w : World) (hv : Ks w v ts) (hl : ts.length ≤ 1000000000) (hp : (Gl.prk ts).length ≤ 1000000000) :
    Calls Tryd.prog 21 #[v] w fun e w' => e = .returned (.string ⟨(Gl.prk ts).toArray⟩) ∧ Below w.heap.size w w' := by
  obtain ⟨ad, cap, rfl, -⟩ := id hv
  rcases Nat.eq_zero_or_pos ts.length with h0 | hpos
  · obtain rfl : ts = [] := List.length_eq_zero_iff.1 h0
    clear hv
    go_enter Tryd.func21, Tryd.ntmps21
    go_wp2_with fail
    go_loopw [8] (fun i wr => i = .int .i64 0 ∧ Bld w.heap.size [] wr ∧ Below w.heap.size w wr) (fun _ _ => 0)
    case atStart => exact ⟨rfl, Bld.new w, (Below.refl _ w).alloc (Nat.le_refl _) _⟩
    case round =>
      obtain ⟨rfl, hb, hB⟩ := hrel
      go_wp2_with fail
      refine (bstring_any w.heap.size w.heap.size [] _ hb hB.size).mono ?_
      rintro e W1 ⟨rfl, b1⟩
      go_wp2_with fail
      go_ret
      exact ⟨rfl, hB.trans b1⟩
  · obtain ⟨g, o, rfl, -, hcap, hmax, hg, hc⟩ := hv.cells hpos
    unfold maxLen at hmax
    obtain ⟨n, hn⟩ : ∃ n, n = ts.length := ⟨_, rfl⟩
    rw [← hn] at hl hcap hpos
    rw [← hn]
    obtain ⟨X, hX⟩ : ∃ X, X = Gl.prk ts := ⟨_, rfl⟩
    rw [← hX] at hp ⊢
    have HXx := Lib.hid hX
    have Hn := Lib.hid hn
    have HC := Lib.hid hc
    clear hn hc hv hX
    go_enter Tryd.func21, Tryd.ntmps21
    go_wp2_with fail
    go_loopw [8] (fun i wr => ∃ k : Nat, i = .int .i64 k ∧ k ≤ n ∧ Bld w.heap.size (Gl.prk (ts.take k)) wr ∧ Below w.heap.size w wr) (fun i _ => n - (intOf i).toNat)
    case atStart => exact ⟨0, rfl, Nat.zero_le _, Bld.new w, (Below.refl _ w).alloc (Nat.le_refl _) _⟩
    case round =>
      obtain ⟨k, rfl, hk, hb, hB⟩ := hrel
      have hsB := hB.size
      by_cases hlt : k < n
      · obtain ⟨t, ht⟩ : ∃ t, ts[k]? = some t := ⟨_, List.getElem?_eq_getElem (by rw [← Hn.out]; exact hlt)⟩
        obtain ⟨d0, d1, d2, d3, d4, d5⟩ := (HC.out k t ht).below hB hg
        have hst := Gl.prk_take_succ ts k t ht
        have hle := Gl.prk_take_le ts (k + 1)
        rw [← HXx.out, hst] at hle
        obtain ⟨A, hA⟩ : ∃ A, A = Gl.prk (ts.take k) := ⟨_, rfl⟩
        rw [← hA] at hb hst hle
        simp only [List.length_append] at hle
        obtain ⟨Tx, hTx⟩ : ∃ Tx : ByteArray, Tx = t.text := ⟨_, rfl⟩
        have hTl : Tx.data.toList = t.text.data.toList := by rw [hTx]
        have hTs : Tx.size = t.text.data.toList.length := by rw [hTx, size_list]
        rw [← hTx] at d1
        have hlA : A.length ≤ 1000000000 := by omega
        have hlT : Tx.size ≤ 1000000000 := by rw [hTs]; omega
        have HT := Lib.hid hTl
        have HS := Lib.hid hst
        have hz : w.heap.size < wr.heap.size := hb.lt
        clear ht hst hA hTx hTl hTs hle
        cases hbl : t.bl with
        | true =>
          rw [hbl] at d5
          have HBl := Lib.hid hbl
          clear hbl
          go_wp2_with fail
          refine (wbyte_keep w.heap.size A 32 _ (hb.alloc _) (by omega)).mono ?_
          rintro e W1 ⟨rfl, b1, hB1, hK1⟩
          have x1 : W1.cell? ⟨wr.heap.size, 1, none⟩ = some (.string Tx) := hK1.cell (o := 1) (by omega) (by decide) (heap_alloc_new wr _)
          go_wp2_with fail
          refine (wstring_any w.heap.size (A ++ [32]) Tx _ b1 (by simp; omega) (by omega)).mono ?_
          rintro e W2 ⟨rfl, b2, hB2⟩
          go_wp2_with fail
          go_roundw
          case rel => exact ⟨k + 1, by go_num, by omega, by rw [HS.out, HBl.out, ← HT.out]; simpa using b2, ((hB.alloc hsB _).trans hB1).trans hB2⟩
          case measure => simp [intOf]; omega
        | false =>
          rw [hbl] at d5
          have HBl := Lib.hid hbl
          clear hbl
          go_wp2_with fail
          refine (wstring_any w.heap.size A Tx _ (hb.alloc _) (by omega) (by omega)).mono ?_
          rintro e W2 ⟨rfl, b2, hB2⟩
          go_wp2_with fail
          go_roundw
          case rel => exact ⟨k + 1, by go_num, by omega, by rw [HS.out, HBl.out, ← HT.out]; simpa using b2, (hB.alloc hsB _).trans hB2⟩
          case measure => simp [intOf]; omega
      · go_wp2_with fail
        refine (bstring_any w.heap.size w.heap.size _ _ hb hB.size).mono ?_
        rintro e W1 ⟨rfl, b1⟩
        go_wp2_with fail
        go_ret
        refine ⟨?_, hB.trans b1⟩
        rw [List.take_of_length_le (by rw [← Hn.out]; omega), ← HXx.out]
        rfl
end Go.Proofs.YtlkcmegjbdibcaaDoor
