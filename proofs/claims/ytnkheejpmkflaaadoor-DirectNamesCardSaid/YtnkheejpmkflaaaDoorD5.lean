/- What is proved: what quoted, bracketed, joined and Target tell of any tokens whose Strs stand between quotes. -/
import Derived.Test.YtnkheejpmkflaaaDoorD4
import Derived.Test.YtnkheejpmkflaaaDoorDy
namespace Go.Proofs.YtnkheejpmkflaaaDoor
open Go.RowKit Go.Shelf

set_option maxHeartbeats 4000000 in
set_option maxRecDepth 100000 in
theorem indexfunc_any (v : Value) (ts : List K) (w : World) (hv : Ks w v ts) (hl : ts.length * 56 ≤ 140737488355328) :
    Calls Tryd.prog 57 #[v, .func (.func 58) #[] #[]] w fun e w' => e = .returned (.int .i64 (Dx.firstCl ts)) ∧ Below w.heap.size w w' := by
  obtain ⟨ad, cap, rfl, hc1, hc2, -⟩ := id hv
  rcases Nat.eq_zero_or_pos ts.length with h0 | hpos
  · obtain rfl : ts = [] := List.length_eq_zero_iff.1 h0
    clear hv
    go_enter Tryd.func57, Tryd.ntmps57
    go_wp2_with fail
    go_loop [8] (fun i => i = .int .i64 0) (fun _ => 0)
    case atStart => exact rfl
    case round =>
      obtain rfl := hrel
      go_wp2_with fail
      go_ret
      exact ⟨rfl, Below.refl _ _⟩
  · obtain ⟨g, o, rfl, -, -, -, hg, hcell⟩ := hv.cells hpos
    obtain ⟨N, hN⟩ : ∃ N, N = ts.length := ⟨_, rfl⟩
    rw [← hN] at hl hc1 hpos ⊢
    have HN := Lib.hid hN
    have HC := Lib.hid hcell
    obtain ⟨R, hR⟩ : ∃ R, R = Dx.firstCl ts := ⟨_, rfl⟩
    rw [← hR]
    have HR := Lib.hid hR
    clear hv hcell hN hR
    go_enter Tryd.func57, Tryd.ntmps57
    go_wp2_with fail
    go_loopw [8] (fun i wr => ∃ k : Nat, i = .int .i64 k ∧ k ≤ N ∧ Dx.noneCl ts k ∧ Below w.heap.size w wr) (fun i _ => N - (intOf i).toNat)
    case atStart => exact ⟨0, rfl, Nat.zero_le _, Dx.noneCl_zero ts, Below.refl _ _⟩
    case round =>
      obtain ⟨k, rfl, hk, hno, hB⟩ := hrel
      have HNo := Lib.hid hno
      clear hno
      by_cases hlt : k < N
      · obtain ⟨t, ht⟩ : ∃ t, ts[k]? = some t := ⟨_, List.getElem?_eq_getElem (by rw [← HN.out]; exact hlt)⟩
        obtain ⟨c0, c1, c2, c3, c4, c5⟩ := (HC.out k t ht).below hB hg
        have key := closes_any t
        have z1 : (0 : Int) ≤ k := by omega
        have z2 : (k : Int) < N := by omega
        have HT := Lib.hid ht
        clear ht
        cases hcl : Dx.isSign t ⟨#[62]⟩ with
        | true =>
          rw [hcl] at key
          have hf := Dx.firstCl_hit HNo.out HT.out hcl
          rw [← HR.out] at hf
          obtain ⟨kd, tx, fl, fr, en, bl⟩ := t
          dsimp only [kAgg] at key c0 c1 c2 c3 c4 c5
          have HF := Lib.hid hf
          clear hcl hf
          go_wp2_with fail
          refine (key _).mono ?_
          rintro e w1 ⟨rfl, hB1⟩
          replace hB1 := Below.then hB hB1
          go_wp2_with fail
          go_ret
          exact ⟨ret_int HF.out.symm, hB1⟩
        | false =>
          rw [hcl] at key
          have hf := Dx.noneCl_succ HNo.out HT.out hcl
          obtain ⟨kd, tx, fl, fr, en, bl⟩ := t
          dsimp only [kAgg] at key c0 c1 c2 c3 c4 c5
          have HF := Lib.hid hf
          clear hcl hf
          go_wp2_with fail
          refine (key _).mono ?_
          rintro e w1 ⟨rfl, hB1⟩
          replace hB1 := Below.then hB hB1
          go_wp2_with fail
          go_roundw
          case rel => exact ⟨k + 1, by go_num, by omega, HF.out, hB1⟩
          case measure => simp [intOf]; omega
      · have hkN : k = N := by omega
        subst hkN
        have hf : Dx.firstCl ts = -1 := Dx.firstCl_miss (by rw [← HN.out]; exact HNo.out)
        rw [← HR.out] at hf
        have HF := Lib.hid hf
        clear hf
        go_wp2_with fail
        go_ret
        exact ⟨ret_int HF.out.symm, hB⟩

set_option maxHeartbeats 4000000 in
set_option maxRecDepth 100000 in
theorem quoted_dany (v : Value) (ts : List K) (w : World) (hv : Ks w v ts) (hl : ts.length * 56 ≤ 140737488355328) (hQ : Dx.QuotedAll ts) (hz : ∀ t ∈ ts, t.text.size ≤ 1000000000) :
    Calls Tryd.prog 34 #[v] w fun e w' => e = .returned (.tuple #[.string ((Dx.qn ts).getD ⟨#[]⟩), .bool (Dx.qn ts).isSome]) ∧ w = w' := by
  obtain ⟨ad, cap, rfl, hc1, hc2, hc3⟩ := id hv
  by_cases hlen : ts.length = 1
  · obtain ⟨t, rfl⟩ := List.length_eq_one_iff.1 hlen
    obtain ⟨g, o, rfl, -, -, -, hg, hcell⟩ := hv.cells (by simp)
    have c := hcell 0 t rfl
    by_cases hk : t.kind = 4
    · obtain ⟨m, hm⟩ := hQ t (by simp) hk
      have hsz := hz t (by simp)
      rw [Dx.qn_yes t m hk hm]
      obtain ⟨kd, tx, fl, fr, en, bl⟩ := t
      obtain ⟨c0, c1, -, -, -, -⟩ := c
      dsimp only at hk hm hsz c0 c1
      subst hk
      simp only [Nat.zero_mul, Nat.add_zero, List.length_cons, List.length_nil, Nat.zero_add] at c0 c1 hl hc1 ⊢
      obtain ⟨f1, f2⟩ := Dx.cut_front m
      obtain ⟨g1, g2⟩ := Dx.cut_back m
      have k1 := cutprefix_any tx ⟨#[34]⟩
      have hms : m.length + 2 ≤ 1000000000 := by rw [hm, mk_size] at hsz; simpa using hsz
      rw [show tx.data.toList = 34 :: m ++ [34] by rw [hm], show (⟨#[34]⟩ : ByteArray).data.toList = [34] from rfl, f1, f2] at k1
      obtain ⟨M, hM⟩ : ∃ M : ByteArray, M = ⟨m.toArray⟩ := ⟨_, rfl⟩
      obtain ⟨M', hM'⟩ : ∃ M' : ByteArray, M' = ⟨(m ++ [34]).toArray⟩ := ⟨_, rfl⟩
      have k2 := fun w => cutsuffix_any M' ⟨#[34]⟩ w (by rw [hM', mk_size]; simp; omega)
      rw [show M'.data.toList = m ++ [34] by rw [hM'], show (⟨#[34]⟩ : ByteArray).data.toList = [34] from rfl, g1, g2] at k2
      rw [← hM'] at k1
      rw [← hM] at k2 ⊢
      clear hv hc3 hcell hQ hz hm hM hM' f1 f2 g1 g2 hsz hms hlen
      go_enter Tryd.func34, Tryd.ntmps34
      go_wp2_with fail
      refine (k1 _).mono ?_
      rintro e w1 ⟨rfl, rfl⟩
      go_wp2_with fail
      refine (k2 _).mono ?_
      rintro e w1 ⟨rfl, rfl⟩
      go_wp2_with fail
      go_ret2
      exact ⟨rfl, rfl⟩
    · rw [Dx.qn_no t hk]
      obtain ⟨kd, tx, fl, fr, en, bl⟩ := t
      obtain ⟨c0, -, -, -, -, -⟩ := c
      dsimp only at hk c0
      simp only [Nat.zero_mul, Nat.add_zero, List.length_cons, List.length_nil, Nat.zero_add] at c0 hl hc1 ⊢
      have t1 : (kd != 4) = true := by simpa using hk
      clear hv hc3 hcell hQ hz hk hlen
      go_enter Tryd.func34, Tryd.ntmps34
      go_wp2_with fail
      go_ret2
      exact ⟨rfl, rfl⟩
  · rw [Dx.qn_long ts hlen]
    obtain ⟨N, hN⟩ : ∃ N, N = ts.length := ⟨_, rfl⟩
    rw [← hN] at hl hc1 hlen ⊢
    have t1 : ((N : Int) != 1) = true := by simp; omega
    clear hv hc3 hQ hz hN hlen
    go_enter Tryd.func34, Tryd.ntmps34
    go_wp2_with fail
    go_ret2
    exact ⟨rfl, rfl⟩

set_option maxHeartbeats 4000000 in
set_option maxRecDepth 100000 in
theorem bracketed_any (v : Value) (ts : List K) (w : World) (hv : Ks w v ts) (hl : ts.length * 56 ≤ 140737488355328) :
    Calls Tryd.prog 35 #[v] w fun e w' => ∃ u, e = .returned (.tuple #[u, .bool (Dx.bt ts).isSome]) ∧ Ks w' u ((Dx.bt ts).getD []) ∧ Below w.heap.size w w' := by
  obtain ⟨ad, cap, rfl, hc1, hc2, hc3⟩ := id hv
  by_cases hlen : 3 ≤ ts.length
  · obtain ⟨g, o, rfl, -, -, -, hg, hcell⟩ := hv.cells (by omega)
    obtain ⟨t, ht⟩ : ∃ t, ts[0]? = some t := ⟨_, List.getElem?_eq_getElem (by omega)⟩
    have c := hcell 0 t ht
    have key := dsign_any t ⟨#[60]⟩
    have hop : Dx.opens ts = Dx.isSign t ⟨#[60]⟩ := by
      cases ts with
      | nil => simp at ht
      | cons a r => simp at ht; subst ht; rfl
    obtain ⟨N, hN⟩ : ∃ N, N = ts.length := ⟨_, rfl⟩
    have hpart : Ks w (.slice (some ⟨g, o + 1 * 6, none⟩) (N - 1 - 1) (cap - 1)) ((ts.drop 1).take (N - 1 - 1)) := by
      have := hv.part 1 (N - 1) (by omega) (by omega)
      exact this
    have hbt : Dx.bt ts = if Dx.isSign t ⟨#[60]⟩ = true ∧ Dx.firstCl ts = (N : Int) - 1 then some ((ts.drop 1).take (N - 1 - 1)) else none := by
      unfold Dx.bt
      rw [hop, hN]
      by_cases hc : Dx.isSign t ⟨#[60]⟩ = true ∧ Dx.firstCl ts = (ts.length : Int) - 1
      · rw [if_pos ⟨hlen, hc⟩, if_pos hc]; rfl
      · rw [if_neg (fun h => hc h.2), if_neg hc]
    rw [hbt]
    have hvN : Ks w (.slice (some ⟨g, o, none⟩) N cap) ts := by rw [hN]; exact hv
    rw [← hN] at hlen hl hc1 ⊢
    have HN := Lib.hid hN
    have HP := Lib.hid hpart
    have HV := Lib.hid hvN
    obtain ⟨P, hP⟩ : ∃ P, P = (ts.drop 1).take (N - 1 - 1) := ⟨_, rfl⟩
    rw [← hP] at HP ⊢
    obtain ⟨kd, tx, fl, fr, en, bl⟩ := t
    obtain ⟨c0, c1, c2, c3, c4, c5⟩ := c
    dsimp only [kAgg] at key c0 c1 c2 c3 c4 c5
    simp only [Nat.zero_mul, Nat.add_zero] at c0 c1 c2 c3 c4 c5
    cases hs : Dx.isSign ⟨kd, tx, fl, fr, en, bl⟩ ⟨#[60]⟩ with
    | false =>
      rw [hs] at key
      rw [if_neg (by simp)]
      clear hv hvN hc3 hcell hbt hop hs hN hP hpart ht
      go_enter Tryd.func35, Tryd.ntmps35
      go_wp2_with fail
      refine (key _).mono ?_
      rintro e w1 ⟨rfl, hB1⟩
      go_wp2_with fail
      go_ret2
      exact ⟨_, rfl, Ks.none_at _ _ 0 (Nat.zero_le _), hB1⟩
    | true =>
      rw [hs] at key
      obtain ⟨F, hF⟩ : ∃ F, F = Dx.firstCl ts := ⟨_, rfl⟩
      rw [← hF]
      have HF := Lib.hid hF
      have z1 : (1 : Int) ≤ (N : Int) - 1 := by omega
      have z2 : (N : Int) - 1 ≤ cap := by omega
      have e2 : ((N : Int) - 1).toNat = N - 1 := by omega
      have hc1' : ¬ (1 = cap) := by omega
      clear hv hvN hc3 hcell hbt hop hs hN hP hpart ht hF
      by_cases hfc : F = (N : Int) - 1
      · rw [if_pos ⟨rfl, hfc⟩]
        have t1 : (F != (N : Int) - 1) = false := by simpa using hfc
        have HFc := Lib.hid hfc
        clear hfc
        go_enter Tryd.func35, Tryd.ntmps35
        go_wp2_with fail
        refine (key _).mono ?_
        rintro e w1 ⟨rfl, hB1⟩
        go_wp2_with fail
        refine (indexfunc_any _ ts _ (HV.out.below hB1) (by rw [← HN.out]; omega)).mono ?_
        rintro e w2 ⟨rfl, hB2⟩
        rw [← HF.out]
        replace hB2 := Below.then hB1 hB2
        go_wp2_with fail
        go_ret2
        exact ⟨_, rfl, HP.out.below hB2, hB2⟩
      · rw [if_neg (fun h => hfc h.2)]
        have t1 : (F != (N : Int) - 1) = true := by simpa using hfc
        clear hfc
        go_enter Tryd.func35, Tryd.ntmps35
        go_wp2_with fail
        refine (key _).mono ?_
        rintro e w1 ⟨rfl, hB1⟩
        go_wp2_with fail
        refine (indexfunc_any _ ts _ (HV.out.below hB1) (by rw [← HN.out]; omega)).mono ?_
        rintro e w2 ⟨rfl, hB2⟩
        rw [← HF.out]
        replace hB2 := Below.then hB1 hB2
        go_wp2_with fail
        go_ret2
        exact ⟨_, rfl, Ks.none_at _ _ 0 (Nat.zero_le _), hB2⟩
  · have hbt : Dx.bt ts = none := by unfold Dx.bt; rw [if_neg (fun h => hlen h.1)]
    rw [hbt]
    obtain ⟨N, hN⟩ : ∃ N, N = ts.length := ⟨_, rfl⟩
    rw [← hN] at hlen hl hc1 ⊢
    have t1 : decide ((N : Int) < 3) = true := by simp; omega
    clear hv hc3 hN hbt
    go_enter Tryd.func35, Tryd.ntmps35
    go_wp2_with fail
    go_ret2
    exact ⟨_, rfl, Ks.none_at _ _ 0 (Nat.zero_le _), Below.refl _ _⟩

set_option maxRecDepth 100000 in
set_option maxHeartbeats 4000000 in
theorem joined_any (v : Value) (ts : List K) (w : World) (hv : Ks w v ts) (hl : ts.length ≤ 1000000000) (hp : (Dx.jn ts).length ≤ 1000000000) :
    Calls Tryd.prog 36 #[v] w fun e w' => e = .returned (.string ⟨(Dx.jn ts).toArray⟩) ∧ Below w.heap.size w w' := by
  obtain ⟨ad, cap, rfl, -⟩ := id hv
  rcases Nat.eq_zero_or_pos ts.length with h0 | hpos
  · obtain rfl : ts = [] := List.length_eq_zero_iff.1 h0
    clear hv
    go_enter Tryd.func36, Tryd.ntmps36
    go_wp2_with fail
    go_loopw [8] (fun i wr => i = .int .i64 0 ∧ Bld w.heap.size [] wr ∧ Below w.heap.size w wr) (fun _ _ => 0)
    case atStart => exact ⟨rfl, Bld.new w, (Below.refl _ w).alloc (Nat.le_refl _) _⟩
    case round =>
      obtain ⟨rfl, hb, hB⟩ := hrel
      go_wp2_with fail
      refine (bstring_any w.heap.size w.heap.size [] _ hb hB.size).mono ?_
      rintro e W1 ⟨rfl, b1⟩
      go_wp2_with fail
      go_ret
      exact ⟨rfl, hB.trans b1⟩
  · obtain ⟨g, o, rfl, -, hcap, hmax, hg, hc⟩ := hv.cells hpos
    unfold maxLen at hmax
    obtain ⟨n, hn⟩ : ∃ n, n = ts.length := ⟨_, rfl⟩
    rw [← hn] at hl hcap hpos
    rw [← hn]
    obtain ⟨X, hX⟩ : ∃ X, X = Dx.jn ts := ⟨_, rfl⟩
    rw [← hX] at hp ⊢
    have HXx := Lib.hid hX
    have Hn := Lib.hid hn
    have HC := Lib.hid hc
    clear hn hc hv hX
    go_enter Tryd.func36, Tryd.ntmps36
    go_wp2_with fail
    go_loopw [8] (fun i wr => ∃ k : Nat, i = .int .i64 k ∧ k ≤ n ∧ Bld w.heap.size (Dx.jn (ts.take k)) wr ∧ Below w.heap.size w wr) (fun i _ => n - (intOf i).toNat)
    case atStart => exact ⟨0, rfl, Nat.zero_le _, Bld.new w, (Below.refl _ w).alloc (Nat.le_refl _) _⟩
    case round =>
      obtain ⟨k, rfl, hk, hb, hB⟩ := hrel
      have hsB := hB.size
      by_cases hlt : k < n
      · obtain ⟨t, ht⟩ : ∃ t, ts[k]? = some t := ⟨_, List.getElem?_eq_getElem (by rw [← Hn.out]; exact hlt)⟩
        obtain ⟨d0, d1, d2, d3, d4, d5⟩ := (HC.out k t ht).below hB hg
        have hst := Dx.jn_take_succ ts k t ht
        have hle := Dx.jn_take_le ts (k + 1)
        rw [← HXx.out, hst] at hle
        obtain ⟨A, hA⟩ : ∃ A, A = Dx.jn (ts.take k) := ⟨_, rfl⟩
        rw [← hA] at hb hst hle
        obtain ⟨kd, Tx, fl, fr, en, bl⟩ := t
        unfold Dx.piece at hst hle
        dsimp only at d0 d1 d2 d3 d4 d5 hst hle
        simp only [List.length_append] at hle
        have hTs : Tx.size = Tx.data.toList.length := by rw [size_list]
        have hlA : A.length ≤ 1000000000 := by omega
        have hlT : Tx.size ≤ 1000000000 := by rw [hTs]; omega
        have HS := Lib.hid hst
        have hz : w.heap.size < wr.heap.size := hb.lt
        clear ht hst hA hTs hle
        by_cases hbl : 0 < k ∧ bl = true
        · obtain ⟨hk0, rfl⟩ := hbl
          have hst : Dx.jn (ts.take (k + 1)) = A ++ [32] ++ Tx.data.toList := by rw [HS.out, if_pos ⟨hk0, rfl⟩]; simp
          have HSt := Lib.hid hst
          clear hst
          go_wp2_with fail
          refine (wbyte_keep w.heap.size A 32 _ (hb.alloc _) (by omega)).mono ?_
          rintro e W1 ⟨rfl, b1, hB1, hK1⟩
          have x1 : W1.cell? ⟨wr.heap.size, 1, none⟩ = some (.string Tx) := hK1.cell (o := 1) (by omega) (by decide) (heap_alloc_new wr _)
          go_wp2_with fail
          refine (wstring_any w.heap.size (A ++ [32]) Tx _ b1 (by simp; omega) (by omega)).mono ?_
          rintro e W2 ⟨rfl, b2, hB2⟩
          go_wp2_with fail
          go_roundw
          case rel => exact ⟨k + 1, by go_num, by omega, by rw [HSt.out]; exact b2, ((hB.alloc hsB _).trans hB1).trans hB2⟩
          case measure => simp [intOf]; omega
        · have hst : Dx.jn (ts.take (k + 1)) = A ++ Tx.data.toList := by rw [HS.out, if_neg hbl]; simp
          have HSt := Lib.hid hst
          have hcs : (0 < k ∧ bl = false) ∨ k = 0 := by
            by_cases h : 0 < k
            · cases hb' : bl with
              | true => exact absurd ⟨h, hb'⟩ hbl
              | false => exact .inl ⟨h, rfl⟩
            · exact .inr (by omega)
          clear hst hbl
          rcases hcs with ⟨hk0, rfl⟩ | rfl
          · go_wp2_with fail
            refine (wstring_any w.heap.size A Tx _ (hb.alloc _) (by omega) (by omega)).mono ?_
            rintro e W2 ⟨rfl, b2, hB2⟩
            go_wp2_with fail
            go_roundw
            case rel => exact ⟨k + 1, by go_num, by omega, by rw [HSt.out]; exact b2, (hB.alloc hsB _).trans hB2⟩
            case measure => simp [intOf]; omega
          · simp only [Nat.zero_mul, Nat.add_zero] at d0 d1 d2 d3 d4 d5
            go_wp2_with fail
            refine (wstring_any w.heap.size A Tx _ (hb.alloc _) (by omega) (by omega)).mono ?_
            rintro e W2 ⟨rfl, b2, hB2⟩
            go_wp2_with fail
            go_roundw
            case rel => exact ⟨0 + 1, by go_num, by omega, by rw [HSt.out]; exact b2, (hB.alloc hsB _).trans hB2⟩
            case measure => simp [intOf]; omega
      · go_wp2_with fail
        refine (bstring_any w.heap.size w.heap.size _ _ hb hB.size).mono ?_
        rintro e W1 ⟨rfl, b1⟩
        go_wp2_with fail
        go_ret
        refine ⟨?_, hB.trans b1⟩
        rw [List.take_of_length_le (by rw [← Hn.out]; omega), ← HXx.out]
        rfl

/-- A line's value. -/
def lnAgg (k f n : Int) (v : Value) : Value := .agg #[.int .i64 k, .int .i64 f, .int .i64 n, v]
/-- What a target comes to. -/
def tgtV (x : ByteArray × Bool × Int) : Value := .tuple #[.string x.1, .bool x.2.1, .int .i64 x.2.2]

theorem jn_part (ts m : List K) (h : Dx.bt ts = some m) (N : Nat) (hN : ∀ a b, (Dx.jn ((ts.drop a).take b)).length ≤ N) : (Dx.jn m).length ≤ N := by
  obtain ⟨a, b, e, _⟩ := Dx.bt_le ts m h
  rw [e]; exact hN a b

set_option maxRecDepth 100000 in
set_option maxHeartbeats 4000000 in
theorem target_any (k f n : Int) (v : Value) (ts : List K) (w : World) (hv : Ks w v ts) (hl : ts.length ≤ 1000000) (hQ : Dx.QuotedAll ts) (hz : ∀ t ∈ ts, t.text.size ≤ 1000000000) (hj : ∀ a b, (Dx.jn ((ts.drop a).take b)).length ≤ 1000000000) :
    Calls Tryd.prog 18 #[lnAgg k f n v] w fun e w' => e = .returned (tgtV (Dx.target k ts)) ∧ Below w.heap.size w w' := by
  obtain ⟨ad, cap, rfl, hc1, hc2, hc3⟩ := id hv
  dsimp only [lnAgg]
  by_cases hk : k = 10
  · subst hk
    obtain ⟨N, hN⟩ : ∃ N, N = ts.length := ⟨_, rfl⟩
    have hvN : Ks w (.slice ad N cap) ts := by rw [hN]; exact hv
    have HV := Lib.hid hvN
    rw [← hN]
    have hB0 : Below w.heap.size w (w.alloc (.cells #[.int .i64 10, .int .i64 f, .int .i64 n, .slice ad N cap] 34)) := (Below.refl _ w).alloc (Nat.le_refl _) _
    have hQu := fun W h => quoted_dany (.slice ad N cap) ts W h (by omega) hQ hz
    have HQ := Lib.hid hQu
    have hl2 : ts.length * 56 ≤ 140737488355328 := by omega
    have HL := Lib.hid hl2
    have HL1 := Lib.hid hl
    have HJ := Lib.hid hj
    cases hq : Dx.qn ts with
    | some s =>
      rw [Dx.target_q ts s hq]
      dsimp only [tgtV]
      have HQs := Lib.hid hq
      clear hv hvN hc3 hQ hz hN hl hl2 hj hQu hq
      go_enter Tryd.func18, Tryd.ntmps18
      go_wp2_with fail
      refine (HQ.out _ (HV.out.below hB0)).mono ?_
      rintro e w1 ⟨rfl, rfl⟩
      rw [HQs.out]
      go_wp2_with fail
      go_ret3
      exact ⟨rfl, hB0⟩
    | none =>
      have HQs := Lib.hid hq
      cases hb : Dx.bt ts with
      | some m =>
        rw [Dx.target_b ts m hq hb]
        dsimp only [tgtV]
        have hjm := jn_part ts m hb _ hj
        have hml : m.length ≤ 1000000000 := by obtain ⟨_, _, _, h⟩ := Dx.bt_le ts m hb; omega
        have HBs := Lib.hid hb
        obtain ⟨Jm, hJm⟩ : ∃ Jm : ByteArray, Jm = ⟨(Dx.jn m).toArray⟩ := ⟨_, rfl⟩
        rw [← hJm]
        have HJm := Lib.hid hJm
        clear hv hvN hc3 hQ hz hN hl hl2 hj hQu hq hb hJm
        go_enter Tryd.func18, Tryd.ntmps18
        go_wp2_with fail
        refine (HQ.out _ (HV.out.below hB0)).mono ?_
        rintro e w1 ⟨rfl, rfl⟩
        rw [HQs.out]
        go_wp2_with fail
        refine (bracketed_any _ ts _ (HV.out.below hB0) HL.out).mono ?_
        rintro e w2 ⟨u, rfl, hu, hB2⟩
        rw [HBs.out] at hu ⊢
        dsimp only [Option.getD, Option.isSome] at hu ⊢
        replace hB2 := Below.then hB0 hB2
        go_wp2_with fail
        refine (joined_any u m _ hu hml hjm).mono ?_
        rintro e w3 ⟨rfl, hB3⟩
        rw [← HJm.out]
        replace hB3 := Below.then hB2 hB3
        go_wp2_with fail
        go_ret3
        exact ⟨rfl, hB3⟩
      | none =>
        rw [Dx.target_n ts hq hb]
        dsimp only [tgtV]
        have HBs := Lib.hid hb
        clear hv hvN hc3 hQ hz hN hl hl2 hj hQu hq hb
        go_enter Tryd.func18, Tryd.ntmps18
        go_wp2_with fail
        refine (HQ.out _ (HV.out.below hB0)).mono ?_
        rintro e w1 ⟨rfl, rfl⟩
        rw [HQs.out]
        go_wp2_with fail
        refine (bracketed_any _ ts _ (HV.out.below hB0) HL.out).mono ?_
        rintro e w2 ⟨u, rfl, hu, hB2⟩
        rw [HBs.out] at hu ⊢
        dsimp only [Option.getD, Option.isSome] at hu ⊢
        replace hB2 := Below.then hB0 hB2
        go_wp2_with fail
        go_ret3
        exact ⟨rfl, hB2⟩
  · rw [Dx.target_kind k ts hk]
    dsimp only [tgtV]
    have t1 : (k != 10) = true := by simpa using hk
    clear hv hc3 hQ hz hj hk
    go_enter Tryd.func18, Tryd.ntmps18
    go_wp2_with fail
    go_ret3
    exact ⟨rfl, (Below.refl _ w).alloc (Nat.le_refl _) _⟩
end Go.Proofs.YtnkheejpmkflaaaDoor
