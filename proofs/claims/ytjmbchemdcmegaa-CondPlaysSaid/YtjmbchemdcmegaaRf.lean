/- What is proved: the document's Wrong tells what the plain function tells. -/
import Derived.Test.YtjmbchemdcmegaaRe
namespace Go.Proofs.Ytjmbchemdcmegaa
open Go.RowKit
open Ct Ct.T

def lns (st : List Fm) : List Nat := (st.map (·.line)).reverse
def elz (st : List Fm) : List Bool := (st.map (·.els)).reverse
def bln (l : List Bool) : List Value := l.map Value.bool
theorem lns_cons (f : Fm) (st : List Fm) : lns (f :: st) = lns st ++ [f.line] := by simp [lns]
theorem elz_cons (f : Fm) (st : List Fm) : elz (f :: st) = elz st ++ [f.els] := by simp [elz]
theorem lns_length (st : List Fm) : (lns st).length = st.length := by simp [lns]
theorem elz_length (st : List Fm) : (elz st).length = st.length := by simp [elz]
theorem bln_append (a b : List Bool) : bln (a ++ b) = bln a ++ bln b := by simp [bln]
theorem bln_length (a : List Bool) : (bln a).length = a.length := by simp [bln]
theorem add_lns (l e : Nat) (x : T) (s : S) : lns (add l e x s).2 = lns s.2 ∧ elz (add l e x s).2 = elz s.2 ∧ (add l e x s).2.length = s.2.length := by
  obtain ⟨out, st⟩ := s; cases st <;> simp [add, lns, elz]

theorem row_apart {W : World} {b b' e e' sz sz' n n' : Nat} {v v' : Value} {xs xs' : List Value} (h : W.ownsRow b e sz v n xs) (h' : W.ownsRow b' e' sz' v' n' xs') (hne : e ≠ e') {k : Nat} (hk : v.ownBlock = some k) : v'.ownBlock ≠ some k := by
  rcases h.2 with ⟨h1, _⟩ | ⟨g, cap, cur, h1, _, h2, _⟩
  · rw [h1] at hk; cases hk
  · rw [h1] at hk
    simp only [Value.ownBlock, Option.some.injEq] at hk
    subst hk
    exact row_not h' h2 hne

/-- What Wrong holds: the lines of those that are open, and whether each has an Else. -/
def Ws (W : World) (base : Nat) (u4 u5 : Value) (st : List Fm) : Prop := W.ownsRow base 3 1 u4 st.length (nums (lns st)) ∧ W.ownsRow base 4 1 u5 st.length (bln (elz st))

theorem take_st_begins {i : Nat} {k : Int} {s : S} (hb : begins k = true) : (Ct.take i k s).2 = ⟨i, false, nil, i, nil⟩ :: s.2 := by simp [Ct.take, hb]

def WrongPost (w : World) (r : Nat × Nat) (e : Ending) (w' : World) : Prop := e = .returned (.tuple #[.int .i64 r.1, .int .i64 r.2]) ∧ Below w.heap.size w w'

set_option maxRecDepth 100000 in
set_option maxHeartbeats 8000000 in
theorem rwrong_any (v : Value) (ks : List Int) (w : World) (hv : Lns w v ks) (hl : ks.length ≤ 100000) : Calls Try.prog 22 #[v] w (WrongPost w (Ct.parse ks).2) := by
  obtain ⟨r, hr⟩ : ∃ r, r = (Ct.parse ks).2 := ⟨_, rfl⟩
  rw [← hr]
  obtain ⟨i0, hi, hz0, hz1, hz2⟩ := info_parts info3
  obtain ⟨i4, ki, kz0, kz1, kz2⟩ := info_parts infoB
  obtain ⟨ad, cap, rfl, h1, h2, h3⟩ := hv
  obtain ⟨n, hn⟩ : ∃ n, n = ks.length := ⟨_, rfl⟩
  rw [← hn] at hl h1 h3
  rw [← hn]
  have hr' : ∀ y, Ct.go 0 ks (nil, []) = y → r = (fin y).2 := fun y hy => by rw [hr, Ct.parse, hy]
  have Hr := Lib.hid hr'
  have Hn := Lib.hid hn
  have H3 := Lib.hid h3
  unfold maxLen at h2
  clear hn h3 hr hr'
  go_enter Try.func22, Try.ntmps22
  go_wp2_with fail
  go_loopw [4, 5, 6] (fun u4 u5 i wr => ∃ (k : Nat) (s : S), i = .int .i64 k ∧ k ≤ n ∧ Ct.go k (ks.drop k) s = Ct.go 0 ks (nil, []) ∧ Ws wr w.heap.size u4 u5 s.2 ∧ s.2.length ≤ k ∧ Below w.heap.size w wr) (fun _ _ i _ => n - (intOf i).toNat)
  case atStart => exact ⟨0, (nil, []), rfl, Nat.zero_le _, rfl, ⟨World.ownsRow_nil _ _ _ _, World.ownsRow_nil _ _ _ _⟩, by simp, Below.refl _ _⟩
  case round =>
    obtain ⟨k, s, rfl, hk, hgo, ⟨hr4, hr5⟩, hsl, hB⟩ := hrel
    have hsB := hB.size
    by_cases hlt : k < n
    · obtain ⟨g, o, rfl, hg, hc⟩ := H3.out (by omega)
      obtain ⟨x, hx⟩ : ∃ x, ks[k]? = some x := ⟨_, List.getElem?_eq_getElem (by rw [← Hn.out]; exact hlt)⟩
      obtain ⟨d0, -⟩ := hc k x hx
      replace d0 := (hB.cell (p := ⟨g, o + k * 4, none⟩) hg).trans d0
      rw [drop_more hx, Ct.go] at hgo
      have y2 : (k : Int) < n := by omega
      have HBg := Lib.hid (begins_any x wr)
      obtain ⟨out, st⟩ := s
      dsimp only at hr4 hr5 hsl hgo
      clear hc hx
      rcases kind_cases x with ⟨hb0, hb, hp, k5, k6, k7⟩ | ⟨hb, hp, k7, k56⟩ | ⟨hb, hp, k5, k6, k7⟩ | ⟨hpl, hb, hp, k5, k6, k7⟩
      · rw [show wrong x st = false by simp [wrong, hp, k7], if_neg (by simp)] at hgo
        have Hgo := Lib.hid hgo
        have HT := Lib.hid (take_st_begins (i := k) (s := (out, st)) hb)
        rw [hb] at HBg
        obtain ⟨m, hm⟩ : ∃ m, m = st.length := ⟨_, rfl⟩
        rw [← hm] at hsl hr4 hr5
        have Hm := Lib.hid hm
        obtain ⟨a4, c4, rfl⟩ : ∃ a c, u4 = .slice a m c := by
          rcases hr4.2 with ⟨h', h0⟩ | ⟨g', cap', cur, h', _⟩
          · exact ⟨none, 0, by rw [h', h0]⟩
          · exact ⟨_, _, h'⟩
        clear hgo hb0 hb hp hm
        go_wp2_with fail
        refine HBg.out.mono ?_
        rintro e w' ⟨rfl, hw'⟩
        rw [hw']
        clear hw' w'
        go_wp2_with (first
          | (at_builtin; refine wpList_append_lies _ rfl _ _ 22 rfl w.heap.size 3 i0 (.int .i64 0) 1 8 Try.underlying22 hi hz0 hz1 hz2 rfl (by decide) (.slice a4 m c4) m (nums (lns st)) rfl (hr4.alloc _) ⟨wr.heap.size, 0, none⟩ 1 1 [.int .i64 k] rfl rfl (news1 _ _ _) (by simp [Value.oneCell']) (by decide) (by unfold maxLen; omega) (by omega) (by simp; omega) _ rfl ?_; intro g6 cap6 w6 hr6 hg6 hat6 _; have hB6 := (hB.alloc hsB (.cells #[.int .i64 k] 3)).grown hg6 (by simp; omega) (fun j ej => (hr4.lt j ej).1); have hr5' := row_heap hr5 (fun q hq => ((Gr.alloc wr (.slice a4 m c4) (.cells #[.int .i64 k] 3)).trans (Gr.lies (n := m + 1) (cap := cap6) hg6 (by simpa using hat6))).block (hr5.lt q hq).2 (row_apart hr5 hr4 (by decide) hq)))
          | (at_builtin; refine wpList_append_lies _ rfl _ _ 70 rfl w.heap.size 4 i4 (.bool false) 1 1 Try.underlying70 ki kz0 kz1 kz2 rfl (by decide) _ m (bln (elz st)) rfl (hr5'.alloc _) ⟨w6.heap.size, 0, none⟩ 1 1 [.bool false] rfl rfl (news1 _ _ _) (by simp [Value.oneCell']) (by decide) (by unfold maxLen; omega) (by omega) (by simp; have := hB6.size; omega) _ rfl ?_; intro g7 cap7 w7 hr7 hg7 hat7 _; have hB7 := (hB6.alloc hB6.size (.cells #[.bool false] 4)).grown hg7 (by simp; have := hB6.size; omega) (fun j ej => (hr5'.lt j ej).1); have hr6' := row_heap hr6 (fun q hq => ((Gr.alloc w6 _ (.cells #[.bool false] 4)).trans (Gr.lies (n := m + 1) (cap := cap7) hg7 (by simpa using hat7))).block (hr6.lt q hq).2 (row_apart hr6 hr5' (by decide) hq))))
        have HR7 := Lib.hid hr7
        have HR6 := Lib.hid hr6'
        clear hr7 hr6' hr6 hg6 hg7 hat6 hat7 hr5' hB6
        go_wp2_with fail
        go_roundw
        case rel =>
          refine ⟨k + 1, Ct.take k x (out, st), by go_num, hlt, Hgo.out, ?_, ?_, hB7⟩
          · rw [HT.out]
            refine ⟨?_, ?_⟩
            · rw [lns_cons, nums_append, List.length_cons, ← Hm.out]; exact HR6.out
            · rw [elz_cons, bln_append, List.length_cons, ← Hm.out]; exact HR7.out
          · rw [HT.out, List.length_cons, ← Hm.out]; omega
        case measure => simp [intOf]; omega
      · rw [hb] at HBg
        cases st with
        | nil =>
          rw [show wrong x [] = true by simp [wrong, hp, noElse], if_pos rfl] at hgo
          have Hgo := Lib.hid (Hr.out _ hgo.symm)
          obtain ⟨a4, c4, rfl⟩ : ∃ a c, u4 = .slice a 0 c := by
            rcases hr4.2 with ⟨h', h0⟩ | ⟨g', cap', cur, h', _⟩
            · exact ⟨none, 0, h'⟩
            · exact ⟨_, _, h'⟩
          clear hgo hb hp
          go_wp2_with fail
          refine HBg.out.mono ?_
          rintro e w' ⟨rfl, hw'⟩
          rw [hw']
          clear hw' w'
          rcases k56 with ⟨k5, k6⟩ | ⟨k5, k6⟩
          all_goals
            go_wp2_with fail
            rw [Hgo.out]
            exact bodyPost_ret (v := .tuple #[.int .i64 k, .int .i64 50]) (by simp [results, Try.results22, go_sem]) rfl ⟨rfl, hB⟩
        | cons f st =>
          rw [List.length_cons, lns_cons, nums_append] at hr4
          rw [List.length_cons, elz_cons, bln_append] at hr5
          rw [List.length_cons] at hsl
          obtain ⟨m, hm⟩ : ∃ m, m = st.length := ⟨_, rfl⟩
          rw [← hm] at hsl hr4 hr5
          have Hm := Lib.hid hm
          obtain ⟨gA, cA, rfl, hcA, -, -⟩ := row_form1' hr4
          obtain ⟨gE, cE, rfl, hcE, -, hgE⟩ := row_form1' hr5
          have hcell : wr.cell? ⟨gE, m, none⟩ = some (.bool f.els) := by
            have := hr5.cells (g := gE) rfl m (.bool f.els) (by rw [List.getElem?_append_right (by rw [bln_length, elz_length, ← hm]; exact Nat.le_refl _), bln_length, elz_length, ← hm, Nat.sub_self]; rfl)
            rwa [add_none, Nat.zero_add] at this
          have hfz := hr5.frozenAt m
          have z1 : ((m : Int) + 1 == 0) = false := by simp; omega
          have z4 : IntKind.i64.wrap (m : Int) = m := IntWalk.i64_in _ (by omega)
          have z5 : IntKind.i64.wrap ((m : Int) + 1 - 1) = m := by rw [IntWalk.i64_in _ (by omega)]; omega
          have hw : wrong x (f :: st) = f.els := by simp [wrong, hp, noElse, isNil]
          rw [hw] at hgo
          have hT : (Ct.take k x (out, f :: st)).2 = ⟨f.line, x == 6, f.dn.snoc f.b 0 f.cur, k, nil⟩ :: st := by simp [Ct.take, hb, hp]
          have HT := Lib.hid hT
          obtain ⟨E, hE⟩ : ∃ E, E = f.els := ⟨_, rfl⟩
          rw [← hE] at hcell hgo hr5
          clear hb hp hm hw hT hE
          cases E with
          | true =>
            rw [if_pos rfl] at hgo
            have Hgo := Lib.hid (Hr.out _ hgo.symm)
            clear hgo
            go_wp2_with fail
            refine HBg.out.mono ?_
            rintro e w' ⟨rfl, hw'⟩
            rw [hw']
            clear hw' w'
            rcases k56 with ⟨k5, k6⟩ | ⟨k5, k6⟩
            all_goals
              go_wp2_with fail
              rw [Hgo.out]
              exact bodyPost_ret (v := .tuple #[.int .i64 k, .int .i64 50]) (by simp [results, Try.results22, go_sem]) rfl ⟨rfl, hB⟩
          | false =>
            rw [if_neg (by simp)] at hgo
            have Hgo := Lib.hid hgo
            have HST := Lib.hid (hr5.stored m (.bool true))
            have HR4 := Lib.hid hr4
            have HR5 := Lib.hid hr5
            have HApt := Lib.hid (fun q (hq : (Value.slice (some ⟨gA, 0, none⟩) (m + 1) cA).ownBlock = some q) => row_apart hr4 hr5 (by decide) hq)
            clear hgo hr4 hr5
            go_wp2_with fail
            refine HBg.out.mono ?_
            rintro e w' ⟨rfl, hw'⟩
            rw [hw']
            clear hw' w'
            rcases k56 with ⟨k5, k6⟩ | ⟨k5, k6⟩
            · rw [k6] at HT
              go_wp2_with fail
              go_roundw
              case rel =>
                refine ⟨k + 1, Ct.take k x (out, f :: st), by go_num, hlt, Hgo.out, ?_, ?_, hB⟩
                · rw [HT.out]
                  refine ⟨?_, ?_⟩
                  · rw [lns_cons, nums_append, List.length_cons, ← Hm.out]; exact HR4.out
                  · rw [elz_cons, bln_append, List.length_cons, ← Hm.out]; exact HR5.out
                · rw [HT.out, List.length_cons, ← Hm.out]; omega
              case measure => simp [intOf]; omega
            · rw [k6] at HT
              go_wp2_with fail
              go_roundw
              case rel =>
                refine ⟨k + 1, Ct.take k x (out, f :: st), by go_num, hlt, Hgo.out, ?_, ?_, hB.setCell hgE _⟩
                · rw [HT.out]
                  refine ⟨?_, ?_⟩
                  · rw [lns_cons, nums_append, List.length_cons, ← Hm.out]
                    exact ownsRow_setCell_other HR4.out (fun e => HApt.out gE e rfl) _
                  · rw [elz_cons, bln_append, List.length_cons, ← Hm.out]
                    have := HST.out.1
                    rw [show bln [false] = [.bool false] from rfl, set_last1 _ _ _ _ (by rw [bln_length, elz_length, ← Hm.out])] at this
                    exact this
                · rw [HT.out, List.length_cons, ← Hm.out]; omega
              case measure => simp [intOf]; omega
      · have hx7 : x = 7 := by simpa using k7
        subst hx7
        rw [hb] at HBg
        cases st with
        | nil =>
          rw [show wrong 7 [] = true by simp [wrong, isNil], if_pos rfl] at hgo
          have Hgo := Lib.hid (Hr.out _ hgo.symm)
          obtain ⟨a4, c4, rfl⟩ : ∃ a c, u4 = .slice a 0 c := by
            rcases hr4.2 with ⟨h', h0⟩ | ⟨g', cap', cur, h', _⟩
            · exact ⟨none, 0, h'⟩
            · exact ⟨_, _, h'⟩
          clear hgo hb hp
          go_wp2_with fail
          refine HBg.out.mono ?_
          rintro e w' ⟨rfl, hw'⟩
          rw [hw']
          clear hw' w'
          go_wp2_with fail
          rw [Hgo.out]
          exact bodyPost_ret (v := .tuple #[.int .i64 k, .int .i64 50]) (by simp [results, Try.results22, go_sem]) rfl ⟨rfl, hB⟩
        | cons f st =>
          rw [show wrong 7 (f :: st) = false by simp [wrong, isNil, parts], if_neg (by simp)] at hgo
          have Hgo := Lib.hid hgo
          rw [List.length_cons, lns_cons, nums_append] at hr4
          rw [List.length_cons, elz_cons, bln_append] at hr5
          rw [List.length_cons] at hsl
          obtain ⟨m, hm⟩ : ∃ m, m = st.length := ⟨_, rfl⟩
          rw [← hm] at hsl hr4 hr5
          have Hm := Lib.hid hm
          obtain ⟨gA, cA, rfl, hcA, -, -⟩ := row_form1' hr4
          obtain ⟨gE, cE, rfl, hcE, -, hgE⟩ := row_form1' hr5
          have c4 := ownsRow_take (m := m) hr4 (by omega)
          have c5 := ownsRow_take (m := m) hr5 (by omega)
          rw [Nat.mul_one, List.take_left' (by rw [nums_length, lns_length, ← hm])] at c4
          rw [Nat.mul_one, List.take_left' (by rw [bln_length, elz_length, ← hm])] at c5
          have HC4 := Lib.hid c4
          have HC5 := Lib.hid c5
          have z1 : ((m : Int) + 1 == 0) = false := by simp; omega
          have z4 : IntKind.i64.wrap (m : Int) = m := IntWalk.i64_in _ (by omega)
          have z5 : IntKind.i64.wrap ((m : Int) + 1 - 1) = m := by rw [IntWalk.i64_in _ (by omega)]; omega
          have z6 : (m : Int) ≤ cA := by omega
          have z7 : (m : Int) ≤ cE := by omega
          have hT := add_lns f.line k (f.dn.snoc f.b 0 f.cur) (out, st)
          have hT2 : Ct.take k 7 (out, f :: st) = add f.line k (f.dn.snoc f.b 0 f.cur) (out, st) := by simp [Ct.take, begins, parts]
          rw [← hT2] at hT
          have HT := Lib.hid hT
          clear hgo hb hp hm c4 c5 hr4 hr5 hT hT2 k5 k6 k7
          go_wp2_with fail
          refine HBg.out.mono ?_
          rintro e w' ⟨rfl, hw'⟩
          rw [hw']
          clear hw' w'
          go_wp2_with fail
          go_roundw
          case rel =>
            refine ⟨k + 1, Ct.take k 7 (out, f :: st), by go_num, hlt, Hgo.out, ?_, ?_, hB⟩
            · refine ⟨?_, ?_⟩
              · rw [HT.out.1, HT.out.2.2]; rw [← Hm.out]; exact HC4.out
              · rw [HT.out.2.1, HT.out.2.2]; rw [← Hm.out]; exact HC5.out
            · rw [HT.out.2.2, ← Hm.out]; omega
          case measure => simp [intOf]; omega
      · rw [hb] at HBg
        rw [show wrong x st = false by simp [wrong, hp, k7], if_neg (by simp)] at hgo
        have Hgo := Lib.hid hgo
        have hT := add_lns k k nil (out, st)
        have hT2 : Ct.take k x (out, st) = add k k nil (out, st) := by simp [Ct.take, hb, hp, k7]
        rw [← hT2] at hT
        have HT := Lib.hid hT
        have hsh : ∃ a c, u4 = .slice a st.length c := by
          rcases hr4.2 with ⟨h', h0⟩ | ⟨g', cap', cur, h', _⟩
          · exact ⟨none, 0, by rw [h', h0]⟩
          · exact ⟨_, _, h'⟩
        obtain ⟨a4, c4, rfl⟩ := hsh
        have HR4 := Lib.hid hr4
        have HR5 := Lib.hid hr5
        clear hgo hb hp hpl hr4 hr5 hT hT2
        go_wp2_with fail
        refine HBg.out.mono ?_
        rintro e w' ⟨rfl, hw'⟩
        rw [hw']
        clear hw' w'
        go_wp2_with fail
        go_roundw
        case rel =>
          refine ⟨k + 1, Ct.take k x (out, st), by go_num, hlt, Hgo.out, ?_, ?_, hB⟩
          · refine ⟨?_, ?_⟩
            · rw [HT.out.1, HT.out.2.2]; exact HR4.out
            · rw [HT.out.2.1, HT.out.2.2]; exact HR5.out
          · rw [HT.out.2.2]; omega
        case measure => simp [intOf]; omega
    · have : k = n := by omega
      subst this
      rw [List.drop_eq_nil_of_le (by rw [← Hn.out]; exact Nat.le_refl _), Ct.go] at hgo
      have Hgo := Lib.hid (Hr.out _ hgo.symm)
      obtain ⟨out, st⟩ := s
      dsimp only at hr4 hr5 hsl
      cases st with
      | nil =>
        obtain ⟨a4, c4, rfl⟩ : ∃ a c, u4 = .slice a 0 c := by
          rcases hr4.2 with ⟨h', h0⟩ | ⟨g', cap', cur, h', _⟩
          · exact ⟨none, 0, h'⟩
          · exact ⟨_, _, h'⟩
        clear hgo
        go_wp2_with fail
        rw [Hgo.out]
        exact bodyPost_ret (v := .tuple #[.int .i64 0, .int .i64 0]) (by simp [results, Try.results22, go_sem]) rfl ⟨rfl, hB⟩
      | cons f st =>
        rw [List.length_cons, lns_cons, nums_append] at hr4
        rw [List.length_cons] at hsl
        obtain ⟨m, hm⟩ : ∃ m, m = st.length := ⟨_, rfl⟩
        rw [← hm] at hsl hr4
        obtain ⟨gA, cA, rfl, hcA, -, -⟩ := row_form1' hr4
        have hcell : wr.cell? ⟨gA, m, none⟩ = some (.int .i64 f.line) := by
          have := hr4.cells (g := gA) rfl m (.int .i64 f.line) (by rw [List.getElem?_append_right (by rw [nums_length, lns_length, ← hm]; exact Nat.le_refl _), nums_length, lns_length, ← hm, Nat.sub_self]; rfl)
          rwa [add_none, Nat.zero_add] at this
        have z1 : (0 : Int) < (m : Int) + 1 := by omega
        have z4 : IntKind.i64.wrap (m : Int) = m := IntWalk.i64_in _ (by omega)
        have z5 : IntKind.i64.wrap ((m : Int) + 1 - 1) = m := by rw [IntWalk.i64_in _ (by omega)]; omega
        obtain ⟨fl, hfl⟩ : ∃ fl, fl = f.line := ⟨_, rfl⟩
        rw [← hfl] at hcell
        have hfin : (fin (.inr (out, f :: st))).2 = (fl, 51) := by rw [hfl]; rfl
        have HFn := Lib.hid hfin
        clear hgo hfl hfin hm hr4
        go_wp2_with fail
        rw [Hgo.out, HFn.out]
        exact bodyPost_ret (v := .tuple #[.int .i64 fl, .int .i64 51]) (by simp [results, Try.results22, go_sem]) rfl ⟨rfl, hB⟩
end Go.Proofs.Ytjmbchemdcmegaa
