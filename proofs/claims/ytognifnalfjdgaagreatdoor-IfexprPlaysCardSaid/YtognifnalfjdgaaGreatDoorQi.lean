/- What is proved: what the program's Eval tells of any tokens. (and what stands with it) -/
import Derived.Test.YtognifnalfjdgaaGreatDoorQh

/- What is proved: what the program's Eval tells of any tokens. -/
namespace Go.Proofs.YtognifnalfjdgaaGreatDoor
open Go.RowKit Go.Shelf
open Ie (E Rd)

theorem heap_alloc2 (w : World) (o o' : Obj) : ((w.alloc o).alloc o').heap[w.heap.size + 1]? = some o' := by
  have h := heap_alloc_new (w.alloc o) o'
  rw [World.size_alloc] at h
  exact h
theorem Ie.inLine_take (l : List K) (k : Nat) (t : K) (h : l[k]? = some t) : Ie.inLine (l.take (k + 1)) = Ie.inLine (l.take k) ++ if t.kind = 7 then [] else [t] := by
  obtain ⟨hk, e⟩ := List.getElem?_eq_some_iff.1 h
  unfold Ie.inLine
  rw [List.take_succ_eq_append_getElem hk, List.filter_append, e]
  by_cases h7 : t.kind = 7 <;> simp [h7]
theorem Ie.inLine_len (l : List K) : (Ie.inLine l).length ≤ l.length := List.length_filter_le _ _
def LinePost (w : World) (l : List K) (e : Ending) (w' : World) : Prop := ∃ u, e = .returned u ∧ w'.ownsRow w.heap.size 54 6 u (Ie.inLine l).length (ksCells (Ie.inLine l)) ∧ Below w.heap.size w w'
set_option maxRecDepth 100000 in
set_option maxHeartbeats 4000000 in
theorem inLine_any (v : Value) (l : List K) (w : World) (hv : Ks w v l) (hl : l.length ≤ 1000000) : Calls Tryz.prog 44 #[v] w (LinePost w l) := by
  obtain ⟨i0, hi, hz0, hz1, hz2⟩ := info_parts infoTok
  obtain ⟨ad, cap, rfl, h1, h2, -⟩ := id hv
  obtain ⟨n, hn⟩ : ∃ n, n = l.length := ⟨_, rfl⟩
  rw [← hn] at hv h1 hl
  have HV := Lib.hid hv
  have Hn := Lib.hid hn
  rw [← hn]
  clear hv hn h1 h2
  go_enter Tryz.func44, Tryz.ntmps44
  go_wp2_with fail
  go_loopw [3, 8] (fun o a wr => ∃ (k : Nat), a = .int .i64 k ∧ k ≤ n ∧ wr.ownsRow w.heap.size 54 6 o (Ie.inLine (l.take k)).length (ksCells (Ie.inLine (l.take k))) ∧ Below w.heap.size w wr) (fun _ a _ => n - (intOf a).toNat)
  case atStart => exact ⟨0, rfl, Nat.zero_le _, ⟨by simp [Ie.inLine, ksCells], .inl ⟨rfl, by simp [Ie.inLine]⟩⟩, Below.refl _ _⟩
  case round =>
    obtain ⟨k, rfl, hk, hrow, hB⟩ := hrel
    by_cases hlt : k < n
    · obtain ⟨t, ht⟩ : ∃ t, l[k]? = some t := ⟨_, List.getElem?_eq_getElem (by rw [← Hn.out]; exact hlt)⟩
      obtain ⟨g, o, rfl, -, -, -, hg, hc⟩ := (HV.out.below hB).cells (by rw [← Hn.out]; omega)
      obtain ⟨d0, d1, d2, d3, d4, d5⟩ := hc k t ht
      have HT := Lib.hid (Ie.inLine_take l k t ht)
      have hml : (Ie.inLine (l.take k)).length ≤ k := Nat.le_trans (Ie.inLine_len _) (by rw [List.length_take]; omega)
      have HB := Lib.hid hB
      have hbs := hB.size
      obtain ⟨kd, tx, f, fr, en, bl⟩ := t
      dsimp only at d0 d1 d2 d3 d4 d5
      obtain ⟨m, hm⟩ : ∃ m, m = (Ie.inLine (l.take k)).length := ⟨_, rfl⟩
      obtain ⟨cs, hcs⟩ : ∃ cs, cs = ksCells (Ie.inLine (l.take k)) := ⟨_, rfl⟩
      rw [← hm] at hml
      rw [← hcs, ← hm] at hrow
      have HM := Lib.hid hm
      have HCS := Lib.hid hcs
      have HROW := Lib.hid hrow
      clear ht hB hcs hm hc hrow
      have z1 : (0 : Int) ≤ k := by omega
      have z2 : (k : Int) < n := by omega
      by_cases h7 : kd = 7
      · have HT7 := Lib.hid (HT.out.trans (by rw [if_pos h7, List.append_nil]))
        clear HT
        go_wp2_with fail
        go_roundw
        case rel =>
          refine ⟨k + 1, by go_num, by omega, ?_, HB.out.alloc hbs _⟩
          rw [HT7.out, ← HM.out, ← HCS.out]
          exact HROW.out.alloc _
        case measure => simp [intOf]; omega
      · have HT7 := Lib.hid (HT.out.trans (by rw [if_neg h7]))
        clear HT
        go_wp2_with (at_builtin; refine wpList_append_lies _ rfl _ _ 26 rfl w.heap.size 54 i0 _ 6 56 Tryz.underlying26 hi hz0 hz1 hz2 rfl (by decide) _ m cs rfl ((HROW.out.alloc _).alloc _) ⟨wr.heap.size + 1, 0, none⟩ 1 1 (kCells ⟨kd, tx, f, fr, en, bl⟩) rfl rfl (World.news_of_block (cs := #[.int .i64 kd, .string tx, .int .i64 f, .int .i64 fr, .int .i64 en, .bool bl]) (t := 54) (fr := (0, 0)) (heap_alloc2 wr _ _)) (by simp [Value.oneCell', kCells]) (by decide) (by unfold maxLen; omega) (by omega) (by simp; omega) _ rfl ?_; intro gg cap' w2 hown hgrow hat hlt2)
        go_roundw
        case rel =>
          refine ⟨k + 1, by go_num, by omega, ?_, ?_⟩
          · rw [HT7.out, List.length_append, ksCells_append, ← HM.out, ← HCS.out]; exact hown
          · exact ((HB.out.alloc hbs _).alloc (by simp; omega) _).grown hgrow (by simp; omega) (fun i e => (HROW.out.lt i e).1)
        case measure => simp [intOf]; omega
    · obtain rfl : k = n := by omega
      rw [List.take_of_length_le (by rw [← Hn.out]; exact Nat.le_refl _)] at hrow
      have HROW := Lib.hid hrow
      have HB := Lib.hid hB
      clear hrow hB
      go_wp2_with fail
      go_ret
      exact ⟨_, rfl, HROW.out, HB.out⟩

theorem Ks.lv {w W : World} {u : Value} {l : List K} (h : Ks w u l) (hB : Below w.heap.size w W) {R : Nat} (hR : w.heap.size ≤ R) : Lv W R w.heap.size u l := by
  obtain ⟨ad, cap, rfl, h1, h2, h3⟩ := h
  refine ⟨ad, cap, rfl, h1, h2, fun i t ht => ?_⟩
  obtain ⟨g, o, e, c⟩ := h3 i t ht
  have hlt := lt_of_cell c.1
  exact ⟨g, o, e, ⟨by show g ≠ R; have : g < w.heap.size := hlt; omega, hlt⟩, c.below hB hlt⟩
/-- What reading tokens tells. -/
def ReadPost (w : World) (l : List K) (e : Ending) (w' : World) : Prop :=
  ∃ v er, e = .returned (.tuple #[v, .int .i64 er]) ∧ Below w.heap.size w w' ∧
    ((∃ T, Ie.eval l = Ie.comes T ∧ er = 0 ∧ Ex w' (fun g => g < w'.heap.size) T v) ∨ (Ie.eval l = (0, er) ∧ er ≠ 0))
theorem Ie.inLine_tb {l : List K} (h : Tb l) : Tb (Ie.inLine l) := ⟨Nat.le_trans (Ie.inLine_len l) h.1, fun t ht => h.2 t (List.mem_filter.1 ht).1⟩

set_option maxRecDepth 100000 in
set_option maxHeartbeats 4000000 in
theorem iread_any (HN : NumC 13 Ie.number) (HQ : NumC 15 Ie.quote) (v : Value) (l : List K) (w : World) (hG : Gv w) (hv : Ks w v l) (hT : Tb l) : Calls Tryz.prog 23 #[v] w (ReadPost w l) := by
  have K1 := Lib.hid (inLine_any v l w hv hT.1)
  have hr0 : Reads 45 [.int .i64 0] (Ie.expr 61) := (reads_all HN HQ 61 (Nat.le_refl _)).2
  have HR := Lib.hid hr0
  have HG := Lib.hid hG
  have HT := Lib.hid (Ie.inLine_tb hT)
  obtain ⟨m, hm⟩ : ∃ m, m = Ie.inLine l := ⟨_, rfl⟩
  have hev : Ie.eval l = match Ie.expr 61 m with | some (x, []) => if x.isBad then (0, 91) else Ie.comes x | _ => (0, 90) := by rw [hm]; rfl
  unfold LinePost at K1
  rw [← hm] at K1 HT
  have HEV := Lib.hid hev
  clear hG hv hT HN HQ hm hev hr0
  go_enter Tryz.func23, Tryz.ntmps23
  go_wp2_with fail
  refine K1.out.mono ?_
  rintro en w2 ⟨u, rfl, hrow, hB2⟩
  have hks := Ks.of_row hrow
  obtain ⟨uad, ucap, rfl, -⟩ := id hks
  obtain ⟨um, hum⟩ : ∃ um, um = m.length := ⟨_, rfl⟩
  rw [← hum] at hks
  rw [← hum]
  have hB3 : Below w2.heap.size w2 (w2.alloc (.cells #[.slice uad um ucap, .bool false, .int .i64 0] 82)) := Below.alloc (Below.refl _ _) (Nat.le_refl _) _
  have hbx : (w2.alloc (.cells #[.slice uad um ucap, .bool false, .int .i64 0] 82)).heap[w2.heap.size]? = some (.cells #[.slice uad um ucap, .bool false, .int .i64 0] 82 (0, 0)) := heap_alloc_new w2 _
  have hRS : RS (w2.alloc (.cells #[.slice uad um ucap, .bool false, .int .i64 0] 82)) w2.heap.size w2.heap.size m false 0 := ⟨_, hbx, hks.lv hB3 (Nat.le_refl _)⟩
  have hw3 := Below.then hB2 hB3
  have hs2 := hB2.size
  have hp := HG.out.pos
  have K2 := Lib.hid (HR.out w2.heap.size w2.heap.size m false 0 _ (HG.out.later hw3) (by omega) (by simp) hRS (fun h => by cases h) HT.out)
  have HW3 := Lib.hid hw3
  have HB2 := Lib.hid hB2
  clear hrow hB2 hks hum hB3 hbx hRS hw3 HR
  go_wp2_with fail
  refine K2.out.mono ?_
  rintro en w4 ⟨v4, l4, b4, e4, rfl, hF4, ⟨lv4, hbx4, hLv4⟩, hIf4, hsp4⟩
  obtain ⟨c0, c1, c2⟩ := box3v hbx4
  obtain ⟨ad4, cap4, rfl, -, -, -⟩ := hLv4
  have hwB : Below w.heap.size w w4 := by
    have h1 : Below w.heap.size (w2.alloc (.cells #[.slice uad um ucap, .bool false, .int .i64 0] 82)) w4 := hF4.below hs2 (by simp; omega)
    exact HW3.out.trans h1
  have HWB := Lib.hid hwB
  have HF4 := Lib.hid hF4
  have HSP4 := Lib.hid hsp4
  clear hwB hF4 hsp4 hbx4 HW3 K2
  rcases HSP4.out with ⟨T, hT, rfl, rfl, hE⟩ | ⟨hN, rfl, rfl⟩
  · have HHT := Lib.hid hT
    have HE := Lib.hid (show Ex w4 (fun g => g < w4.heap.size) T v4 from hE.keep fun g hg => ⟨hg.2, rfl⟩)
    clear hT hE HSP4
    cases l4 with
    | nil =>
      simp only [List.length_nil] at c0
      have hev : Ie.eval l = if T.isBad then (0, 91) else Ie.comes T := by rw [HEV.out, HHT.out]
      have HEV2 := Lib.hid hev
      obtain ⟨q, hq⟩ : ∃ q, q = T.isBad := ⟨_, rfl⟩
      rw [← hq] at c2 HEV2
      clear hev hq
      cases q with
      | true =>
        have e91 : (if true = true then (91 : Int) else 0) = 91 := rfl
        rw [e91] at c2
        clear e91
        go_wp2_with fail
        go_quiet (fail)
        go_wp2_with fail
        go_ret2
        exact ⟨_, 91, rfl, ⟨HWB.out.os, HWB.out.tape, HWB.out.output, HWB.out.size, HWB.out.block⟩, .inr ⟨HEV2.out, by decide⟩⟩
      | false =>
        have e0 : (if false = true then (91 : Int) else 0) = 0 := rfl
        rw [e0] at c2
        clear e0
        go_wp2_with fail
        go_ret2
        exact ⟨_, 0, rfl, HWB.out, .inl ⟨T, HEV2.out, rfl, HE.out⟩⟩
    | cons t r =>
      obtain ⟨n, hn⟩ : ∃ n, n = r.length := ⟨_, rfl⟩
      simp only [List.length_cons] at c0
      rw [← hn] at c0
      have hev : Ie.eval l = (0, 90) := by rw [HEV.out, HHT.out]
      have HEV2 := Lib.hid hev
      clear hev hn
      have z1 : (0 : Int) < (n : Int) + 1 := by omega
      go_wp2_with fail
      go_ret2
      exact ⟨_, 90, rfl, HWB.out, .inr ⟨HEV2.out, by decide⟩⟩
  · have hev : Ie.eval l = (0, 90) := by rw [HEV.out, hN]
    have HEV2 := Lib.hid hev
    clear hev hN HSP4
    go_wp2_with fail
    go_ret2
    exact ⟨_, 90, rfl, HWB.out, .inr ⟨HEV2.out, by decide⟩⟩

def EvalPost (w : World) (l : List K) (e : Ending) (w' : World) : Prop := e = .returned (.tuple #[.int .i64 (Ie.eval l).1, .int .i64 (Ie.eval l).2]) ∧ Below w.heap.size w w'
set_option maxRecDepth 100000 in
set_option maxHeartbeats 4000000 in
theorem ieval_any (HN : NumC 13 Ie.number) (HQ : NumC 15 Ie.quote) (v : Value) (l : List K) (w : World) (hG : Gv w) (hv : Ks w v l) (hT : Tb l) : Calls Tryz.prog 9 #[v] w (EvalPost w l) := by
  have K1 := Lib.hid (iread_any HN HQ v l w hG hv hT)
  clear hG hv hT HN HQ
  go_enter Tryz.func9, Tryz.ntmps9
  go_wp2_with fail
  refine K1.out.mono ?_
  rintro en w2 ⟨v2, er, rfl, hB2, h⟩
  have HB2 := Lib.hid hB2
  clear hB2
  rcases h with ⟨T, hT, rfl, hE⟩ | ⟨hev, hne⟩
  · obtain ⟨t, p, f, rfl, hn, hm, he, hcl⟩ := val_any hE w2 (Nat.le_refl _) (fun _ _ => rfl)
    have HM := Lib.hid hcl
    have HHT := Lib.hid hT
    clear hcl hT hE
    go_wp2_with fail
    refine HM.out.mono ?_
    rintro e3 w3 ⟨rfl, hB3⟩
    go_wp2_with fail
    go_ret2
    refine ⟨?_, Below.then HB2.out hB3⟩
    rw [HHT.out]
    rfl
  · have HEV := Lib.hid hev
    clear hev
    go_wp2_with fail
    go_ret2
    refine ⟨?_, HB2.out⟩
    rw [HEV.out]
    rfl
end Go.Proofs.YtognifnalfjdgaaGreatDoor

/- What is proved: what the program's Defined tells. -/
namespace Go.Proofs.YtognifnalfjdgaaGreatDoor
open Go.RowKit Go.Shelf

/-- What Defined ends with. -/
def DefPost (S : Option (List K)) (w : World) (e : Ending) (w' : World) : Prop :=
  ∃ v er l', e = .returned (.tuple #[v, .int .i64 er]) ∧ Ks w' v l' ∧ Below w.heap.size w w' ∧ ((S = none ∧ er = 90 ∧ l' = []) ∨ (S = some l' ∧ er = 0))
theorem isDef_yes {t : K} (h1 : t.kind = 1) (h2 : t.text = Ie.DEF) : Ie.isDef t = true := by unfold Ie.isDef; rw [decide_eq_true h1, decide_eq_true h2]; rfl
theorem isDef_no {t : K} (h : ¬ (t.kind = 1 ∧ t.text = Ie.DEF)) : Ie.isDef t = false := by
  unfold Ie.isDef
  rw [Bool.and_eq_false_iff, decide_eq_false_iff_not, decide_eq_false_iff_not]
  by_cases h1 : t.kind = 1
  · exact .inr fun h2 => h ⟨h1, h2⟩
  · exact .inl h1
theorem Ie.defd_no {ns : List ByteArray} {f : Nat} {t : K} {r acc : List K} (h : Ie.isDef t = false) : (Ie.defd ns (f + 1) (t :: r)).map (acc ++ ·) = (Ie.defd ns f r).map ((acc ++ [t]) ++ ·) := by
  show (if Ie.isDef t then _ else (Ie.defd ns f r).map (t :: ·)).map _ = _
  rw [if_neg (by rw [h]; decide), Option.map_map]
  congr 1
  funext x
  simp
theorem Ie.defd_none {ns : List ByteArray} {f : Nat} {t : K} {r acc : List K} (h : Ie.isDef t = true) (hq : Ie.asked r = none) : (Ie.defd ns (f + 1) (t :: r)).map (acc ++ ·) = none := by
  show (if Ie.isDef t then (match Ie.asked r with | none => none | some (x, n) => _) else _).map _ = _
  rw [if_pos h, hq]
  rfl
theorem Ie.defd_yes {ns : List ByteArray} {f n : Nat} {x : ByteArray} {t : K} {r acc : List K} (h : Ie.isDef t = true) (hq : Ie.asked r = some (x, n)) :
    (Ie.defd ns (f + 1) (t :: r)).map (acc ++ ·) = (Ie.defd ns f (r.drop n)).map ((acc ++ [Ie.told ns t x]) ++ ·) := by
  show (if Ie.isDef t then (match Ie.asked r with | none => none | some (x, n) => (Ie.defd ns f (r.drop n)).map (Ie.told ns t x :: ·)) else _).map _ = _
  rw [if_pos h, hq]
  show ((Ie.defd ns f (r.drop n)).map (Ie.told ns t x :: ·)).map _ = _
  rw [Option.map_map]
  congr 1
  funext y
  simp
theorem Ie.defd_end (ns : List ByteArray) (f : Nat) (acc : List K) : (Ie.defd ns f []).map (acc ++ ·) = some acc := by
  cases f <;> simp [Ie.defd]

/-- What holds while tokens are passed. -/
structure DI (w : World) (mb L : Nat) (l : List K) (ns : List ByteArray) (S : Option (List K)) (o : Value) (k : Nat) (acc : List K) (f : Nat) (wr : World) : Prop where
  le : k ≤ L
  nm : Nms wr mb ns
  row : wr.ownsRow (w.heap.size + 1) 54 6 o acc.length (ksCells acc)
  bl : Below w.heap.size w wr
  len : acc.length ≤ k
  fuel : L - k ≤ f
  spec : S = (Ie.defd ns f (l.drop k)).map (acc ++ ·)
theorem DI.add {w wr w2 w3 : World} {mb L k m f' : Nat} {l : List K} {ns : List ByteArray} {S : Option (List K)} {o : Value} {acc : List K} {f : Nat} {t : K} {g cap : Nat}
    (h : DI w mb L l ns S o k acc f wr) (hmb : mb = w.heap.size) (hB : Below wr.heap.size wr w2) (hrow : w3.ownsRow (w.heap.size + 1) 54 6 (.slice (some ⟨g, 0, none⟩) (acc.length + 1) cap) (acc.length + 1) (ksCells acc ++ kCells t))
    (hg : w2.grownBy w3 o.ownBlock) (hk : k < m) (hm : m ≤ L) (hf : L - m ≤ f') (hs : S = (Ie.defd ns f' (l.drop m)).map ((acc ++ [t]) ++ ·)) :
    DI w mb L l ns S (.slice (some ⟨g, 0, none⟩) (acc.length + 1) cap) m (acc ++ [t]) f' w3 := by
  have hne : o.ownBlock ≠ some mb := fun e => by have := (h.row.lt mb e).1; omega
  refine ⟨hm, (h.nm.keep hB).grown hg hne, ?_, ?_, by rw [List.length_append]; have := h.len; simp; omega, hf, hs⟩
  · rw [ksCells_append, List.length_append]
    show w3.ownsRow _ _ _ _ (acc.length + 1) _
    simpa [ksCells] using hrow
  · exact (Below.then h.bl hB).grown hg (by have := h.bl.size; have := hB.size; omega) fun i e => by have := (h.row.lt i e).1; omega

set_option maxRecDepth 100000 in
set_option maxHeartbeats 8000000 in
theorem idef_any (v u : Value) (l : List K) (ns : List ByteArray) (w : World) (hv : Ks w v l) (hT : Tb l) (hu : Sts w u ns) (hn : ns.length ≤ 1000000) (hz : ∀ s ∈ ns, s.size ≤ maxLen) :
    Calls Tryz.prog 17 #[v, u] w (DefPost (Ie.defd ns l.length l) w) := by
  obtain ⟨S, hS⟩ : ∃ S, S = Ie.defd ns l.length l := ⟨_, rfl⟩
  rw [← hS]
  have HS := Lib.hid hS
  obtain ⟨i0, hi, hz0, hz1, hz2⟩ := info_parts infoTok
  obtain ⟨uad, ucap, rfl, uc1, uc2, -⟩ := id hu
  obtain ⟨ad, cap, rfl, lc1, lc2, -⟩ := id hv
  obtain ⟨n, hnn⟩ : ∃ n, n = ns.length := ⟨_, rfl⟩
  obtain ⟨L, hL⟩ : ∃ L, L = l.length := ⟨_, rfl⟩
  have hL1 : L ≤ 1000000 := by rw [hL]; exact hT.1
  rw [← hnn] at hu uc1 hn
  rw [← hL] at hv lc1
  rw [← hnn, ← hL]
  have HU := Lib.hid hu
  have HV := Lib.hid hv
  have HT := Lib.hid hT
  have HZ := Lib.hid hz
  have HN := Lib.hid hnn
  have HL := Lib.hid hL
  unfold maxLen at uc2 lc2
  have hmm := @run_makeMap Tryz.prog
  clear hS hu hv hT hz hnn hL
  go_enter Tryz.func17, Tryz.ntmps17
  go_wp2_with fail
  have hB1 : Below w.heap.size w (w.alloc (.map #[] 0)) := Below.alloc (Below.refl _ _) (Nat.le_refl _) _
  have HB1 := Lib.hid hB1
  have HM1 := Lib.hid (nms_made w)
  clear hB1 hmm
  go_loopw [19] (fun vi wr => ∃ k : Nat, vi = .int .i64 k ∧ k ≤ n ∧ Nms wr w.heap.size (ns.take k) ∧ Below w.heap.size w wr) (fun vi _ => n - (intOf vi).toNat)
  case atStart => exact ⟨0, rfl, Nat.zero_le _, HM1.out, HB1.out⟩
  case round =>
    obtain ⟨k, rfl, hk, hnm, hB⟩ := hrel
    by_cases hlt : k < n
    · obtain ⟨x, hx⟩ : ∃ x, ns[k]? = some x := ⟨_, List.getElem?_eq_getElem (by rw [← HN.out]; exact hlt)⟩
      obtain ⟨ad', cap', e, -, -, h3⟩ := HU.out.below hB
      injection e with e1 e2 e3
      subst e1
      obtain ⟨g, o, rfl, c0⟩ := h3 k x hx
      have hxm := HZ.out x (List.mem_of_getElem? hx)
      obtain ⟨W', r1, hN', hgr⟩ := hnm.put x hxm (by rw [List.length_take]; unfold maxLen; omega)
      have htk : ns.take (k + 1) = ns.take k ++ [x] := by
        obtain ⟨h1, h2⟩ := List.getElem?_eq_some_iff.1 hx
        rw [List.take_succ_eq_append_getElem h1, h2]
      have HTK := Lib.hid htk
      have HN' := Lib.hid hN'
      have HB2 := Lib.hid (hB.grown hgr hB.size (fun i e => by cases e; exact Nat.le_refl _))
      have z1 : (0 : Int) ≤ k := by omega
      have z2 : (k : Int) < n := by omega
      clear hx h3 htk hN' hgr hB hnm hxm e2 e3
      go_wp2_with fail
      go_roundw
      case rel => exact ⟨k + 1, by go_num, by omega, by rw [HTK.out]; exact HN'.out, HB2.out⟩
      case measure => simp [intOf]; omega
    · obtain rfl : k = n := by omega
      rw [List.take_of_length_le (by rw [← HN.out]; exact Nat.le_refl _)] at hnm
      have hdi : DI w w.heap.size L l ns S (.slice none 0 0) 0 [] L wr := ⟨Nat.zero_le _, hnm, ⟨by simp [ksCells], .inl ⟨rfl, rfl⟩⟩, hB, Nat.le_refl _, by omega, by rw [HS.out, ← HL.out]; simp⟩
      have HDI := Lib.hid hdi
      clear hnm hB hdi
      go_wp2_with fail
      go_loopw [9, 10] (fun vo va wr => ∃ o, o = vo ∧ ∃ k acc f, va = .int .i64 (k : Nat) ∧ DI w w.heap.size L l ns S o k acc f wr) (fun _ va _ => L - (intOf va).toNat)
      case atStart => exact ⟨_, rfl, 0, [], L, rfl, HDI.out⟩
      case round =>
        obtain ⟨o, ho, k, acc, f, rfl, hD⟩ := hrel
        subst ho
        by_cases hlt : k < L
        · obtain ⟨t, ht⟩ : ∃ t, l[k]? = some t := ⟨_, List.getElem?_eq_getElem (by rw [← HL.out]; exact hlt)⟩
          obtain ⟨f, rfl⟩ : ∃ f', f = f' + 1 := ⟨f - 1, by have := hD.fuel; omega⟩
          have hdrop : l.drop k = t :: l.drop (k + 1) := by
            obtain ⟨h1, h2⟩ := List.getElem?_eq_some_iff.1 ht
            rw [List.drop_eq_getElem_cons h1, h2]
          obtain ⟨g, og, e, -, -, -, hg, hc⟩ := ((HV.out.below hD.bl)).cells (by rw [← HL.out]; omega)
          subst e
          obtain ⟨d0, d1, d2, d3, d4, d5⟩ := hc k t ht
          have hspec := hD.spec
          rw [hdrop] at hspec
          have HSP := Lib.hid hspec
          have HD := Lib.hid hD
          have HRST := Lib.hid hdrop
          have htm : t ∈ l := List.mem_of_getElem? ht
          have hlen := hD.len
          have hrow := hD.row
          have hbs := hD.bl.size
          obtain ⟨m, hm⟩ : ∃ m, m = acc.length := ⟨_, rfl⟩
          obtain ⟨cs, hcs⟩ : ∃ cs, cs = ksCells acc := ⟨_, rfl⟩
          rw [← hm] at hlen
          rw [← hm, ← hcs] at hrow
          have HM := Lib.hid hm
          have HCS := Lib.hid hcs
          have HROW := Lib.hid hrow
          have z1 : (0 : Int) ≤ k := by omega
          have z2 : (k : Int) < L := by omega
          have HHC := Lib.hid hc
          clear hdrop hspec hD hm hcs hrow ht hc
          by_cases hdf : t.kind = 1 ∧ t.text = Ie.DEF
          · have hisd : Ie.isDef t = true := isDef_yes hdf.1 hdf.2
            obtain ⟨kd, tx, tf, fr, en, bl⟩ := t
            dsimp only at d0 d1 d2 d3 d4 d5 hdf
            have e1 : (tx.toList == [100, 101, 102, 105, 110, 101, 100]) = true := lit_yes hdf.2
            have hkd : kd = 1 := hdf.1
            have HISD := Lib.hid hisd
            clear hdf hisd
            -- what stands behind
            have hal := heap_alloc_new wr (.cells #[.int .i64 kd, .string tx, .int .i64 tf, .int .i64 fr, .int .i64 en, .bool bl] 54)
            obtain ⟨Bx, hBx⟩ : ∃ Bx, Bx = wr.heap.size := ⟨_, rfl⟩
            have hA : Below wr.heap.size wr (wr.alloc (.cells #[.int .i64 kd, .string tx, .int .i64 tf, .int .i64 fr, .int .i64 en, .bool bl] 54)) := Below.alloc (Below.refl _ _) (Nat.le_refl _) _
            have hKs1 := HV.out.below (Below.then HD.out.bl hA)
            rw [← hBx] at hal
            have HAL := Lib.hid hal
            have HA := Lib.hid hA
            have HBX := Lib.hid hBx
            subst hkd
            rcases Decidable.em (k + 1 = cap) with hcap | hcap
            · have hrest : l.drop (k + 1) = [] := List.drop_eq_nil_of_le (by rw [← HL.out]; omega)
              have hS2 : S = none := by
                rw [HSP.out, hrest]
                exact Ie.defd_none HISD.out rfl
              have HS2 := Lib.hid hS2
              have hcapL : cap = L := by omega
              subst hcapL
              have hkc : (k : Int) + 1 = cap := by omega
              have K1 : Hid (Calls Tryz.prog 41 #[.slice (some ⟨g, og, none⟩) 0 0] (wr.alloc (.cells #[.int .i64 1, .string tx, .int .i64 tf, .int .i64 fr, .int .i64 en, .bool bl] 54)) fun e w' => e = .returned (.tuple #[.string ⟨#[]⟩, .int .i64 0]) ∧ Below (wr.alloc (.cells #[.int .i64 1, .string tx, .int .i64 tf, .int .i64 fr, .int .i64 en, .bool bl] 54)).heap.size (wr.alloc (.cells #[.int .i64 1, .string tx, .int .i64 tf, .int .i64 fr, .int .i64 en, .bool bl] 54)) w') :=
                Lib.hid (asked_any (.slice (some ⟨g, og, none⟩) 0 0) [] _ (Ks.none_at _ _ 0 (Nat.zero_le _)))
              clear hrest hS2 hal hBx hA hKs1
              go_wp2_with fail
              refine K1.out.mono ?_
              rintro en3 w3 ⟨rfl, hB3⟩
              go_wp2_with fail
              go_ret2
              exact ⟨_, 90, [], rfl, Ks.none_at _ _ _ (by decide), Below.then (Below.then HD.out.bl HA.out) hB3, .inl ⟨HS2.out, rfl, rfl⟩⟩
            · have hpt := hKs1.part (k + 1) L (by omega) (by rw [← HL.out]; exact Nat.le_refl _)
              rw [List.take_of_length_le (by rw [List.length_drop, ← HL.out]; exact Nat.le_refl _)] at hpt
              have K0 := asked_any _ _ _ hpt
              obtain ⟨r, hr⟩ : ∃ r, r = l.drop (k + 1) := ⟨_, rfl⟩
              rw [← hr] at K0
              have HR := Lib.hid hr
              cases hq : Ie.asked r with
              | none =>
                rw [hq] at K0
                have hS2 : S = none := by
                  rw [HSP.out, ← hr]
                  exact Ie.defd_none HISD.out hq
                have HS2 := Lib.hid hS2
                have K1 : Hid (Calls Tryz.prog 41 #[.slice (some ⟨g, og + (k + 1) * 6, none⟩) (L - (k + 1)) (cap - (k + 1))] (wr.alloc (.cells #[.int .i64 1, .string tx, .int .i64 tf, .int .i64 fr, .int .i64 en, .bool bl] 54)) fun e w' => e = .returned (.tuple #[.string ⟨#[]⟩, .int .i64 0]) ∧ Below (wr.alloc (.cells #[.int .i64 1, .string tx, .int .i64 tf, .int .i64 fr, .int .i64 en, .bool bl] 54)).heap.size (wr.alloc (.cells #[.int .i64 1, .string tx, .int .i64 tf, .int .i64 fr, .int .i64 en, .bool bl] 54)) w') := Lib.hid K0
                clear hS2 hal hBx hA hKs1 hpt K0 hr hq
                go_wp2_with fail
                refine K1.out.mono ?_
                rintro en3 w3 ⟨rfl, hB3⟩
                go_wp2_with fail
                go_ret2
                exact ⟨_, 90, [], rfl, Ks.none_at _ _ _ (by decide), Below.then (Below.then HD.out.bl HA.out) hB3, .inl ⟨HS2.out, rfl, rfl⟩⟩
              | some xn =>
                obtain ⟨x, nn⟩ := xn
                rw [hq] at K0
                obtain ⟨hn0, hn1, hn3⟩ := Ie.asked_len hq
                have hxs : x.size ≤ maxLen := by
                  obtain ⟨y, hy, rfl⟩ := Ie.asked_mem hq
                  have := HT.out.2 y (by rw [hr] at hy; exact List.mem_of_mem_drop hy)
                  unfold maxLen; omega
                have hkn : k + 1 + nn ≤ L := by rw [hr, List.length_drop, ← HL.out] at hn1; omega
                have hS2 : S = (Ie.defd ns f (l.drop (k + 1 + nn))).map ((acc ++ [Ie.told ns ⟨1, tx, tf, fr, en, bl⟩ x]) ++ ·) := by
                  rw [HSP.out, ← hr, Ie.defd_yes HISD.out hq, hr, List.drop_drop]
                have HS2 := Lib.hid hS2
                have K1 : Hid (Calls Tryz.prog 41 #[.slice (some ⟨g, og + (k + 1) * 6, none⟩) (L - (k + 1)) (cap - (k + 1))] (wr.alloc (.cells #[.int .i64 1, .string tx, .int .i64 tf, .int .i64 fr, .int .i64 en, .bool bl] 54)) fun e w' => e = .returned (.tuple #[.string x, .int .i64 nn]) ∧ Below (wr.alloc (.cells #[.int .i64 1, .string tx, .int .i64 tf, .int .i64 fr, .int .i64 en, .bool bl] 54)).heap.size (wr.alloc (.cells #[.int .i64 1, .string tx, .int .i64 tf, .int .i64 fr, .int .i64 en, .bool bl] 54)) w') := Lib.hid K0
                have zn : ¬ ((nn : Int) = 0) := by omega
                have zn0 : (0 : Int) ≤ nn := by omega
                have HXS := Lib.hid hxs
                clear hS2 hBx hKs1 hpt K0 hr hq hn1 hxs hal hA
                go_wp2_with fail
                refine K1.out.mono ?_
                rintro en3 w3 ⟨rfl, hB3⟩
                have hb3 := below_heap hB3 HAL.out
                rw [HBX.out] at hb3
                obtain ⟨b0, b1, -, -, -, -⟩ := box6_cells hb3
                have f0 : w3.frozen? ⟨wr.heap.size, 0, none⟩ = false := Lib.frozen_of_heap hb3 0
                have f1 : w3.frozen? ⟨wr.heap.size, 1, none⟩ = false := Lib.frozen_of_heap hb3 1
                have hB4 : Below wr.heap.size wr ((w3.setCell ⟨wr.heap.size, 0, none⟩ (.int .i64 2)).setCell ⟨wr.heap.size, 1, none⟩ (.string ⟨#[48]⟩)) := ((Below.then HA.out hB3).setCell (Nat.le_refl _) _).setCell (Nat.le_refl _) _
                have hb4 : ((w3.setCell ⟨wr.heap.size, 0, none⟩ (.int .i64 2)).setCell ⟨wr.heap.size, 1, none⟩ (.string ⟨#[48]⟩)).heap[wr.heap.size]? = some (.cells #[.int .i64 2, .string ⟨#[48]⟩, .int .i64 tf, .int .i64 fr, .int .i64 en, .bool bl] 54 (0, 0)) := by
                  simp [World.setCell, Array.getElem?_modify, hb3]
                have hnm4 := HD.out.nm.keep hB4
                have HB4 := Lib.hid hB4
                have HBB4 := Lib.hid hb4
                have HNM4 := Lib.hid hnm4
                clear hB3 hb3 hB4 hb4 hnm4 d0 d1 d2 d3 d4 d5
                go_upto_region 18 with (fail)
                obtain ⟨W4, hW4⟩ : ∃ W4, W4 = ((w3.setCell ⟨wr.heap.size, 0, none⟩ (.int .i64 2)).setCell ⟨wr.heap.size, 1, none⟩ (.string ⟨#[48]⟩)) := ⟨_, rfl⟩
                rw [← hW4] at HB4 HBB4 HNM4
                rw [← hW4]
                clear hW4 f0 f1 b0 b1
                have l1 := HNM4.out.look x HXS.out
                obtain ⟨q, hq⟩ : ∃ q, q = Ie.has ns x := ⟨_, rfl⟩
                rw [← hq] at l1
                have HQ := Lib.hid hq
                have hB5 : Below wr.heap.size wr (W4.alloc (.cells #[] 73)) := HB4.out.alloc HB4.out.size _
                have hb5 : (W4.alloc (.cells #[] 73)).heap[wr.heap.size]? = some (.cells #[.int .i64 2, .string ⟨#[48]⟩, .int .i64 tf, .int .i64 fr, .int .i64 en, .bool bl] 54 (0, 0)) := below_heap (Below.alloc (Below.refl _ _) (Nat.le_refl _) _) HBB4.out
                have f5 : (W4.alloc (.cells #[] 73)).frozen? ⟨wr.heap.size, 1, none⟩ = false := Lib.frozen_of_heap hb5 1
                obtain ⟨-, b1, -, -, -, -⟩ := box6_cells hb5
                have HB5 := Lib.hid hB5
                have HBB5 := Lib.hid hb5
                clear hq hB5 hb5
                cases q with
                | false =>
                  go_upto_region 21 with (fail)
                  have hB6 := HB5.out
                  have hb6 := HBB5.out
                  obtain ⟨W6, hW6⟩ : ∃ W6, W6 = W4.alloc (.cells #[] 73) := ⟨_, rfl⟩
                  rw [← hW6] at hB6 hb6
                  rw [← hW6]
                  clear hW6 b1 f5 l1 HB4 HBB4 HNM4 HB5 HBB5
                  have htold : Ie.told ns ⟨1, tx, tf, fr, en, bl⟩ x = ⟨2, ⟨#[48]⟩, tf, fr, en, bl⟩ := by unfold Ie.told; rw [← HQ.out]; rfl
                  obtain ⟨b0, b1, b2, b3, b4, b5⟩ := box6_cells hb6
                  have hrow6 := row_below HROW.out hB6
                  have h6s := hB6.size
                  have HB6 := Lib.hid hB6
                  have HROW6 := Lib.hid hrow6
                  clear hB6 hb6 hrow6
                  go_wp2_with (at_builtin; refine wpList_append_lies _ rfl _ _ 26 rfl (w.heap.size + 1) 54 i0 _ 6 56 Tryz.underlying26 hi hz0 hz1 hz2 rfl (by decide) o m cs rfl (HROW6.out.alloc _) ⟨W6.heap.size, 0, none⟩ 1 1 (kCells ⟨2, ⟨#[48]⟩, tf, fr, en, bl⟩) rfl rfl (World.news_of_block (cs := #[.int .i64 2, .string ⟨#[48]⟩, .int .i64 tf, .int .i64 fr, .int .i64 en, .bool bl]) (t := 54) (fr := (0, 0)) (heap_alloc_new W6 _)) (by simp [Value.oneCell', kCells]) (by decide) (by unfold maxLen; omega) (by omega) (by simp; omega) _ rfl ?_; intro gg cap' w7 hown7 hgrow hat hlt7)
                  go_roundw
                  case rel =>
                    refine ⟨_, rfl, k + 1 + nn, acc ++ [⟨2, ⟨#[48]⟩, tf, fr, en, bl⟩], f, ?_, ?_⟩
                    · congr 1; omega
                    · have hx := HD.out.add (t := ⟨2, ⟨#[48]⟩, tf, fr, en, bl⟩) (g := gg) (cap := cap') (m := k + 1 + nn) (f' := f) rfl (HB6.out.alloc HB6.out.size (.cells #[.int .i64 2, .string ⟨#[48]⟩, .int .i64 tf, .int .i64 fr, .int .i64 en, .bool bl] 54)) (by rw [← HM.out, ← HCS.out]; exact hown7) hgrow (by omega) hkn (by have := HD.out.fuel; omega) (by rw [← htold]; exact HS2.out)
                      rw [← HM.out] at hx
                      exact hx
                  case measure => simp [intOf]; omega
                | true =>
                  go_upto_region 21 with (fail)
                  have hB6 := HB5.out.setCell (p := ⟨wr.heap.size, 1, none⟩) (Nat.le_refl _) (.string ⟨#[49]⟩)
                  have hb6 : ((W4.alloc (.cells #[] 73)).setCell ⟨wr.heap.size, 1, none⟩ (.string ⟨#[49]⟩)).heap[wr.heap.size]? = some (.cells #[.int .i64 2, .string ⟨#[49]⟩, .int .i64 tf, .int .i64 fr, .int .i64 en, .bool bl] 54 (0, 0)) := by
                    have := HBB5.out
                    simp [World.setCell, Array.getElem?_modify] at this ⊢
                    simp [this]
                  obtain ⟨W6, hW6⟩ : ∃ W6, W6 = (W4.alloc (.cells #[] 73)).setCell ⟨wr.heap.size, 1, none⟩ (.string ⟨#[49]⟩) := ⟨_, rfl⟩
                  rw [← hW6] at hB6 hb6
                  rw [← hW6]
                  clear hW6 b1 f5 l1 HB4 HBB4 HNM4 HB5 HBB5
                  have htold : Ie.told ns ⟨1, tx, tf, fr, en, bl⟩ x = ⟨2, ⟨#[49]⟩, tf, fr, en, bl⟩ := by unfold Ie.told; rw [← HQ.out]; rfl
                  obtain ⟨b0, b1, b2, b3, b4, b5⟩ := box6_cells hb6
                  have hrow6 := row_below HROW.out hB6
                  have h6s := hB6.size
                  have HB6 := Lib.hid hB6
                  have HROW6 := Lib.hid hrow6
                  clear hB6 hb6 hrow6
                  go_wp2_with (at_builtin; refine wpList_append_lies _ rfl _ _ 26 rfl (w.heap.size + 1) 54 i0 _ 6 56 Tryz.underlying26 hi hz0 hz1 hz2 rfl (by decide) o m cs rfl (HROW6.out.alloc _) ⟨W6.heap.size, 0, none⟩ 1 1 (kCells ⟨2, ⟨#[49]⟩, tf, fr, en, bl⟩) rfl rfl (World.news_of_block (cs := #[.int .i64 2, .string ⟨#[49]⟩, .int .i64 tf, .int .i64 fr, .int .i64 en, .bool bl]) (t := 54) (fr := (0, 0)) (heap_alloc_new W6 _)) (by simp [Value.oneCell', kCells]) (by decide) (by unfold maxLen; omega) (by omega) (by simp; omega) _ rfl ?_; intro gg cap' w7 hown7 hgrow hat hlt7)
                  go_roundw
                  case rel =>
                    refine ⟨_, rfl, k + 1 + nn, acc ++ [⟨2, ⟨#[49]⟩, tf, fr, en, bl⟩], f, ?_, ?_⟩
                    · congr 1; omega
                    · have hx := HD.out.add (t := ⟨2, ⟨#[49]⟩, tf, fr, en, bl⟩) (g := gg) (cap := cap') (m := k + 1 + nn) (f' := f) rfl (HB6.out.alloc HB6.out.size (.cells #[.int .i64 2, .string ⟨#[49]⟩, .int .i64 tf, .int .i64 fr, .int .i64 en, .bool bl] 54)) (by rw [← HM.out, ← HCS.out]; exact hown7) hgrow (by omega) hkn (by have := HD.out.fuel; omega) (by rw [← htold]; exact HS2.out)
                      rw [← HM.out] at hx
                      exact hx
                  case measure => simp [intOf]; omega
          · have hisd : Ie.isDef t = false := isDef_no hdf
            have hS2 : S = (Ie.defd ns f (l.drop (k + 1))).map ((acc ++ [t]) ++ ·) := by rw [HSP.out, Ie.defd_no hisd]
            have HS2 := Lib.hid hS2
            have hA : Below wr.heap.size wr (wr.alloc (.cells #[.int .i64 t.kind, .string t.text, .int .i64 t.file, .int .i64 t.fr, .int .i64 t.en, .bool t.bl] 54)) := Below.alloc (Below.refl _ _) (Nat.le_refl _) _
            have hA2 := hA.alloc hA.size (.cells #[.int .i64 t.kind, .string t.text, .int .i64 t.file, .int .i64 t.fr, .int .i64 t.en, .bool t.bl] 54)
            have HA2 := Lib.hid hA2
            have hcases : (t.kind = 1 ∧ ¬ t.text = Ie.DEF) ∨ ¬ t.kind = 1 := by
              by_cases h1 : t.kind = 1
              · exact .inl ⟨h1, fun h2 => hdf ⟨h1, h2⟩⟩
              · exact .inr h1
            obtain ⟨kd, tx, tf, fr, en, bl⟩ := t
            dsimp only at d0 d1 d2 d3 d4 d5 hcases HA2 hA
            clear hisd hS2 hdf hA hA2 htm HRST HSP
            rcases hcases with ⟨hkd, htx⟩ | hkd
            · have e1 : (tx.toList == [100, 101, 102, 105, 110, 101, 100]) = false := lit_no htx
              subst hkd
              clear htx
              go_wp2_with (at_builtin; refine wpList_append_lies _ rfl _ _ 26 rfl (w.heap.size + 1) 54 i0 _ 6 56 Tryz.underlying26 hi hz0 hz1 hz2 rfl (by decide) o m cs rfl ((HROW.out.alloc _).alloc _) ⟨wr.heap.size + 1, 0, none⟩ 1 1 (kCells ⟨1, tx, tf, fr, en, bl⟩) rfl rfl (World.news_of_block (cs := #[.int .i64 1, .string tx, .int .i64 tf, .int .i64 fr, .int .i64 en, .bool bl]) (t := 54) (fr := (0, 0)) (heap_alloc2 wr _ _)) (by simp [Value.oneCell', kCells]) (by decide) (by unfold maxLen; omega) (by omega) (by simp; omega) _ rfl ?_; intro gg cap' w7 hown7 hgrow hat hlt7)
              go_roundw
              case rel =>
                refine ⟨_, rfl, k + 1, acc ++ [⟨1, tx, tf, fr, en, bl⟩], f, by go_num, ?_⟩
                have hx := HD.out.add (t := ⟨1, tx, tf, fr, en, bl⟩) (g := gg) (cap := cap') (m := k + 1) (f' := f) rfl HA2.out (by rw [← HM.out, ← HCS.out]; exact hown7) hgrow (by omega) (by omega) (by have := HD.out.fuel; omega) HS2.out
                rw [← HM.out] at hx
                exact hx
              case measure => simp [intOf]; omega
            · skip
              go_wp2_with (at_builtin; refine wpList_append_lies _ rfl _ _ 26 rfl (w.heap.size + 1) 54 i0 _ 6 56 Tryz.underlying26 hi hz0 hz1 hz2 rfl (by decide) o m cs rfl ((HROW.out.alloc _).alloc _) ⟨wr.heap.size + 1, 0, none⟩ 1 1 (kCells ⟨kd, tx, tf, fr, en, bl⟩) rfl rfl (World.news_of_block (cs := #[.int .i64 kd, .string tx, .int .i64 tf, .int .i64 fr, .int .i64 en, .bool bl]) (t := 54) (fr := (0, 0)) (heap_alloc2 wr _ _)) (by simp [Value.oneCell', kCells]) (by decide) (by unfold maxLen; omega) (by omega) (by simp; omega) _ rfl ?_; intro gg cap' w7 hown7 hgrow hat hlt7)
              go_roundw
              case rel =>
                refine ⟨_, rfl, k + 1, acc ++ [⟨kd, tx, tf, fr, en, bl⟩], f, by go_num, ?_⟩
                have hx := HD.out.add (t := ⟨kd, tx, tf, fr, en, bl⟩) (g := gg) (cap := cap') (m := k + 1) (f' := f) rfl HA2.out (by rw [← HM.out, ← HCS.out]; exact hown7) hgrow (by omega) (by omega) (by have := HD.out.fuel; omega) HS2.out
                rw [← HM.out] at hx
                exact hx
              case measure => simp [intOf]; omega
        · obtain rfl : k = L := by have := hD.le; omega
          have hS2 : S = some acc := by
            rw [hD.spec, List.drop_eq_nil_of_le (by rw [← HL.out]; exact Nat.le_refl _)]
            exact Ie.defd_end ns f acc
          have hKs := Ks.of_row (base := w.heap.size + 1) hD.row
          have HF := Lib.hid (And.intro hKs (And.intro hD.bl hS2))
          clear hD hS2 hKs
          go_wp2_with fail
          go_ret2
          exact ⟨_, 0, acc, rfl, HF.out.1, HF.out.2.1, .inr ⟨HF.out.2.2, rfl⟩⟩
end Go.Proofs.YtognifnalfjdgaaGreatDoor
