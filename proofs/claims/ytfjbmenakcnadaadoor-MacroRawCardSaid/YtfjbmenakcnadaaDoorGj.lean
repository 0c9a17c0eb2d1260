/- What is proved: body reads what is left. (and what stands with it) -/
import Derived.Test.YtfjbmenakcnadaaDoorGi
import Derived.Deep.Onto

/- What is proved: body reads what is left. -/
namespace Go.Proofs.YtfjbmenakcnadaaDoor
open Go.RowKit Go.Shelf Go.WideMaps

namespace Mx
def bodyErr (fn : Bool) (ps : List ByteArray) (va : Bool) (l : List K) : Option Int :=
  if l = [] then none else if pasteBad l then some 63 else if fn && hashBad ps va l then some 64 else if !va && vaIn l then some 65 else none
theorem bodyOf_err (nm : ByteArray) (fn : Bool) (ps : List ByteArray) (va : Bool) (l : List K) :
    bodyOf nm fn ps va l = match bodyErr fn ps va l with | none => (⟨nm, fn, ps, va, bare l⟩, 0) | some e => (.zero, e) := by
  unfold bodyOf bodyErr
  by_cases h : l = []
  · subst h; rfl
  · simp only [h, if_false]
    split
    · rfl
    · split
      · rfl
      · split <;> rfl
def hashHere (ps : List ByteArray) (va : Bool) (t : K) (r : List K) : Bool := isP t HS && !(match r with | [] => false | u :: _ => known ps va u)
theorem hashBad_cons (ps : List ByteArray) (va : Bool) (t : K) (r : List K) : hashBad ps va (t :: r) = (hashHere ps va t r || hashBad ps va r) := by
  cases r with
  | nil => simp [hashBad, hashHere]
  | cons u r => rfl
theorem vaIn_cons (t : K) (r : List K) : vaIn (t :: r) = ((t.kind == 1 && decide (t.text = VA)) || vaIn r) := rfl
theorem paste_two (t : K) (r : List K) (z : K) (hz : (t :: r)[r.length]? = some z) : pasteBad (t :: r) = (isP t HH || isP z HH) := by
  unfold pasteBad
  have : (t :: r).getLast? = some z := by rw [List.getLast?_eq_getElem?]; exact hz
  rw [this]; rfl
end Mx

theorem row_slice {w : World} {base e sz n : Nat} {v : Value} {xs : List Value} (h : w.ownsRow base e sz v n xs) : ∃ a m c, v = .slice a m c := by
  rcases h.2 with ⟨h', _⟩ | ⟨g, cap, cur, h', _⟩
  · exact ⟨_, _, _, h'⟩
  · exact ⟨_, _, _, h'⟩
theorem drop_cons_of {l : List K} {k : Nat} {t : K} (h : l[k]? = some t) : l.drop k = t :: l.drop (k + 1) := by
  obtain ⟨hk, e⟩ := List.getElem?_eq_some_iff.1 h
  rw [← e]; exact List.drop_eq_getElem_cons hk

def BodyPost (base R mb : Nat) (nm : ByteArray) (fn : Bool) (ps : List ByteArray) (va : Bool) (l : List K) (w : World) (res : Option Int) (e : Ending) (w' : World) : Prop :=
  (∃ err, res = some err ∧ e = thrown err ∧ Below base w w') ∨ (res = none ∧ e = .returned (.tuple #[]) ∧ ∃ pv bv lv, Rd w' base R mb nm fn pv ps va bv lv l ∧ w'.ownsRow base 39 6 bv l.length (ksCells (Mx.bare l)) ∧ Below base w w')

set_option maxRecDepth 100000 in
set_option maxHeartbeats 4000000 in
theorem body_any (base R mb : Nat) (nm : ByteArray) (fn : Bool) (pv : Value) (ps : List ByteArray) (va : Bool) (lv : Value) (l : List K) (w : World)
    (h : Rd w base R mb nm fn pv ps va (.slice none 0 0) lv l) (hx : ∀ t ∈ l, t.text.size ≤ maxLen) (hl : l.length * 56 ≤ 140737488355328) :
    Calls Tryd.prog 54 #[.pointer (some ⟨R, 0, none⟩)] w (BodyPost base R mb nm fn ps va l w (Mx.bodyErr fn ps va l)) := by
  obtain ⟨res, hres⟩ : ∃ res, res = Mx.bodyErr fn ps va l := ⟨_, rfl⟩
  rw [← hres]
  have hbR := h.hR
  have c5 := h.c5
  have hRl := h.ltR
  rcases l with _ | ⟨u, r⟩
  · obtain ⟨g, o, cap, rfl, h1, h2, hg, -⟩ := id h.lf
    simp only [List.length_nil] at c5 h1
    go_enter Tryd.func54, Tryd.ntmps54
    go_wp2_with fail
    refine bodyPost_ret (results_none rfl _ _ _) rfl ?_
    exact .inr ⟨hres, rfl, pv, _, _, h, World.ownsRow_nil _ _ _ _, Below.refl _ _⟩
  · obtain ⟨g, o, cap, rfl, hc1, hc2, hg, -⟩ := id h.lf
    have ku := h.tok (i := 0) rfl
    obtain ⟨z, hz⟩ : ∃ z, (u :: r)[r.length]? = some z := ⟨_, List.getElem?_eq_getElem (by simp)⟩
    have kz := h.tok hz
    have hpz := Mx.paste_two u r z hz
    obtain ⟨l, hll⟩ : ∃ l, l = u :: r := ⟨_, rfl⟩
    obtain ⟨m, hm⟩ : ∃ m, m = r.length := ⟨_, rfl⟩
    have hlm : l.length = m + 1 := by rw [hll, hm]; rfl
    have hne : l ≠ [] := by rw [hll]; simp
    rw [← hll] at h hres hx hl hpz hc1 c5 ⊢
    rw [← hm] at kz
    rw [hlm] at c5 hc1 hl
    have HLM := Lib.hid hlm
    have HX := Lib.hid hx
    have HH := Lib.hid h
    have HRES := Lib.hid hres
    have HNE := Lib.hid hne
    have ks1 := msign_any u Mx.HH
    have ks2 := msign_any z Mx.HH
    have hm5 : m * 56 ≤ 140737488355328 := Nat.le_trans (Nat.mul_le_mul_right 56 (Nat.le_succ m)) hl
    have hmb : m ≤ 2513169434917 := by omega
    have HL := Lib.hid hl
    clear hll hm hlm hx h hres hne hz hl hm5
    obtain ⟨a0, a1, a2, a3, a4, a5⟩ := ku
    simp only [Nat.zero_mul, Nat.add_zero] at a0 a1 a2 a3 a4 a5
    have z1 : (0 : Int) ≤ m := by omega
    have z2 : (m : Int) < m + 1 := by omega
    have z4 : IntKind.i64.wrap (m : Int) = m := IntWalk.i64_in _ (by omega)
    have z5 : IntKind.i64.wrap ((m : Int) + 1 - 1) = m := by rw [IntWalk.i64_in _ (by omega)]; omega
    go_enter Tryd.func54, Tryd.ntmps54
    go_wp2_with fail
    have hgl : g < w.heap.size := lt_of_cell a0
    cases hp1 : Mx.isP u Mx.HH with
    | true =>
      rw [hp1] at ks1 hpz
      have HE := Lib.hid (show res = some 63 by rw [HRES.out, Mx.bodyErr, if_neg HNE.out, hpz]; rfl)
      clear hpz
      refine (ks1 _).mono ?_
      rintro e W1 ⟨rfl, hB1⟩
      go_wp2_with fail
      refine (must_no 63 _).mono ?_
      rintro e W2 ⟨rfl, hW⟩
      subst hW
      exact ⟨rfl, .inl ⟨63, HE.out, rfl, hB1.mono HH.out.big⟩⟩
    | false =>
      rw [hp1] at ks1 hpz
      refine (ks1 _).mono ?_
      rintro e W1 ⟨rfl, hB1⟩
      obtain ⟨b0, b1, b2, b3, b4, b5⟩ := kz.kept (hB1.block g hgl)
      have h1 := HH.out.keep hB1
      have hB := hB1.mono HH.out.big
      have c5' := h1.c5
      rw [HLM.out] at c5'
      clear a0 a1 a2 a3 a4 a5 c5 hB1 hp1
      go_wp2_with fail
      cases hp2 : Mx.isP z Mx.HH with
      | true =>
        rw [hp2] at ks2 hpz
        have HE := Lib.hid (show res = some 63 by rw [HRES.out, Mx.bodyErr, if_neg HNE.out, hpz]; rfl)
        clear hpz
        refine (ks2 _).mono ?_
        rintro e W2 ⟨rfl, hB2⟩
        go_wp2_with fail
        refine (must_no 63 _).mono ?_
        rintro e W3 ⟨rfl, hW⟩
        subst hW
        exact ⟨rfl, .inl ⟨63, HE.out, rfl, hB.trans (hB2.mono h1.big)⟩⟩
      | false =>
        rw [hp2] at ks2 hpz
        have HE := Lib.hid (show res = if fn && Mx.hashBad ps va l then some 64 else if !va && Mx.vaIn l then some 65 else none by rw [HRES.out, Mx.bodyErr, if_neg HNE.out, hpz]; rfl)
        clear hpz
        refine (ks2 _).mono ?_
        rintro e W2 ⟨rfl, hB2⟩
        have h2 := h1.keep hB2
        replace hB := hB.trans (hB2.mono h1.big)
        clear hB2 c5' b0 b1 b2 b3 b4 b5 kz hp2
        go_wp2_with fail
        refine (must_ok 63 _).mono ?_
        rintro e W3 ⟨rfl, hW⟩
        subst hW
        have c5' := h2.c5
        rw [HLM.out] at c5'
        have H2 := Lib.hid h2
        clear h1 h2 HH
        go_wp2_with fail
        go_loopw [44] (fun i wr => ∃ k : Nat, i = .int .i64 k ∧ k ≤ m + 1 ∧ Below base w wr ∧ Rd wr base R mb nm fn pv ps va (.slice none 0 0) (.slice (some ⟨g, o, none⟩) l.length cap) l ∧ (fn && Mx.hashBad ps va l) = (fn && Mx.hashBad ps va (l.drop k))) (fun i _ => m + 1 - (intOf i).toNat)
        case atStart => exact ⟨0, rfl, Nat.zero_le _, hB, H2.out, rfl⟩
        case round =>
          obtain ⟨k, rfl, hk, hBr, hr, hrel⟩ := hrel
          have hRl := hr.ltR
          by_cases hlt : k < m + 1
          · obtain ⟨t, ht⟩ : ∃ t, l[k]? = some t := ⟨_, List.getElem?_eq_getElem (by rw [HLM.out]; exact hlt)⟩
            obtain ⟨a0, a1, a2, a3, a4, a5⟩ := hr.tok ht
            have hdr := drop_cons_of ht
            rw [hdr, Mx.hashBad_cons] at hrel
            have hgl' : g < wr.heap.size := lt_of_cell a0
            have y1 : (0 : Int) ≤ k := by omega
            have y2 : (k : Int) < m + 1 := by omega
            have hBx : Below wr.heap.size wr (wr.alloc (.cells #[.int .i64 t.kind, .string t.text, .int .i64 t.file, .int .i64 t.fr, .int .i64 t.en, .bool t.bl] 39)) := (Below.refl _ wr).alloc (Nat.le_refl _) _
            have h3 := hr.keep hBx
            have c1 := hr.c1
            have hBw := hBr.trans (hBx.mono hr.big)
            have HREL := Lib.hid hrel
            clear hrel hdr ht
            cases fn with
            | false =>
              have H3 := Lib.hid h3
              clear h3 hr
              go_wp2_with fail
              go_roundw
              case rel => exact ⟨k + 1, by go_num, by omega, hBw, H3.out, rfl⟩
              case measure => simp [intOf]; omega
            | true =>
              have ms := msign_any t Mx.HS
              cases hs : Mx.isP t Mx.HS with
              | false =>
                rw [hs] at ms
                have HR2 := Lib.hid (show (true && Mx.hashBad ps va l) = (true && Mx.hashBad ps va (l.drop (k + 1))) by rw [HREL.out]; simp [Mx.hashHere, hs])
                have H3 := Lib.hid h3
                clear h3 hr hs
                go_wp2_with fail
                refine (ms _).mono ?_
                rintro e W1 ⟨rfl, hB1⟩
                have h4 := H3.out.keep hB1
                have hB4 := hBw.trans (hB1.mono H3.out.big)
                clear hB1
                go_wp2_with fail
                go_roundw
                case rel => exact ⟨k + 1, by go_num, by omega, hB4, h4, HR2.out⟩
                case measure => simp [intOf]; omega
              | true =>
                rw [hs] at ms
                have H3 := Lib.hid h3
                clear h3 hr
                go_wp2_with fail
                refine (ms _).mono ?_
                rintro e W1 ⟨rfl, hB1⟩
                have h4 := H3.out.keep hB1
                have hB4 := hBw.trans (hB1.mono H3.out.big)
                clear hB1 a0 a1 a2 a3 a4 a5
                by_cases hkm : k < m
                · obtain ⟨x, hx⟩ : ∃ x, l[k + 1]? = some x := ⟨_, List.getElem?_eq_getElem (by rw [HLM.out]; omega)⟩
                  have hHere : Mx.hashHere ps va t (l.drop (k + 1)) = !Mx.known ps va x := by rw [drop_cons_of hx]; simp [Mx.hashHere, hs]
                  obtain ⟨a0, a1, a2, a3, a4, a5⟩ := h4.tok hx
                  have c5k := h4.c5
                  rw [HLM.out] at c5k
                  have y3 : (k : Int) < m := by omega
                  have y4 : IntKind.i64.wrap ((k : Int) + 1) = (k : Int) + 1 := IntWalk.i64_in _ (by omega)
                  have y5 : (0 : Int) ≤ (k : Int) + 1 := by omega
                  have y6 : (k : Int) + 1 < m + 1 := by omega
                  have hxs := HX.out x (List.mem_of_getElem? hx)
                  clear hs hx
                  go_wp2_with fail
                  cases hkn : Mx.known ps va x with
                  | true =>
                    have kn := known_any base R mb nm true pv ps va _ _ l x W1 h4 hxs
                    rw [hkn] at kn
                    have HR2 := Lib.hid (show (true && Mx.hashBad ps va l) = (true && Mx.hashBad ps va (l.drop (k + 1))) by rw [HREL.out, hHere, hkn]; rfl)
                    clear hHere hkn
                    refine kn.mono ?_
                    rintro e W2 ⟨rfl, hB2⟩
                    have h5 := h4.keep hB2
                    have hB5 := hB4.trans (hB2.mono h4.big)
                    clear h4 hB2 hB4
                    go_wp2_with fail
                    refine (must_ok 64 _).mono ?_
                    rintro e W3 ⟨rfl, hW⟩
                    subst hW
                    go_wp2_with fail
                    go_roundw
                    case rel => exact ⟨k + 1, by go_num, by omega, hB5, h5, HR2.out⟩
                    case measure => simp [intOf]; omega
                  | false =>
                    have kn := known_any base R mb nm true pv ps va _ _ l x W1 h4 hxs
                    rw [hkn] at kn
                    have hbad : (true && Mx.hashBad ps va l) = true := by rw [HREL.out, hHere, hkn]; rfl
                    have HR2 := Lib.hid (show res = some 64 by rw [HE.out, hbad]; rfl)
                    clear hHere hkn hbad
                    refine kn.mono ?_
                    rintro e W2 ⟨rfl, hB2⟩
                    have hB5 := hB4.trans (hB2.mono h4.big)
                    clear h4 hB2 hB4
                    go_wp2_with fail
                    refine (must_no 64 _).mono ?_
                    rintro e W3 ⟨rfl, hW⟩
                    subst hW
                    exact ⟨rfl, .inl ⟨64, HR2.out, rfl, hB5⟩⟩
                · have hHere : Mx.hashHere ps va t (l.drop (k + 1)) = true := by rw [List.drop_eq_nil_of_le (by rw [HLM.out]; omega)]; simp [Mx.hashHere, hs]
                  have hbad : (true && Mx.hashBad ps va l) = true := by rw [HREL.out, hHere]; rfl
                  have HR2 := Lib.hid (show res = some 64 by rw [HE.out, hbad]; rfl)
                  have y3 : ¬ (k : Int) < m := by omega
                  clear hHere hbad hs
                  go_wp2_with fail
                  refine (must_no 64 _).mono ?_
                  rintro e W3 ⟨rfl, hW⟩
                  subst hW
                  exact ⟨rfl, .inl ⟨64, HR2.out, rfl, hB4⟩⟩
          · have hbad : (fn && Mx.hashBad ps va l) = false := by rw [hrel, List.drop_eq_nil_of_le (by rw [HLM.out]; omega)]; cases fn <;> rfl
            have HE2 := Lib.hid (show res = if !va && Mx.vaIn l then some 65 else none by rw [HE.out, hbad]; rfl)
            have c5k := hr.c5
            rw [HLM.out] at c5k
            have y3 : ¬ (k : Int) < m + 1 := by omega
            have HR := Lib.hid hr
            clear hbad hrel hr
            go_wp2_with fail
            obtain ⟨V, hV⟩ : ∃ V, V = wr := ⟨_, rfl⟩
            rw [← hV] at hBr HR ⊢
            clear hV c5k hRl
            go_loopw [80] (fun i wr => ∃ k : Nat, i = .int .i64 k ∧ k ≤ m + 1 ∧ Below base w wr ∧ Rd wr base R mb nm fn pv ps va (.slice none 0 0) (.slice (some ⟨g, o, none⟩) l.length cap) l ∧ (!va && Mx.vaIn l) = (!va && Mx.vaIn (l.drop k))) (fun i _ => m + 1 - (intOf i).toNat)
            case atStart => exact ⟨0, rfl, Nat.zero_le _, hBr, HR.out, rfl⟩
            case round =>
              obtain ⟨k2, rfl, hk2, hBr2, hr2, hrel2⟩ := hrel
              have hRl := hr2.ltR
              by_cases hlt : k2 < m + 1
              · obtain ⟨t, ht⟩ : ∃ t, l[k2]? = some t := ⟨_, List.getElem?_eq_getElem (by rw [HLM.out]; exact hlt)⟩
                obtain ⟨a0, a1, a2, a3, a4, a5⟩ := hr2.tok ht
                have hdr := drop_cons_of ht
                rw [hdr, Mx.vaIn_cons] at hrel2
                have hgl' : g < wr.heap.size := lt_of_cell a0
                have y1 : (0 : Int) ≤ k2 := by omega
                have y2 : (k2 : Int) < m + 1 := by omega
                have hBx : Below wr.heap.size wr (wr.alloc (.cells #[.int .i64 t.kind, .string t.text, .int .i64 t.file, .int .i64 t.fr, .int .i64 t.en, .bool t.bl] 39)) := (Below.refl _ wr).alloc (Nat.le_refl _) _
                have h3 := hr2.keep hBx
                have c3 := hr2.c3
                have hBw := hBr2.trans (hBx.mono hr2.big)
                have HREL := Lib.hid hrel2
                have H3 := Lib.hid h3
                clear hrel2 hdr ht h3 hr2
                cases va with
                | true =>
                  go_wp2_with fail
                  refine (must_ok 65 _).mono ?_
                  rintro e W3 ⟨rfl, hW⟩
                  subst hW
                  go_wp2_with fail
                  go_roundw
                  case rel => exact ⟨k2 + 1, by go_num, by omega, hBw, H3.out, rfl⟩
                  case measure => simp [intOf]; omega
                | false =>
                  obtain ⟨kd, tx, tf, tfr, ten, tbl⟩ := t
                  dsimp only at a0 a1 a2 a3 a4 a5 hBx hBw H3 HREL
                  by_cases hkd : kd = 1
                  · subst hkd
                    by_cases hv : tx = Mx.VA
                    · have t2 : (tx.toList == [95, 95, 86, 65, 95, 65, 82, 71, 83, 95, 95]) = true := lit_yes hv
                      have hbad : (!false && Mx.vaIn l) = true := by rw [HREL.out]; simp [hv]
                      have HR2 := Lib.hid (show res = some 65 by rw [HE2.out, hbad]; rfl)
                      clear hv hbad
                      go_wp2_with fail
                      refine (must_no 65 _).mono ?_
                      rintro e W3 ⟨rfl, hW⟩
                      subst hW
                      exact ⟨rfl, .inl ⟨65, HR2.out, rfl, hBw⟩⟩
                    · have t2 : (tx.toList == [95, 95, 86, 65, 95, 65, 82, 71, 83, 95, 95]) = false := lit_no hv
                      have HR2 := Lib.hid (show (!false && Mx.vaIn l) = (!false && Mx.vaIn (l.drop (k2 + 1))) by rw [HREL.out]; simp [hv])
                      clear hv
                      go_wp2_with fail
                      refine (must_ok 65 _).mono ?_
                      rintro e W3 ⟨rfl, hW⟩
                      subst hW
                      go_wp2_with fail
                      go_roundw
                      case rel => exact ⟨k2 + 1, by go_num, by omega, hBw, H3.out, HR2.out⟩
                      case measure => simp [intOf]; omega
                  · have HR2 := Lib.hid (show (!false && Mx.vaIn l) = (!false && Mx.vaIn (l.drop (k2 + 1))) by rw [HREL.out]; simp [hkd])
                    have t3 : (kd == 1) = false := by simpa using hkd
                    have t4 : (kd != 1) = true := by simpa using hkd
                    clear hkd
                    go_wp2_with fail
                    refine (must_ok 65 _).mono ?_
                    rintro e W3 ⟨rfl, hW⟩
                    subst hW
                    go_wp2_with fail
                    go_roundw
                    case rel => exact ⟨k2 + 1, by go_num, by omega, hBw, H3.out, HR2.out⟩
                    case measure => simp [intOf]; omega
              · have hbad : (!va && Mx.vaIn l) = false := by rw [hrel2, List.drop_eq_nil_of_le (by rw [HLM.out]; omega)]; cases va <;> rfl
                have HE3 := Lib.hid (show res = none by rw [HE2.out, hbad]; rfl)
                have c5k := hr2.c5
                have y4 : ¬ (k2 : Int) < m + 1 := by omega
                have f4 := hr2.froz 4
                have c4 := hr2.c4
                rw [HLM.out] at c5k
                have HR2 := Lib.hid hr2
                clear hbad hrel2 hr2
                go_wp2_with fail
                refine (bare_any _ l _ (by rw [← HLM.out]; exact HR2.out.lf.ks) (by rw [HLM.out]; exact HL.out)).mono ?_
                rintro e W4 ⟨bv, rfl, hrow, hB4⟩
                obtain ⟨ab, nb, cb, rfl⟩ := row_slice hrow
                have h5 := HR2.out.keep hB4
                have f4' := h5.froz 4
                have c4' := h5.c4
                have hRl4 := h5.ltR
                have hne : (Value.slice ab nb cb).ownBlock ≠ some R := fun e => by have := (hrow.lt R e).1; omega
                have hrow2 := ownsRow_setCell_other hrow (a := ⟨R, 4, none⟩) hne (.slice ab nb cb)
                have h6 := h5.setBody (.slice ab nb cb)
                have hB6 := (hBr2.trans (hB4.mono HR2.out.big)).setCell (p := ⟨R, 4, none⟩) hbR (.slice ab nb cb)
                have H6 := Lib.hid h6
                have HB6 := Lib.hid hB6
                have HROW := Lib.hid (hrow2.mono HR2.out.big)
                clear h6 hB6 hrow hrow2 h5 hB4 f4 c4 c5k
                go_wp2_with fail
                go_end0
                exact .inr ⟨HE3.out, rfl, pv, _, _, H6.out, HROW.out, HB6.out⟩
end Go.Proofs.YtfjbmenakcnadaaDoor

/- What is proved: what read tells, or throws. -/
namespace Go.Proofs.YtfjbmenakcnadaaDoor
open Go.RowKit Go.Shelf Go.WideMaps

/-- A macro in memory of its own. -/
def Mac (W : World) (base : Nat) (v : Value) (m : Mx.M) : Prop :=
  ∃ pv bv, v = .agg #[.string m.name, .bool m.fn, pv, .bool m.va, bv] ∧ W.ownsRow base 9 1 pv m.ps.length (strCells m.ps) ∧ W.ownsRow base 39 6 bv m.body.length (ksCells m.body)

theorem plist_suffix (n : Nat) : ∀ (l : List K) (ps : List ByteArray) (res : List ByteArray × Bool × List K), l.length ≤ n → Mx.plist ps l = some res → res.2.2 <:+ l := by
  induction n with
  | zero =>
    intro l ps res hl h
    rw [List.length_eq_zero_iff.1 (Nat.le_zero.1 hl)] at h
    cases h
  | succ n ih =>
    intro l ps res hl h
    rcases l with _ | ⟨a, _ | ⟨b, r⟩⟩
    · cases h
    · cases h
    · rw [plist_two] at h
      split at h
      · split at h
        · obtain rfl := Option.some.inj h
          exact ⟨[a, b], rfl⟩
        · split at h
          · obtain ⟨pre, hp⟩ := ih r _ res (by simp only [List.length_cons] at hl; omega) h
            exact ⟨a :: b :: pre, by rw [← hp]; rfl⟩
          · cases h
      · cases h
theorem brack_suffix {r : List K} {fn va : Bool} {ps : List ByteArray} {l : List K} (h : Mx.brack r = .ok (fn, ps, va, l)) : l <:+ r := by
  unfold Mx.brack at h
  split at h
  · simp only [Except.ok.injEq, Prod.mk.injEq] at h
    rw [← h.2.2.2]
    exact List.suffix_refl _
  · rename_i u r
    split at h
    · simp only [Except.ok.injEq, Prod.mk.injEq] at h
      rw [← h.2.2.2]
      exact List.suffix_refl _
    · split at h
      · split at h
        · cases h
        · rename_i c r
          split at h
          · simp only [Except.ok.injEq, Prod.mk.injEq] at h
            rw [← h.2.2.2]
            exact ⟨[u, c], rfl⟩
          · split at h
            · cases h
            · rename_i ps' va' l' he
              simp only [Except.ok.injEq, Prod.mk.injEq] at h
              have := plist_suffix _ _ _ _ (Nat.le_refl _) he
              rw [← h.2.2.2]
              obtain ⟨pre, hp⟩ := this
              exact ⟨u :: pre, by rw [← hp]; rfl⟩
      · cases h

theorem brack_err {r : List K} {err : Int} (h : Mx.brack r = .error err) : err ≠ 0 := by
  unfold Mx.brack at h
  split at h
  · cases h
  · split at h
    · cases h
    · split at h
      · split at h
        · injection h with h; omega
        · split at h
          · cases h
          · split at h
            · injection h with h; omega
            · cases h
      · injection h with h; omega
theorem bodyErr_err {fn va : Bool} {ps : List ByteArray} {l : List K} {err : Int} (h : Mx.bodyErr fn ps va l = some err) : err ≠ 0 := by
  unfold Mx.bodyErr at h
  split at h
  · cases h
  · split at h
    · injection h with h; omega
    · split at h
      · injection h with h; omega
      · split at h
        · injection h with h; omega
        · cases h

theorem defi_err {t : K} {r : List K} {err : Int} (h : Mx.nameOk t = true) (hb : Mx.brack r = .error err) : Mx.defi (t :: r) = (.zero, err) := by
  simp [Mx.defi, h, hb]
theorem defi_ok {t : K} {r b : List K} {fn va : Bool} {ps : List ByteArray} (h : Mx.nameOk t = true) (hb : Mx.brack r = .ok (fn, ps, va, b)) : Mx.defi (t :: r) = Mx.bodyOf t.text fn ps va b := by
  simp [Mx.defi, h, hb]

def ReadPost (w : World) (res : Mx.M × Int) (e : Ending) (w' : World) : Prop :=
  Below w.heap.size w w' ∧ ((res.2 ≠ 0 ∧ e = thrown res.2) ∨ (res.2 = 0 ∧ ∃ v, e = .returned v ∧ Mac w' w.heap.size v res.1))

theorem mapOf_made (w : World) : MapOf (w.alloc (.map #[] 0)) w.heap.size [] false :=
  ⟨0, _, World.ownsMap_made w _ _ _, by simp, fun x _ => rfl⟩

set_option maxRecDepth 100000 in
set_option maxHeartbeats 4000000 in
theorem read_any (v : Value) (l : List K) (w : World) (hv : Ks w v l) (hx : ∀ t ∈ l, t.text.size ≤ maxLen) (hl : l.length * 56 ≤ 140737488355328) :
    Calls Tryd.prog 32 #[v] w (ReadPost w (Mx.defi l)) := by
  obtain ⟨ad, cap, rfl, hc1, hc2, hc3⟩ := id hv
  have hmm := @run_makeMap Tryd.prog
  obtain ⟨res, hres⟩ : ∃ res, res = Mx.defi l := ⟨_, rfl⟩
  rw [← hres]
  have HRES := Lib.hid hres
  have HV := Lib.hid hv
  have HX := Lib.hid hx
  have HL := Lib.hid hl
  have HC3 := Lib.hid hc3
  obtain ⟨n, hn⟩ : ∃ n, n = l.length := ⟨_, rfl⟩
  rw [← hn] at hc1 ⊢
  have HN := Lib.hid hn
  clear hres hv hx hl hc3 hn
  go_enter Tryd.func32, Tryd.ntmps32
  go_wp2_with fail
  have hkR := heap_alloc_new ((w.alloc (.cells #[.string ⟨#[]⟩, .bool false, .slice none 0 0, .bool false, .slice none 0 0] 26)).alloc (.map #[] 0)) (.cells #[.string ⟨#[]⟩, .bool false, .slice none 0 0, .bool false, .slice none 0 0, .slice ad n cap, .map (some (w.heap.size + 1))] 72)
  simp only [World.size_alloc] at hkR
  rcases l with _ | ⟨t, r⟩
  · obtain rfl : n = 0 := HN.out
    refine (name_nil w.heap.size (w.heap.size + 1 + 1) ad cap _ ?c5).mono ?_
    case c5 => exact (Lib.cell_of_heap hkR 5).trans rfl
    rintro e W1 ⟨rfl, hB1⟩
    exact ⟨rfl, Below.trans ((((Below.refl _ w).alloc (Nat.le_refl _) _).alloc (by simp) _).alloc (by simp; omega) _) hB1, .inl ⟨by rw [HRES.out]; decide, by rw [HRES.out]; rfl⟩⟩
  · have hB0 : Below w.heap.size w (((w.alloc (.cells #[.string ⟨#[]⟩, .bool false, .slice none 0 0, .bool false, .slice none 0 0] 26)).alloc (.map #[] 0)).alloc (.cells #[.string ⟨#[]⟩, .bool false, .slice none 0 0, .bool false, .slice none 0 0, .slice ad n cap, .map (some (w.heap.size + 1))] 72)) := (((Below.refl _ w).alloc (Nat.le_refl _) _).alloc (by simp) _).alloc (by simp; omega) _
    have hk0 := heap_alloc_new w (.cells #[.string ⟨#[]⟩, .bool false, .slice none 0 0, .bool false, .slice none 0 0] 26)
    replace hk0 := (Below.heap_alloc _ (.map #[] 0) _ (lt_of_block hk0)).trans hk0
    replace hk0 := (Below.heap_alloc _ (.cells #[.string ⟨#[]⟩, .bool false, .slice none 0 0, .bool false, .slice none 0 0, .slice ad n cap, .map (some (w.heap.size + 1))] 72) _ (lt_of_block hk0)).trans hk0
    have hmp := mapOf_made (w.alloc (.cells #[.string ⟨#[]⟩, .bool false, .slice none 0 0, .bool false, .slice none 0 0] 26))
    replace hmp := hmp.keep (World.grownBy_alloc _ (.cells #[.string ⟨#[]⟩, .bool false, .slice none 0 0, .bool false, .slice none 0 0, .slice ad n cap, .map (some (w.heap.size + 1))] 72) none)
    simp only [World.size_alloc] at hmp
    obtain ⟨g0, o0, rfl, -, -, -, hg0, hcs⟩ := HV.out.cells (by simp)
    have hRd : Rd _ (w.heap.size + 1) (w.heap.size + 1 + 1) (w.heap.size + 1) ⟨#[]⟩ false (.slice none 0 0) [] false (.slice none 0 0) (.slice (some ⟨g0, o0, none⟩) n cap) (t :: r) :=
      ⟨hkR, by omega, by omega, World.ownsRow_nil _ _ _ _, by simp [Value.ownBlock], by simp [Value.ownBlock], by omega, hmp, ⟨g0, o0, cap, by rw [HN.out], by rw [← HN.out]; exact hc1, hc2, by omega, fun i x hx => (hcs i x hx).below hB0 hg0⟩⟩
    have hB0' := hB0.mono (Nat.le_refl _)
    generalize ((w.alloc (.cells #[.string ⟨#[]⟩, .bool false, .slice none 0 0, .bool false, .slice none 0 0] 26)).alloc (.map #[] 0)).alloc (.cells #[.string ⟨#[]⟩, .bool false, .slice none 0 0, .bool false, .slice none 0 0, .slice (some ⟨g0, o0, none⟩) n cap, .map (some (w.heap.size + 1))] 72) = W0 at hB0 hk0 hRd ⊢
    have hsz : w.heap.size + 1 ≤ W0.heap.size := hRd.big
    have hblk : ∀ W1, Below (w.heap.size + 1) W0 W1 → Below w.heap.size w W1 := fun W1 h => hB0.trans (h.mono (Nat.le_succ _))
    have HBLK := Lib.hid hblk
    have HK0 := Lib.hid hk0
    have hxr : ∀ x ∈ r, x.text.size ≤ maxLen := fun x h => HX.out x (by simp [h])
    have hlr : r.length * 56 ≤ 140737488355328 := by have := HL.out; simp only [List.length_cons] at this; omega
    have HXR := Lib.hid hxr
    have HLR := Lib.hid hlr
    clear hkR hmp hcs hB0 hB0' hmm hsz hblk hk0 hxr hlr
    cases hno : Mx.nameOk t with
    | false =>
      have HE := Lib.hid (show res = (.zero, 60) by rw [HRES.out]; simp [Mx.defi, hno])
      refine (name_bad _ _ _ _ _ _ _ _ _ _ t r _ hRd hno).mono ?_
      rintro e W1 ⟨rfl, hB1⟩
      exact ⟨rfl, HBLK.out _ hB1, .inl ⟨by rw [HE.out]; decide, by rw [HE.out]; rfl⟩⟩
    | true =>
      refine (name_ok _ _ _ _ _ _ _ _ _ _ t r _ hRd hno).mono ?_
      rintro e W1 ⟨rfl, lv1, h1, hB1⟩
      have H1 := Lib.hid h1
      have HNO := Lib.hid hno
      clear hno hRd h1
      go_wp2_with fail
      refine (brackets_any _ _ _ _ _ _ _ r _ H1.out HXR.out HLR.out).mono ?_
      rintro e W2 (⟨err, he, rfl, hB2⟩ | ⟨fn, ps, va, b, he, rfl, pv2, lv2, h2, hB2⟩)
      · have HE := Lib.hid (show res = (.zero, err) by rw [HRES.out, defi_err HNO.out he])
        refine ⟨rfl, HBLK.out _ (hB1.trans hB2), .inl ⟨?_, by rw [HE.out]; rfl⟩⟩
        rw [HE.out]
        exact brack_err he
      · have HE := Lib.hid (show res = Mx.bodyOf t.text fn ps va b by rw [HRES.out, defi_ok HNO.out he])
        have hsuf := brack_suffix he
        have hxb : ∀ x ∈ b, x.text.size ≤ maxLen := fun x h => HXR.out x (hsuf.mem h)
        have hlb : b.length * 56 ≤ 140737488355328 := Nat.le_trans (Nat.mul_le_mul_right 56 hsuf.length_le) HLR.out
        have H2 := Lib.hid h2
        have HXB := Lib.hid hxb
        have HLB := Lib.hid hlb
        have HB := Lib.hid (hB1.trans hB2)
        clear he hsuf hxb hlb h2 hB1 hB2
        go_wp2_with fail
        refine (body_any _ _ _ _ fn pv2 ps va lv2 b _ H2.out HXB.out HLB.out).mono ?_
        rintro e W3 (⟨err, he, rfl, hB3⟩ | ⟨he, rfl, pv3, bv3, lv3, h3, hrow, hB3⟩)
        · have HE2 := Lib.hid (show res = (.zero, err) by rw [HE.out, Mx.bodyOf_err, he])
          refine ⟨rfl, HBLK.out _ (HB.out.trans hB3), .inl ⟨?_, by rw [HE2.out]; rfl⟩⟩
          rw [HE2.out]
          exact bodyErr_err he
        · have HE2 := Lib.hid (show res = (⟨t.text, fn, ps, va, Mx.bare b⟩, 0) by rw [HE.out, Mx.bodyOf_err, he])
          have hBf := HBLK.out _ (HB.out.trans hB3)
          have hkr := ((HB.out.trans hB3).block w.heap.size (by omega)).trans HK0.out
          have d0 := h3.c0
          have d1 := h3.c1
          have d2 := h3.c2
          have d3 := h3.c3
          have d4 := h3.c4
          have hRl := h3.ltR
          have r0 := (Lib.cell_of_heap hkr 0).trans rfl
          have r1 := (Lib.cell_of_heap hkr 1).trans rfl
          have r2 := (Lib.cell_of_heap hkr 2).trans rfl
          have r3 := (Lib.cell_of_heap hkr 3).trans rfl
          have r4 := (Lib.cell_of_heap hkr 4).trans rfl
          have hwl := lt_of_block hkr
          have q0 : ∀ i, W3.frozen? ⟨w.heap.size, i, none⟩ = false := fun i => by simp [World.frozen?, hkr]
          obtain ⟨pa, pn, pc, rfl⟩ := row_slice h3.prow
          obtain ⟨ba, bn, bc, rfl⟩ := row_slice hrow
          have hpn : ∀ i u, ((W3.setCell ⟨w.heap.size, i, none⟩ u)).heap.size = W3.heap.size := fun i u => by simp
          go_wp2_with fail
          have hfin : (((((W3.setCell ⟨w.heap.size, 0, none⟩ (.string t.text)).setCell ⟨w.heap.size, 1, none⟩ (.bool fn)).setCell ⟨w.heap.size, 2, none⟩ (.slice pa pn pc)).setCell ⟨w.heap.size, 3, none⟩ (.bool va)).setCell ⟨w.heap.size, 4, none⟩ (.slice ba bn bc)).heap[w.heap.size]? = some (.cells #[.string t.text, .bool fn, .slice pa pn pc, .bool va, .slice ba bn bc] 26 (0, 0)) := by
            simp [World.setCell, Array.getElem?_modify, hkr]
          have s0 := (Lib.cell_of_heap hfin 0).trans rfl
          have s1 := (Lib.cell_of_heap hfin 1).trans rfl
          have s2 := (Lib.cell_of_heap hfin 2).trans rfl
          have s3 := (Lib.cell_of_heap hfin 3).trans rfl
          have s4 := (Lib.cell_of_heap hfin 4).trans rfl
          generalize hW5 : ((((W3.setCell ⟨w.heap.size, 0, none⟩ (.string t.text)).setCell ⟨w.heap.size, 1, none⟩ (.bool fn)).setCell ⟨w.heap.size, 2, none⟩ (.slice pa pn pc)).setCell ⟨w.heap.size, 3, none⟩ (.bool va)).setCell ⟨w.heap.size, 4, none⟩ (.slice ba bn bc) = W5 at hfin s0 s1 s2 s3 s4 ⊢
          refine bodyPost_ret (v := .agg #[.string t.text, .bool fn, .slice pa pn pc, .bool va, .slice ba bn bc]) (by simp [results, Tryd.results32, go_sem, s0, s1, s2, s3, s4]) rfl ?_
          subst hW5
          have hset : ∀ W : World, W.ownsRow (w.heap.size + 1) 9 1 (.slice pa pn pc) ps.length (strCells ps) → W.ownsRow (w.heap.size + 1) 39 6 (.slice ba bn bc) b.length (ksCells (Mx.bare b)) → Below w.heap.size w W → ∀ i u, (W.setCell ⟨w.heap.size, i, none⟩ u).ownsRow (w.heap.size + 1) 9 1 (.slice pa pn pc) ps.length (strCells ps) ∧ (W.setCell ⟨w.heap.size, i, none⟩ u).ownsRow (w.heap.size + 1) 39 6 (.slice ba bn bc) b.length (ksCells (Mx.bare b)) ∧ Below w.heap.size w (W.setCell ⟨w.heap.size, i, none⟩ u) :=
            fun W h1 h2 h3 i u => ⟨ownsRow_setCell_below h1 (by simp) u, ownsRow_setCell_below h2 (by simp) u, h3.setCell (Nat.le_refl _) u⟩
          obtain ⟨x1, x2, x3⟩ := hset _ h3.prow hrow hBf 0 (.string t.text)
          obtain ⟨x1, x2, x3⟩ := hset _ x1 x2 x3 1 (.bool fn)
          obtain ⟨x1, x2, x3⟩ := hset _ x1 x2 x3 2 (.slice pa pn pc)
          obtain ⟨x1, x2, x3⟩ := hset _ x1 x2 x3 3 (.bool va)
          obtain ⟨x1, x2, x3⟩ := hset _ x1 x2 x3 4 (.slice ba bn bc)
          refine ⟨x3, .inr ⟨by rw [HE2.out], _, rfl, ?_⟩⟩
          rw [HE2.out]
          exact ⟨_, _, rfl, x1.mono (Nat.le_succ _), by rw [bare_len]; exact x2.mono (Nat.le_succ _)⟩
end Go.Proofs.YtfjbmenakcnadaaDoor

/- What is proved: what Define tells of any tokens. -/
namespace Go.Proofs.YtfjbmenakcnadaaDoor
open Go.RowKit Go.Shelf Go.WideMaps

theorem catch_idle (p : Addr) (w : World) :
    CallsD Tryd.prog 31 #[.pointer (some p)] .returning w fun e u' w' => e = .returned (.tuple #[]) ∧ u' = .returning ∧ w' = w := by
  refine callsD_of_wpS Tryd.func31 rfl fun c₀ cs hu => ?_
  apply wpS_seq
  apply wpS_region
  simp [wpOpsS, go_sem, recoverD, hu, Tryd.ntmps31, Exit.thenS]
  refine wpS_of_wp ?_
  have q : ∀ w : World, (binOp .eql 20 .nilIface .nilIface).run Tryd.prog w = .ok (.bool true) w := fun _ => by kernel_rfl
  go_wp2_with fail
  cases c₀
  simp_all [bodyPostS, results, Tryd.results31]

set_option maxRecDepth 100000 in
set_option maxHeartbeats 1000000 in
theorem catch_thrown (b : Nat) (err x : Int) (older : List PanicEntry) (w : World) (hc : w.cell? ⟨b, 0, none⟩ = some (.int .i64 x)) (hz : w.frozen? ⟨b, 0, none⟩ = false) :
    CallsD Tryd.prog 31 #[.pointer (some ⟨b, 0, none⟩)] (.panicking ({ v := wrongV err, recovered := false } :: older)) w fun e u' w' =>
      e = .returned (.tuple #[]) ∧ u' = .panicking ({ v := wrongV err, recovered := true } :: older) ∧ w' = (w.alloc (.cells #[.int .i64 err] 57)).setCell ⟨b, 0, none⟩ (.int .i64 err) := by
  refine callsD_of_wpS Tryd.func31 rfl fun c₀ cs hu => ?_
  have q : ∀ (v : Value) (w : World), (binOp .eql 20 (.iface 57 v) .nilIface).run Tryd.prog w = .ok (.bool false) w := fun _ _ => by kernel_rfl
  have q2 : ∀ (a : Int) (w : World), (Instr.typeAssert (.iface 57 (.agg #[.int .i64 a])) 20 57 true).run Tryd.prog w = .ok (.tuple #[.agg #[.int .i64 a], .bool true]) w := fun _ _ => by kernel_rfl
  have hlt := lt_of_cell hc
  have hz' : (w.alloc (.cells #[.int .i64 err] 57)).frozen? ⟨b, 0, none⟩ = false := (World.frozen?_of_block (w := w) (a := ⟨b, 0, none⟩) (Below.heap_alloc w _ b hlt)).trans hz
  apply wpS_seq
  apply wpS_region
  simp [wpOpsS, go_sem, recoverD, hu, Tryd.ntmps31, Exit.thenS]
  refine wpS_of_wp ?_
  unfold wrongV
  go_wp2_with fail
  cases c₀
  simp_all [bodyPostS, results, Tryd.results31, wrongV]

def DefPost (w : World) (res : Mx.M × Int) (e : Ending) (w' : World) : Prop := ∃ v, e = .returned (.tuple #[v, .int .i64 res.2]) ∧ Mac w' w.heap.size v res.1 ∧ Below w.heap.size w w'

theorem bodyOf_zero (nm : ByteArray) (fn : Bool) (ps : List ByteArray) (va : Bool) (l : List K) (h : (Mx.bodyOf nm fn ps va l).2 ≠ 0) : (Mx.bodyOf nm fn ps va l).1 = .zero := by
  unfold Mx.bodyOf at *
  split
  · simp_all
  · split
    · rfl
    · split
      · rfl
      · split
        · rfl
        · simp_all
theorem defi_zero (l : List K) (h : (Mx.defi l).2 ≠ 0) : (Mx.defi l).1 = .zero := by
  rcases l with _ | ⟨t, r⟩
  · rfl
  · simp only [Mx.defi] at h ⊢
    by_cases hn : Mx.nameOk t = true
    · rw [if_pos hn] at h ⊢
      cases hb : Mx.brack r with
      | error e => rfl
      | ok x =>
        obtain ⟨fn, ps, va, b⟩ := x
        rw [hb] at h
        exact bodyOf_zero _ _ _ _ _ h
    · rw [if_neg hn]

set_option maxRecDepth 100000 in
set_option maxHeartbeats 2000000 in
theorem define_any (v : Value) (l : List K) (w : World) (hv : Ks w v l) (hx : ∀ t ∈ l, t.text.size ≤ maxLen) (hl : l.length * 56 ≤ 140737488355328) :
    Calls Tryd.prog 14 #[v] w (DefPost w (Mx.defi l)) := by
  have hmf : ∀ (fn : Fn) (first cap : Array Value) (w : World), (Instr.makeFunc fn first cap).run Tryd.prog w = .ok (.func fn first cap) w := fun _ _ _ _ => rfl
  have hz := defi_zero l
  obtain ⟨res, hres⟩ : ∃ res, res = Mx.defi l := ⟨_, rfl⟩
  rw [← hres] at hz ⊢
  have HRES := Lib.hid hres
  have HV := Lib.hid hv
  have HX := Lib.hid hx
  have HL := Lib.hid hl
  have HZ := Lib.hid hz
  obtain ⟨ad, cap, rfl, hc1, hc2, hc3⟩ := id hv
  clear hres hv hx hl hc3 hz
  go_enter_defers Tryd.func14, Tryd.ntmps14
  go_wp2_with fail
  have hB0 : Below w.heap.size w ((w.alloc (.cells #[.string ⟨#[]⟩, .bool false, .slice none 0 0, .bool false, .slice none 0 0] 26)).alloc (.cells #[.int .i64 0] 27)) := ((Below.refl _ w).alloc (Nat.le_refl _) _).alloc (by simp) _
  have hk0 := heap_alloc_new w (.cells #[.string ⟨#[]⟩, .bool false, .slice none 0 0, .bool false, .slice none 0 0] 26)
  replace hk0 := (Below.heap_alloc _ (.cells #[.int .i64 0] 27) _ (lt_of_block hk0)).trans hk0
  have hk1 := heap_alloc_new (w.alloc (.cells #[.string ⟨#[]⟩, .bool false, .slice none 0 0, .bool false, .slice none 0 0] 26)) (.cells #[.int .i64 0] 27)
  simp only [World.size_alloc] at hk1
  generalize (w.alloc (.cells #[.string ⟨#[]⟩, .bool false, .slice none 0 0, .bool false, .slice none 0 0] 26)).alloc (.cells #[.int .i64 0] 27) = W0 at hB0 hk0 hk1 ⊢
  refine (read_any _ l _ (HV.out.below hB0) HX.out HL.out).mono ?_
  rw [← HRES.out]
  rintro e W1 ⟨hB1, ⟨hne, rfl⟩ | ⟨h0, mv, rfl, hmac⟩⟩
  · replace hk0 := (hB1.block _ (lt_of_block hk0)).trans hk0
    replace hk1 := (hB1.block _ (lt_of_block hk1)).trans hk1
    have hB := Below.then hB0 hB1
    have e1 := (Lib.cell_of_heap hk1 0).trans rfl
    refine leaves_cons (f := 31) (args := #[.pointer (some ⟨w.heap.size + 1, 0, none⟩)]) (by simp) (by simp [go_sem]) ?_
    refine (catch_thrown (w.heap.size + 1) res.2 0 [] _ e1 (by simp [World.frozen?, hk1])).mono ?_
    rintro e u' w'' ⟨rfl, rfl, rfl⟩
    have hf0 : ((W1.alloc (.cells #[.int .i64 res.2] 57)).setCell ⟨w.heap.size + 1, 0, none⟩ (.int .i64 res.2)).heap[w.heap.size]? = some (.cells #[.string ⟨#[]⟩, .bool false, .slice none 0 0, .bool false, .slice none 0 0] 26 (0, 0)) := by
      rw [Below.heap_setCell _ _ _ _ (by simp)]
      exact (Below.heap_alloc _ _ _ (lt_of_block hk0)).trans hk0
    have hf1 : ((W1.alloc (.cells #[.int .i64 res.2] 57)).setCell ⟨w.heap.size + 1, 0, none⟩ (.int .i64 res.2)).heap[w.heap.size + 1]? = some (.cells #[.int .i64 res.2] 27 (0, 0)) := by
      have := (Below.heap_alloc W1 (.cells #[.int .i64 res.2] 57) _ (lt_of_block hk1)).trans hk1
      simp [World.setCell, Array.getElem?_modify, this]
    have hBf : Below w.heap.size w ((W1.alloc (.cells #[.int .i64 res.2] 57)).setCell ⟨w.heap.size + 1, 0, none⟩ (.int .i64 res.2)) := (hB.alloc hB.size _).setCell (Nat.le_succ _) _
    generalize (W1.alloc (.cells #[.int .i64 res.2] 57)).setCell ⟨w.heap.size + 1, 0, none⟩ (.int .i64 res.2) = Wf at hf0 hf1 hBf ⊢
    have s0 := (Lib.cell_of_heap hf0 0).trans rfl
    have s1 := (Lib.cell_of_heap hf0 1).trans rfl
    have s2 := (Lib.cell_of_heap hf0 2).trans rfl
    have s3 := (Lib.cell_of_heap hf0 3).trans rfl
    have s4 := (Lib.cell_of_heap hf0 4).trans rfl
    have s5 := (Lib.cell_of_heap hf1 0).trans rfl
    refine ⟨.tuple #[.agg #[.string ⟨#[]⟩, .bool false, .slice none 0 0, .bool false, .slice none 0 0], .int .i64 res.2], by simp [results, Tryd.results14, go_sem, s0, s1, s2, s3, s4, s5], _, rfl, ?_, hBf⟩
    rw [HZ.out hne]
    exact ⟨_, _, rfl, World.ownsRow_nil _ _ _ _, World.ownsRow_nil _ _ _ _⟩
  · obtain ⟨pv, bv, rfl, hp, hb⟩ := hmac
    obtain ⟨pa, pn, pc, rfl⟩ := row_slice hp
    obtain ⟨ba, bn, bc, rfl⟩ := row_slice hb
    have hsz : w.heap.size + 1 < W0.heap.size := lt_of_block hk1
    replace hk0 := (hB1.block _ (lt_of_block hk0)).trans hk0
    replace hk1 := (hB1.block _ (lt_of_block hk1)).trans hk1
    have hB := Below.then hB0 hB1
    have hwl := lt_of_block hk1
    have hwl0 := lt_of_block hk0
    have r0 := (Lib.cell_of_heap hk0 0).trans rfl
    have r1 := (Lib.cell_of_heap hk0 1).trans rfl
    have r2 := (Lib.cell_of_heap hk0 2).trans rfl
    have r3 := (Lib.cell_of_heap hk0 3).trans rfl
    have r4 := (Lib.cell_of_heap hk0 4).trans rfl
    have r5 := (Lib.cell_of_heap hk1 0).trans rfl
    have q0 : ∀ i, W1.frozen? ⟨w.heap.size, i, none⟩ = false := fun i => by simp [World.frozen?, hk0]
    have q1 : W1.frozen? ⟨w.heap.size + 1, 0, none⟩ = false := by simp [World.frozen?, hk1]
    have HP := Lib.hid hp
    have HBd := Lib.hid hb
    have HK0 := Lib.hid hk0
    have HK1 := Lib.hid hk1
    have H0 := Lib.hid h0
    clear hp hb hk0 hk1 h0 hB0 hB1
    go_wp2_with fail
    have hset : ∀ W : World, W.ownsRow W0.heap.size 9 1 (.slice pa pn pc) res.1.ps.length (strCells res.1.ps) → W.ownsRow W0.heap.size 39 6 (.slice ba bn bc) res.1.body.length (ksCells res.1.body) → Below w.heap.size w W → ∀ (b i : Nat) (u : Value), w.heap.size ≤ b → b < W0.heap.size → (W.setCell ⟨b, i, none⟩ u).ownsRow W0.heap.size 9 1 (.slice pa pn pc) res.1.ps.length (strCells res.1.ps) ∧ (W.setCell ⟨b, i, none⟩ u).ownsRow W0.heap.size 39 6 (.slice ba bn bc) res.1.body.length (ksCells res.1.body) ∧ Below w.heap.size w (W.setCell ⟨b, i, none⟩ u) :=
      fun W h1 h2 h3 b i u hb hb' => ⟨ownsRow_setCell_below h1 hb' u, ownsRow_setCell_below h2 hb' u, h3.setCell hb u⟩
    obtain ⟨x1, x2, x3⟩ := hset _ HP.out HBd.out hB w.heap.size 0 (.string res.1.name) (Nat.le_refl _) (by omega)
    obtain ⟨x1, x2, x3⟩ := hset _ x1 x2 x3 w.heap.size 1 (.bool res.1.fn) (Nat.le_refl _) (by omega)
    obtain ⟨x1, x2, x3⟩ := hset _ x1 x2 x3 w.heap.size 2 (.slice pa pn pc) (Nat.le_refl _) (by omega)
    obtain ⟨x1, x2, x3⟩ := hset _ x1 x2 x3 w.heap.size 3 (.bool res.1.va) (Nat.le_refl _) (by omega)
    obtain ⟨x1, x2, x3⟩ := hset _ x1 x2 x3 w.heap.size 4 (.slice ba bn bc) (Nat.le_refl _) (by omega)
    obtain ⟨x1, x2, x3⟩ := hset _ x1 x2 x3 (w.heap.size + 1) 0 (.int .i64 0) (Nat.le_succ _) hsz
    have hf0 : ((((((W1.setCell ⟨w.heap.size, 0, none⟩ (.string res.1.name)).setCell ⟨w.heap.size, 1, none⟩ (.bool res.1.fn)).setCell ⟨w.heap.size, 2, none⟩ (.slice pa pn pc)).setCell ⟨w.heap.size, 3, none⟩ (.bool res.1.va)).setCell ⟨w.heap.size, 4, none⟩ (.slice ba bn bc)).setCell ⟨w.heap.size + 1, 0, none⟩ (.int .i64 0)).heap[w.heap.size]? = some (.cells #[.string res.1.name, .bool res.1.fn, .slice pa pn pc, .bool res.1.va, .slice ba bn bc] 26 (0, 0)) := by
      simp [World.setCell, Array.getElem?_modify, HK0.out]
    have hf1 : ((((((W1.setCell ⟨w.heap.size, 0, none⟩ (.string res.1.name)).setCell ⟨w.heap.size, 1, none⟩ (.bool res.1.fn)).setCell ⟨w.heap.size, 2, none⟩ (.slice pa pn pc)).setCell ⟨w.heap.size, 3, none⟩ (.bool res.1.va)).setCell ⟨w.heap.size, 4, none⟩ (.slice ba bn bc)).setCell ⟨w.heap.size + 1, 0, none⟩ (.int .i64 0)).heap[w.heap.size + 1]? = some (.cells #[.int .i64 0] 27 (0, 0)) := by
      simp [World.setCell, Array.getElem?_modify, HK1.out]
    generalize ((((((W1.setCell ⟨w.heap.size, 0, none⟩ (.string res.1.name)).setCell ⟨w.heap.size, 1, none⟩ (.bool res.1.fn)).setCell ⟨w.heap.size, 2, none⟩ (.slice pa pn pc)).setCell ⟨w.heap.size, 3, none⟩ (.bool res.1.va)).setCell ⟨w.heap.size, 4, none⟩ (.slice ba bn bc)).setCell ⟨w.heap.size + 1, 0, none⟩ (.int .i64 0)) = Wf at x1 x2 x3 hf0 hf1 ⊢
    refine leaves_cons (f := 31) (args := #[.pointer (some ⟨w.heap.size + 1, 0, none⟩)]) (by simp) (by simp [go_sem]) ?_
    refine (catch_idle ⟨w.heap.size + 1, 0, none⟩ _).mono ?_
    rintro e u' w'' ⟨rfl, rfl, rfl⟩
    have s0 := (Lib.cell_of_heap hf0 0).trans rfl
    have s1 := (Lib.cell_of_heap hf0 1).trans rfl
    have s2 := (Lib.cell_of_heap hf0 2).trans rfl
    have s3 := (Lib.cell_of_heap hf0 3).trans rfl
    have s4 := (Lib.cell_of_heap hf0 4).trans rfl
    have s5 := (Lib.cell_of_heap hf1 0).trans rfl
    refine ⟨.tuple #[.agg #[.string res.1.name, .bool res.1.fn, .slice pa pn pc, .bool res.1.va, .slice ba bn bc], .int .i64 0], by simp [results, Tryd.results14, go_sem, s0, s1, s2, s3, s4, s5], _, by rw [H0.out], ⟨_, _, rfl, x1.mono (by omega), x2.mono (by omega)⟩, x3⟩
end Go.Proofs.YtfjbmenakcnadaaDoor
