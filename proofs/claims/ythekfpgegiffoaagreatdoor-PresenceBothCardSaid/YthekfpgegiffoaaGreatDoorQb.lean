/- What is proved: what first tells of a text: the kind and the length of its first token. (and what stands with it) -/
import Derived.Test.YthekfpgegiffoaaGreatDoorQa
import Derived.Deep.RegionHeld3
import Derived.Deep.AppendLies
import Derived.IntWalk
import Derived.Deep.DeepCutAuto
import Derived.OneCell
import Derived.StringKeys
import Derived.Maps.AppendAt
import Derived.Test.YthekfpgegiffoaaGreatDoorRows
import Derived.Test.YthekfpgegiffoaaGreatDoorTie
import Derived.Test.YthekfpgegiffoaaGreatDoorCards
import Derived.Deep.Strs
import Derived.SizedLaws
import Derived.HandedShaped
import Derived.ProofKit
import Derived.Deep.Slices
import Derived.Deep.Fields
import Derived.OpenShut
import Derived.LaidMore
import Derived.Stop.LaidErr
import Derived.Stop.Joined
import Derived.SevenTiedAt
import Derived.MakeChecks
import Derived.Lay
set_option linter.unusedSimpArgs false
set_option linter.unusedVariables false
set_option maxHeartbeats 16000000
set_option maxRecDepth 100000
namespace Go.Proofs.YthekfpgegiffoaaGreatDoor
section
open Go.RowKit Go.Shelf
def Pair (w : World) (p : Nat × Nat) (e : Ending) (w' : World) : Prop:=e = .returned (.tuple #[.int .i64 p.1, .int .i64 p.2]) ∧ Below w.heap.size w w'
theorem head_yes (s : ByteArray) (h : 1 < s.size) : Lx.headDigit (s.data.toList.drop 1) = Lx.digit s[1]:=by
 rw [drop_at s 1 h]; rfl
theorem head_no (s : ByteArray) (h : ¬ 1 < s.size) : Lx.headDigit (s.data.toList.drop 1) = false:=by
 rw [drop_end s 1 (by omega)]; rfl
theorem first_any (s : ByteArray) (hs : s.size ≤ 4000000000) (h0 : 0 < s.size) (w : World) (hG : Glob w) : Calls Tryz.prog 60 #[.string s] w (Pair w (Lx.first s.data.toList)):=by
 have hd0:=drop_at s 0 h0
 rw [List.drop_zero,show 0 + 1 = 1 from rfl] at hd0
 have hf:=Lx.first_cons s[0] (s.data.toList.drop 1)
 have hnl:=Lx.numLen_cons s[0] (s.data.toList.drop 1)
 rw [← hd0] at hf hnl
 have b1:=(Lx.closedLen_le 34 s.data.toList).1
 have b2:=(Lx.closedLen_le 39 s.data.toList).1
 have hsg:=Lx.signLen_le s.data.toList
 rw [size_list] at b1 b2 hsg
 obtain ⟨P,hP⟩ : ∃ P,P = Lx.first s.data.toList:=⟨_,rfl⟩
 rw [← hP] at hf ⊢
 clear hP
 obtain ⟨A,hA⟩ : ∃ A,A = Lx.closedLen 34 s.data.toList:=⟨_,rfl⟩
 obtain ⟨B,hB'⟩ : ∃ B,B = Lx.closedLen 39 s.data.toList:=⟨_,rfl⟩
 obtain ⟨C,hC⟩ : ∃ C,C = Lx.signLen s.data.toList:=⟨_,rfl⟩
 rw [← hA,← hB',← hC] at hf
 rw [← hA] at b1
 rw [← hB'] at b2
 rw [← hC] at hsg
 have HA:=Lib.hid hA
 have HB:=Lib.hid hB'
 have HC:=Lib.hid hC
 clear hA hB' hC
 have HG:=Lib.hid hG
 clear hG
 by_cases hA : s[0] = 10
 ·rw [if_pos hA] at hf
  have t1 : ((s[0].toNat : Int) == 10) = true:=u8_eq hA
  subst hf
  clear hA hd0 hnl
  go_enter Tryz.func60,Tryz.ntmps60
  go_wp2_with fail
  go_ret2
  exact ⟨rfl,Below.refl _ _⟩
 ·rw [if_neg hA] at hf
  have t1 : ((s[0].toNat : Int) == 10) = false:=u8_ne hA
  clear hA
  cases hB : Lx.letter s[0] with
  | true =>
   rw [if_pos hB] at hf
   subst hf
   clear hd0 hnl
   go_enter Tryz.func60,Tryz.ntmps60
   go_wp2_with (first | (go_at_call 102; refine (letter_any _ _).mono ?_; rintro e w' ⟨rfl,rfl⟩) | (go_at_call 103; refine (name_any s hs _).mono ?_; rintro e w' ⟨rfl,rfl⟩))
   go_ret2
   exact ⟨rfl,Below.refl _ _⟩
  | false =>
   rw [if_neg (by rw [hB]; simp)] at hf
   have t46:=u8_beq s[0] 46
   rw [show ((46 : UInt8).toNat : Int) = 46 from rfl] at t46
   rw [t46] at hnl
   by_cases hN : (Lx.digit s[0] || (((s[0].toNat : Int) == 46) && Lx.headDigit (s.data.toList.drop 1))) = true
   ·rw [if_pos hN] at hnl
    rw [hnl,if_pos (by omega)] at hf
    have hcase : Lx.digit s[0] = true ∨ (Lx.digit s[0] = false ∧ ((s[0].toNat : Int) == 46) = true ∧ ∃ h : 1 < s.size,Lx.digit s[1] = true):=by
     cases hD : Lx.digit s[0] with
     | true => exact .inl rfl
     | false =>
      rw [hD,Bool.false_or,Bool.and_eq_true] at hN
      refine .inr ⟨rfl,hN.1,?_⟩
      by_cases h1 : 1 < s.size
      ·exact ⟨h1,by rw [← head_yes s h1]; exact hN.2⟩
      ·have:=hN.2; rw [head_no s h1] at this; cases this
    obtain ⟨M,hM⟩ : ∃ M,M = 1 + Lx.numRest (s.data.toList.drop 1):=⟨_,rfl⟩
    rw [← hM] at hf
    have HM:=Lib.hid hM
    subst hf
    clear hd0 hnl hN t46 hM
    rcases hcase with h1 | ⟨h1,h2,h3,h4⟩
    all_goals
     go_enter Tryz.func60,Tryz.ntmps60
     go_wp2_with (first | (go_at_call 102; refine (letter_any _ _).mono ?_; rintro e w' ⟨rfl,rfl⟩) | (go_at_call 104; refine (digit_any _ _).mono ?_; rintro e w' ⟨rfl,rfl⟩) | (go_at_call 105; refine (number_any s hs h0 _).mono ?_; rintro e w' ⟨rfl,rfl⟩; rw [← HM.out]))
     go_ret2
     exact ⟨rfl,Below.refl _ _⟩
   ·rw [if_neg hN] at hnl
    rw [hnl,if_neg (by omega)] at hf
    have hcase : (Lx.digit s[0] = false ∧ ((s[0].toNat : Int) == 46) = false) ∨ (Lx.digit s[0] = false ∧ ((s[0].toNat : Int) == 46) = true ∧ ¬ 1 < s.size) ∨ (Lx.digit s[0] = false ∧ ((s[0].toNat : Int) == 46) = true ∧ ∃ h : 1 < s.size,Lx.digit s[1] = false):=by
     cases hD : Lx.digit s[0] with
     | true => rw [hD] at hN; simp at hN
     | false =>
      rw [hD,Bool.false_or] at hN
      cases h46 : ((s[0].toNat : Int) == 46) with
      | false => exact .inl ⟨rfl,rfl⟩
      | true =>
       rw [h46,Bool.true_and] at hN
       by_cases h1 : 1 < s.size
       ·rw [head_yes s h1] at hN
        exact .inr (.inr ⟨rfl,rfl,h1,by simpa using hN⟩)
       ·exact .inr (.inl ⟨rfl,rfl,h1⟩)
    clear hd0 hnl hN t46
    by_cases hA0 : 0 < A
    ·rw [if_pos hA0] at hf
     subst hf
     rcases hcase with ⟨h1,h2⟩ | ⟨h1,h2,h3⟩ | ⟨h1,h2,h3,h4⟩
     all_goals try (exfalso; omega)
     all_goals
      go_enter Tryz.func60,Tryz.ntmps60
      go_wp2_with (first | (go_at_call 102; refine (letter_any _ _).mono ?_; rintro e w' ⟨rfl,rfl⟩) | (go_at_call 104; refine (digit_any _ _).mono ?_; rintro e w' ⟨rfl,rfl⟩))
      refine (closed_any s hs h0 34 (by decide) (by decide) _).mono ?_
      rintro e w' ⟨rfl,rfl⟩
      rw [← HA.out]
      go_wp2_with fail
      go_ret2
      exact ⟨rfl,Below.refl _ _⟩
    ·rw [if_neg hA0] at hf
     by_cases hB2 : 2 < B
     ·rw [if_pos hB2] at hf
      subst hf
      rcases hcase with ⟨h1,h2⟩ | ⟨h1,h2,h3⟩ | ⟨h1,h2,h3,h4⟩
      all_goals try (exfalso; omega)
      all_goals
       go_enter Tryz.func60,Tryz.ntmps60
       go_wp2_with (first | (go_at_call 102; refine (letter_any _ _).mono ?_; rintro e w' ⟨rfl,rfl⟩) | (go_at_call 104; refine (digit_any _ _).mono ?_; rintro e w' ⟨rfl,rfl⟩))
       refine (closed_any s hs h0 34 (by decide) (by decide) _).mono ?_
       rintro e w' ⟨rfl,rfl⟩
       rw [← HA.out]
       go_wp2_with fail
       refine (closed_any s hs h0 39 (by decide) (by decide) _).mono ?_
       rintro e w' ⟨rfl,rfl⟩
       rw [← HB.out]
       go_wp2_with fail
       go_ret2
       exact ⟨rfl,Below.refl _ _⟩
     ·rw [if_neg hB2] at hf
      by_cases hC0 : 0 < C
      ·rw [if_pos hC0] at hf
       subst hf
       rcases hcase with ⟨h1,h2⟩ | ⟨h1,h2,h3⟩ | ⟨h1,h2,h3,h4⟩
       all_goals try (exfalso; omega)
       all_goals
        go_enter Tryz.func60,Tryz.ntmps60
        go_wp2_with (first | (go_at_call 102; refine (letter_any _ _).mono ?_; rintro e w' ⟨rfl,rfl⟩) | (go_at_call 104; refine (digit_any _ _).mono ?_; rintro e w' ⟨rfl,rfl⟩))
        refine (closed_any s hs h0 34 (by decide) (by decide) _).mono ?_
        rintro e w' ⟨rfl,rfl⟩
        rw [← HA.out]
        go_wp2_with fail
        refine (closed_any s hs h0 39 (by decide) (by decide) _).mono ?_
        rintro e w' ⟨rfl,rfl⟩
        rw [← HB.out]
        go_wp2_with fail
        refine (sign_any s hs _ HG.out).mono ?_
        rintro e w' ⟨rfl,hB⟩
        rw [← HC.out]
        go_wp2_with fail
        go_ret2
        exact ⟨rfl,hB⟩
      ·rw [if_neg hC0] at hf
       subst hf
       rcases hcase with ⟨h1,h2⟩ | ⟨h1,h2,h3⟩ | ⟨h1,h2,h3,h4⟩
       all_goals try (exfalso; omega)
       all_goals
        go_enter Tryz.func60,Tryz.ntmps60
        go_wp2_with (first | (go_at_call 102; refine (letter_any _ _).mono ?_; rintro e w' ⟨rfl,rfl⟩) | (go_at_call 104; refine (digit_any _ _).mono ?_; rintro e w' ⟨rfl,rfl⟩))
        refine (closed_any s hs h0 34 (by decide) (by decide) _).mono ?_
        rintro e w' ⟨rfl,rfl⟩
        rw [← HA.out]
        go_wp2_with fail
        refine (closed_any s hs h0 39 (by decide) (by decide) _).mono ?_
        rintro e w' ⟨rfl,rfl⟩
        rw [← HB.out]
        go_wp2_with fail
        refine (sign_any s hs _ HG.out).mono ?_
        rintro e w' ⟨rfl,hB⟩
        rw [← HC.out]
        go_wp2_with fail
        go_ret2
        exact ⟨rfl,hB⟩
end
section
open Go.RowKit Go.Shelf
open Lx (T)
def cellsOne (f : Int) (t : T) : List Value:=[.int .i64 t.kind, .string ⟨t.text.toArray⟩, .int .i64 f, .int .i64 t.fr, .int .i64 t.to, .bool t.bl]
def tokCells (f : Int) : List T → List Value
 | [] => []
 | t :: r => cellsOne f t ++ tokCells f r
theorem tokCells_append (f : Int) (a b : List T) : tokCells f (a ++ b) = tokCells f a ++ tokCells f b:=by
 induction a with
 | nil => rfl
 | cons x r ih => simp [tokCells,ih]
theorem tokCells_get (f : Int) (a : List T) : ∀ i t,a[i]? = some t → ∀ j v,(cellsOne f t)[j]? = some v → (tokCells f a)[i * 6 + j]? = some v:=by
 induction a with
 | nil => intro i x h; simp at h
 | cons y r ih =>
  intro i t h j v hj
  have h6 : (cellsOne f y).length = 6:=rfl
  cases i with
  | zero =>
   simp at h; subst h
   have hlt:=(List.getElem?_eq_some_iff.1 hj).1
   rw [tokCells,List.getElem?_append_left (by omega),Nat.zero_mul,Nat.zero_add]
   exact hj
  | succ i =>
   simp at h
   rw [tokCells,List.getElem?_append_right (by omega),h6,show (i + 1) * 6 + j - 6 = i * 6 + j by omega]
   exact ih i t h j v hj
def TokAt (W : World) (g o : Nat) (f : Int) (t : T) : Prop :=
 W.cell? ⟨g,o,none⟩ = some (.int .i64 t.kind) ∧ W.cell? ⟨g,o + 1,none⟩ = some (.string ⟨t.text.toArray⟩) ∧ W.cell? ⟨g,o + 2,none⟩ = some (.int .i64 f) ∧
 W.cell? ⟨g,o + 3,none⟩ = some (.int .i64 t.fr) ∧ W.cell? ⟨g,o + 4,none⟩ = some (.int .i64 t.to) ∧ W.cell? ⟨g,o + 5,none⟩ = some (.bool t.bl)
def Toks (W : World) (v : Value) (f : Int) (ts : List T) : Prop :=
 ∃ ad cap,v = .slice ad ts.length cap ∧ ts.length ≤ cap ∧ cap ≤ maxLen ∧ ∀ i t,ts[i]? = some t → ∃ g o,ad = some ⟨g,o,none⟩ ∧ TokAt W g (o + i * 6) f t
theorem Toks.of_row {W : World} {base : Nat} {v : Value} {f : Int} {ts : List T} (h : W.ownsRow base 63 6 v ts.length (tokCells f ts)) : Toks W v f ts:=by
 have hc:=fun g => h.cells (g:=g)
 rcases h.2 with ⟨rfl,h0⟩ | ⟨g,cap,cur,rfl,_,_,h1,h2,_,_⟩
 ·refine ⟨none,0,by rw [h0],by omega,Nat.zero_le _,fun i x hx => ?_⟩
  rw [List.length_eq_zero_iff.1 h0] at hx
  simp at hx
 ·refine ⟨_,cap,rfl,h1,h2,fun i t ht => ⟨g,0,rfl,?_⟩⟩
  have key : ∀ j v,(cellsOne f t)[j]? = some v → W.cell? ⟨g,0 + (i * 6 + j),none⟩ = some v:=fun j v hj => by
   have:=hc g rfl (i * 6 + j) v (tokCells_get f ts i t ht j v hj)
   rwa [add_none] at this
  refine ⟨key 0 _ rfl,?_,?_,?_,?_,?_⟩
  ·exact key 1 _ rfl
  ·exact key 2 _ rfl
  ·exact key 3 _ rfl
  ·exact key 4 _ rfl
  ·exact key 5 _ rfl
theorem Toks.cells {W : World} {ad : Option Addr} {n cap : Nat} {f : Int} {ts : List T} (h : Toks W (.slice ad n cap) f ts) (hl : 0 < ts.length) :
  ∃ g o,ad = some ⟨g,o,none⟩ ∧ n = ts.length ∧ ts.length ≤ cap ∧ cap ≤ maxLen ∧ g < W.heap.size ∧ ∀ i t,ts[i]? = some t → TokAt W g (o + i * 6) f t:=by
 obtain ⟨ad',cap',e,h1,h2,h3⟩:=h
 injection e with e1 e2 e3
 subst e1 e2 e3
 obtain ⟨g,o,rfl,c0⟩:=h3 0 _ (List.getElem?_eq_getElem hl)
 refine ⟨g,o,rfl,rfl,h1,h2,lt_of_cell c0.1,fun i x hx => ?_⟩
 obtain ⟨g',o',e,d⟩:=h3 i x hx
 injection e with e
 injection e with e4 e5
 subst e4 e5
 exact d
theorem infoTok : (Tryz.prog.info? 63).map (fun i => (i.zero,i.size,i.bytes)) = some (some (.agg #[.int .i64 0, .string ByteArray.empty, .int .i64 0, .int .i64 0, .int .i64 0, .bool false]),6,56):=by kernel_rfl
def ToksPost (w : World) (f : Int) (ts : List T) (e : Ending) (w' : World) : Prop:=∃ v,e = .returned v ∧ Toks w' v f ts ∧ Below w.heap.size w w'
def Sofar (l : List Sp.Ch) (k : Nat) (p : Bool) (acc : List T) : Prop:=k ≤ l.length ∧ acc.length ≤ k ∧ Lx.tk false l = acc ++ Lx.tk p (l.drop k)
theorem sofar_start (l : List Sp.Ch) : Sofar l 0 false []:=⟨Nat.zero_le _,Nat.le_refl _,by simp⟩
theorem sofar_end {l : List Sp.Ch} {k : Nat} {p : Bool} {acc : List T} (h : Sofar l k p acc) (hk : l.length ≤ k) : acc = Lx.tk false l:=by
 rw [h.2.2,List.drop_of_length_le hk,Lx.tk_nil]; simp
theorem sofar_blank {l : List Sp.Ch} {k : Nat} {p : Bool} {acc : List T} (h : Sofar l k p acc) (hb : 0 < Lx.blankLen (Lx.bytes (l.drop k))) :
  k + Lx.blankLen (Lx.bytes (l.drop k)) ≤ l.length ∧ Sofar l (k + Lx.blankLen (Lx.bytes (l.drop k))) true acc:=by
 have h1:=Lx.blank_len (l.drop k)
 rw [List.length_drop] at h1
 have h2:=h.1
 refine ⟨by omega,by omega,by have:=h.2.1; omega,?_⟩
 rw [h.2.2,Lx.tk_blank p _ hb,List.drop_drop]
theorem sofar_tok {l : List Sp.Ch} {k : Nat} {p : Bool} {acc : List T} (h : Sofar l k p acc) (hk : k < l.length) (hb : Lx.blankLen (Lx.bytes (l.drop k)) = 0) :
  0 < (Lx.first (Lx.bytes (l.drop k))).2 ∧ k + (Lx.first (Lx.bytes (l.drop k))).2 ≤ l.length ∧ Sofar l (k + (Lx.first (Lx.bytes (l.drop k))).2) false (acc ++ [Lx.tokAt p (l.drop k)]):=by
 have hl : l.drop k ≠ []:=by rw [Ne,List.drop_eq_nil_iff]; omega
 have h1:=Lx.first_len (l.drop k) hl
 rw [List.length_drop] at h1
 have h2:=h.1
 refine ⟨h1.1,by omega,by omega,by have:=h.2.1; simp; omega,?_⟩
 rw [h.2.2,Lx.tk_tok p _ hl hb,List.drop_drop]
 simp
end
section
open Go.RowKit Go.Shelf
open Lx (T)
theorem Below.then {w w1 w2 : World} (h : Below w.heap.size w w1) (k : Below w1.heap.size w1 w2) : Below w.heap.size w w2:=h.trans (k.mono h.size)
structure K where
 kind : Int
 text : ByteArray
 file : Int
 fr : Int
 en : Int
 bl : Bool
def ofT (f : Int) (t : T) : K:=⟨t.kind,⟨t.text.toArray⟩,f,t.fr,t.to,t.bl⟩
def kCells (t : K) : List Value:=[.int .i64 t.kind, .string t.text, .int .i64 t.file, .int .i64 t.fr, .int .i64 t.en, .bool t.bl]
def ksCells : List K → List Value
 | [] => []
 | t :: r => kCells t ++ ksCells r
theorem ksCells_append (a b : List K) : ksCells (a ++ b) = ksCells a ++ ksCells b:=by
 induction a with
 | nil => rfl
 | cons x r ih => simp [ksCells,ih]
theorem ksCells_length (a : List K) : (ksCells a).length = a.length * 6:=by
 induction a with
 | nil => rfl
 | cons x r ih => simp [ksCells,kCells,ih]; omega
theorem ksCells_get (a : List K) : ∀ i t,a[i]? = some t → ∀ j v,(kCells t)[j]? = some v → (ksCells a)[i * 6 + j]? = some v:=by
 induction a with
 | nil => intro i x h; simp at h
 | cons y r ih =>
  intro i t h j v hj
  have h6 : (kCells y).length = 6:=rfl
  cases i with
  | zero =>
   simp at h; subst h
   have hlt:=(List.getElem?_eq_some_iff.1 hj).1
   rw [ksCells,List.getElem?_append_left (by omega),Nat.zero_mul,Nat.zero_add]
   exact hj
  | succ i =>
   simp at h
   rw [ksCells,List.getElem?_append_right (by omega),h6,show (i + 1) * 6 + j - 6 = i * 6 + j by omega]
   exact ih i t h j v hj
theorem ksCells_one (a : List K) : ∀ u ∈ ksCells a,u.oneCell' = true:=by
 induction a with
 | nil => intro u hu; simp [ksCells] at hu
 | cons x r ih =>
  intro u hu
  rcases List.mem_append.1 hu with h | h
  ·simp only [kCells,List.mem_cons,List.not_mem_nil,or_false] at h
   rcases h with rfl | rfl | rfl | rfl | rfl | rfl <;> rfl
  ·exact ih u h
def KAt (W : World) (g o : Nat) (t : K) : Prop :=
 W.cell? ⟨g,o,none⟩ = some (.int .i64 t.kind) ∧ W.cell? ⟨g,o + 1,none⟩ = some (.string t.text) ∧ W.cell? ⟨g,o + 2,none⟩ = some (.int .i64 t.file) ∧
 W.cell? ⟨g,o + 3,none⟩ = some (.int .i64 t.fr) ∧ W.cell? ⟨g,o + 4,none⟩ = some (.int .i64 t.en) ∧ W.cell? ⟨g,o + 5,none⟩ = some (.bool t.bl)
theorem KAt.kept {W W' : World} {g o : Nat} {t : K} (h : KAt W g o t) (hb : W'.heap[g]? = W.heap[g]?) : KAt W' g o t:=by
 obtain ⟨h0,h1,h2,h3,h4,h5⟩:=h
 have k:=fun o : Nat => World.cell?_of_block (a:=⟨g,o,none⟩) hb
 exact ⟨(k _).trans h0,(k _).trans h1,(k _).trans h2,(k _).trans h3,(k _).trans h4,(k _).trans h5⟩
theorem KAt.below {W W' : World} {g o n : Nat} {t : K} (h : KAt W g o t) (hb : Below n W W') (hg : g < n) : KAt W' g o t:=h.kept (hb.block g hg)
def Ks (W : World) (v : Value) (ts : List K) : Prop :=
 ∃ ad cap,v = .slice ad ts.length cap ∧ ts.length ≤ cap ∧ cap ≤ maxLen ∧ ∀ i t,ts[i]? = some t → ∃ g o,ad = some ⟨g,o,none⟩ ∧ KAt W g (o + i * 6) t
theorem Ks.kept {W W' : World} {v : Value} {ts : List K} (h : Ks W v ts) (hb : ∀ g o n cap,v = .slice (some ⟨g,o,none⟩) n cap → g < W.heap.size → W'.heap[g]? = W.heap[g]?) : Ks W' v ts:=by
 obtain ⟨ad,cap,rfl,h1,h2,h3⟩:=h
 refine ⟨ad,cap,rfl,h1,h2,fun i t ht => ?_⟩
 obtain ⟨g,o,e,c⟩:=h3 i t ht
 exact ⟨g,o,e,c.kept (hb g o _ _ (by rw [e]) (lt_of_cell c.1))⟩
theorem Ks.below {W W' : World} {v : Value} {ts : List K} (h : Ks W v ts) (hb : Below W.heap.size W W') : Ks W' v ts :=
 h.kept fun g _ _ _ _ hg => hb.block g hg
theorem Toks.ks {W : World} {v : Value} {f : Int} {ts : List T} (h : Toks W v f ts) : Ks W v (ts.map (ofT f)):=by
 obtain ⟨ad,cap,rfl,h1,h2,h3⟩:=h
 refine ⟨ad,cap,by rw [List.length_map],by rw [List.length_map]; exact h1,h2,fun i t ht => ?_⟩
 rw [List.getElem?_map] at ht
 obtain ⟨x,hx,rfl⟩:=Option.map_eq_some_iff.1 ht
 exact h3 i x hx
theorem Ks.of_row {W : World} {base : Nat} {v : Value} {ts : List K} (h : W.ownsRow base 63 6 v ts.length (ksCells ts)) : Ks W v ts:=by
 have hc:=fun g => h.cells (g:=g)
 rcases h.2 with ⟨rfl,h0⟩ | ⟨g,cap,cur,rfl,_,_,h1,h2,_,_⟩
 ·refine ⟨none,0,by rw [h0],by omega,Nat.zero_le _,fun i x hx => ?_⟩
  rw [List.length_eq_zero_iff.1 h0] at hx
  simp at hx
 ·refine ⟨_,cap,rfl,h1,h2,fun i t ht => ⟨g,0,rfl,?_⟩⟩
  have key : ∀ j v,(kCells t)[j]? = some v → W.cell? ⟨g,0 + (i * 6 + j),none⟩ = some v:=fun j v hj => by
   have:=hc g rfl (i * 6 + j) v (ksCells_get ts i t ht j v hj)
   rwa [add_none] at this
  refine ⟨key 0 _ rfl,?_,?_,?_,?_,?_⟩
  ·exact key 1 _ rfl
  ·exact key 2 _ rfl
  ·exact key 3 _ rfl
  ·exact key 4 _ rfl
  ·exact key 5 _ rfl
theorem Ks.cells {W : World} {ad : Option Addr} {n cap : Nat} {ts : List K} (h : Ks W (.slice ad n cap) ts) (hl : 0 < ts.length) :
  ∃ g o,ad = some ⟨g,o,none⟩ ∧ n = ts.length ∧ ts.length ≤ cap ∧ cap ≤ maxLen ∧ g < W.heap.size ∧ ∀ i t,ts[i]? = some t → KAt W g (o + i * 6) t:=by
 obtain ⟨ad',cap',e,h1,h2,h3⟩:=h
 injection e with e1 e2 e3
 subst e1 e2 e3
 obtain ⟨g,o,rfl,c0⟩:=h3 0 _ (List.getElem?_eq_getElem hl)
 refine ⟨g,o,rfl,rfl,h1,h2,lt_of_cell c0.1,fun i x hx => ?_⟩
 obtain ⟨g',o',e,d⟩:=h3 i x hx
 injection e with e
 injection e with e4 e5
 subst e4 e5
 exact d
theorem Ks.part {W : World} {g o n cap : Nat} {ts : List K} (h : Ks W (.slice (some ⟨g,o,none⟩) n cap) ts) (a b : Nat) (hab : a ≤ b) (hb : b ≤ ts.length) :
  Ks W (.slice (some ⟨g,o + a * 6,none⟩) (b - a) (cap - a)) ((ts.drop a).take (b - a)):=by
 obtain ⟨ad',cap',e,h1,h2,h3⟩:=h
 injection e with e1 e2 e3
 subst e1 e2 e3
 have hl : ((ts.drop a).take (b - a)).length = b - a:=by rw [List.length_take,List.length_drop]; omega
 refine ⟨_,cap - a,by rw [hl],by rw [hl]; omega,by omega,fun i t ht => ?_⟩
 rw [List.getElem?_take] at ht
 split at ht
 ·rw [List.getElem?_drop] at ht
  obtain ⟨g',o',e',ha⟩:=h3 _ t ht
  injection e' with e'
  injection e' with e4 e5
  subst e4 e5
  exact ⟨g,o + a * 6,rfl,by rw [show o + a * 6 + i * 6 = o + (a + i) * 6 by omega]; exact ha⟩
 ·cases ht
theorem Ks.none_at (W : World) (ad : Option Addr) (cap : Nat) (hc : cap ≤ maxLen) : Ks W (.slice ad 0 cap) [] :=
 ⟨ad,cap,rfl,Nat.zero_le _,hc,fun i t ht => by simp at ht⟩
def kAgg (t : K) : Value:=.agg #[.int .i64 t.kind, .string t.text, .int .i64 t.file, .int .i64 t.fr, .int .i64 t.en, .bool t.bl]
structure Ln where
 kind : Int
 first : Nat
 n : Nat
 toks : List K
def LnAt (W : World) (g o : Nat) (x : Ln) : Prop :=
 ∃ v,W.cell? ⟨g,o,none⟩ = some (.int .i64 x.kind) ∧ W.cell? ⟨g,o + 1,none⟩ = some (.int .i64 x.first) ∧ W.cell? ⟨g,o + 2,none⟩ = some (.int .i64 x.n) ∧ W.cell? ⟨g,o + 3,none⟩ = some v ∧ Ks W v x.toks
theorem LnAt.below {W W' : World} {g o : Nat} {x : Ln} (h : LnAt W g o x) (hb : Below W.heap.size W W') : LnAt W' g o x:=by
 obtain ⟨v,h0,h1,h2,h3,h4⟩:=h
 have hg:=lt_of_cell h0
 exact ⟨v,(hb.cell (p:=⟨g,o,none⟩) hg).trans h0,(hb.cell (p:=⟨g,o + 1,none⟩) hg).trans h1,(hb.cell (p:=⟨g,o + 2,none⟩) hg).trans h2,(hb.cell (p:=⟨g,o + 3,none⟩) hg).trans h3,h4.below hb⟩
def Lns (W : World) (v : Value) (ls : List Ln) : Prop :=
 ∃ ad cap,v = .slice ad ls.length cap ∧ ls.length ≤ cap ∧ cap ≤ maxLen ∧ ∀ i x,ls[i]? = some x → ∃ g o,ad = some ⟨g,o,none⟩ ∧ LnAt W g (o + i * 4) x
theorem Lns.below {W W' : World} {v : Value} {ls : List Ln} (h : Lns W v ls) (hb : Below W.heap.size W W') : Lns W' v ls:=by
 obtain ⟨ad,cap,rfl,h1,h2,h3⟩:=h
 refine ⟨ad,cap,rfl,h1,h2,fun i t ht => ?_⟩
 obtain ⟨g,o,e,c⟩:=h3 i t ht
 exact ⟨g,o,e,c.below hb⟩
def SlK (W : World) (vs : List Value) (ls : List Ln) : Prop:=vs.length = ls.length ∧ ∀ (i : Nat) (v : Value) (x : Ln),vs[i]? = some v → ls[i]? = some x → Ks W v x.toks ∧ v.oneCell' = true
theorem SlK.below {W W' : World} {vs : List Value} {ls : List Ln} (h : SlK W vs ls) (hb : Below W.heap.size W W') : SlK W' vs ls :=
 ⟨h.1,fun i v x h1 h2 => ⟨(h.2 i v x h1 h2).1.below hb,(h.2 i v x h1 h2).2⟩⟩
theorem SlK.nil (W : World) : SlK W [] []:=⟨rfl,fun i v x h => by simp at h⟩
def lnCells : List Value → List Ln → List Value
 | v :: vs,x :: ls => [.int .i64 x.kind, .int .i64 x.first, .int .i64 x.n,v] ++ lnCells vs ls
 | _,_ => []
theorem lnCells_append : ∀ (a b : List Value) (x y : List Ln),a.length = x.length → lnCells (a ++ b) (x ++ y) = lnCells a x ++ lnCells b y
 | [],b,[],y,_ => rfl
 | v :: a,b,t :: x,y,h => by
  have:=lnCells_append a b x y (by simpa using h)
  simp [lnCells,this]
theorem lnCells_get : ∀ (a : List Value) (x : List Ln) i v t,a[i]? = some v → x[i]? = some t → ∀ j u,[Value.int .i64 t.kind, .int .i64 t.first, .int .i64 t.n,v][j]? = some u → (lnCells a x)[i * 4 + j]? = some u
 | [],x,i,v,t,h,_ => by simp at h
 | w :: a,[],i,v,t,_,h => by simp at h
 | w :: a,y :: x,i,v,t,h1,h2 => by
  intro j u hj
  have hlt:=(List.getElem?_eq_some_iff.1 hj).1
  cases i with
  | zero =>
   simp at h1 h2; subst h1 h2
   rw [lnCells,List.getElem?_append_left (by simpa using hlt),Nat.zero_mul,Nat.zero_add]
   exact hj
  | succ i =>
   simp at h1 h2
   rw [lnCells,List.getElem?_append_right (by simp; omega)]
   have:=lnCells_get a x i v t h1 h2 j u hj
   rw [show (i + 1) * 4 + j - [Value.int .i64 y.kind, .int .i64 y.first, .int .i64 y.n,w].length = i * 4 + j by simp; omega]
   exact this
theorem Lns.of_row {W : World} {base : Nat} {v : Value} {vs : List Value} {ls : List Ln} (h : W.ownsRow base 46 4 v ls.length (lnCells vs ls)) (hk : SlK W vs ls) : Lns W v ls:=by
 have hc:=fun g => h.cells (g:=g)
 rcases h.2 with ⟨rfl,h0⟩ | ⟨g,cap,cur,rfl,_,_,h1,h2,_,_⟩
 ·refine ⟨none,0,by rw [h0],by omega,Nat.zero_le _,fun i x hx => ?_⟩
  rw [List.length_eq_zero_iff.1 h0] at hx
  simp at hx
 ·refine ⟨_,cap,rfl,h1,h2,fun i t ht => ⟨g,0,rfl,?_⟩⟩
  have hi : i < vs.length:=by rw [hk.1]; exact (List.getElem?_eq_some_iff.1 ht).1
  have key : ∀ j u,[Value.int .i64 t.kind, .int .i64 t.first, .int .i64 t.n,vs[i]][j]? = some u → W.cell? ⟨g,0 + (i * 4 + j),none⟩ = some u:=fun j u hj => by
   have:=hc g rfl (i * 4 + j) u (lnCells_get vs ls i vs[i] t (List.getElem?_eq_getElem hi) ht j u hj)
   rwa [add_none] at this
  refine ⟨vs[i],key 0 _ rfl,?_,?_,?_,(hk.2 i _ t (List.getElem?_eq_getElem hi) ht).1⟩
  ·exact key 1 _ rfl
  ·exact key 2 _ rfl
  ·exact key 3 _ rfl
theorem infoLn : (Tryz.prog.info? 46).map (fun i => (i.zero,i.size,i.bytes)) = some (some (.agg #[.int .i64 0, .int .i64 0, .int .i64 0, .slice none 0 0]),4,48):=by kernel_rfl
end
section
open Go.RowKit Go.Shelf
open Lx (T)
theorem extract_list (s : ByteArray) (a b : Nat) : s.extract a b = ⟨((s.data.toList.drop a).take (b - a)).toArray⟩:=by
  apply ByteArray.ext
  apply Array.toList_inj.1
  rw [Lib.extract_data]
theorem row_below {W W' : World} {base e sz n : Nat} {v : Value} {cs : List Value} (h : W.ownsRow base e sz v n cs) (hb : Below W.heap.size W W') : W'.ownsRow base e sz v n cs:=by
  refine ⟨h.1,?_⟩
  rcases h.2 with h' | ⟨g,cap,cur,h',h1,h2,h3⟩
  · exact .inl h'
  · exact .inr ⟨g,cap,cur,h',h1,(hb.block g (Array.getElem?_eq_some_iff.1 h2).1).trans h2,h3⟩
theorem tokens_any (f : Int) (s : ByteArray) (hs : s.size ≤ 1000000000) (w : World) (hG : Glob w) :
    Calls Tryz.prog 29 #[.int .i64 f, .string s] w (ToksPost w f (Lx.tk false (Sp.left 0 s.data.toList))):=by
  obtain ⟨i0,hi,hz0,hz1,hz2⟩:=info_parts infoTok
  have HG:=Lib.hid hG
  clear hG
  have hll:=Sp.left_le 0 s.data.toList
  rw [size_list] at hll
  obtain ⟨l,hl⟩ : ∃ l,l = Sp.left 0 s.data.toList:=⟨_,rfl⟩
  rw [← hl] at hll ⊢
  have HL:=Lib.hid hl
  have HP : Hid (∀ x ∈ l,x.2 < s.size):=Lib.hid (fun x hx => by rw [hl] at hx; have:=Sp.left_lt hx; rw [size_list] at this; omega)
  clear hl
  go_enter Tryz.func29,Tryz.ntmps29
  go_wp2_with fail
  refine (join_any s (by omega) _ HG.out).mono ?_
  rintro e w1 ⟨cv,rfl,hcv,hB1⟩
  rw [← HL.out] at hcv
  obtain ⟨ad,cap,rfl,hc1,hc2, -⟩:=id hcv
  unfold maxLen at hc2
  go_wp2_with fail
  refine (text_any _ l _ hcv (by omega)).mono ?_
  rintro e w2 ⟨rfl,hB2⟩
  replace hcv:=hcv.below hB2
  replace hB2 : Below w.heap.size w w2:=Below.trans hB1 (hB2.mono hB1.size)
  have hG2:=Lib.hid (HG.out.later hB2)
  obtain ⟨S,hS⟩ : ∃ S : ByteArray,S = ⟨(l.map Prod.fst).toArray⟩:=⟨_,rfl⟩
  have hSl : S.data.toList = Lx.bytes l:=by rw [hS]; rfl
  have hSz : S.size = l.length:=by rw [hS,mk_size]; simp
  rw [← hS]
  rw [← hSz] at hll hc1 hcv ⊢
  have Hn:=Lib.hid hSz
  have HS:=Lib.hid hSl
  have HC:=Lib.hid hcv
  have HB2:=Lib.hid hB2
  clear hS hSl hSz hcv hB1 hB2
  go_wp2_with fail
  go_loopw [7,8,9] (fun o p a wr => ∃ (k : Nat) (P : Bool) (acc : List T),a = .int .i64 k ∧ p = .bool P ∧ Sofar l k P acc ∧ wr.ownsRow w2.heap.size 63 6 o acc.length (tokCells f acc) ∧ Below w2.heap.size w2 wr) (fun _ _ a _ => S.size - (intOf a).toNat)
  case atStart => exact ⟨0,false,[],rfl,rfl,sofar_start _,World.ownsRow_nil _ _ _ _,Below.refl _ _⟩
  case round =>
    obtain ⟨k,P,acc,rfl,rfl,hsf,hrow,hB⟩:=hrel
    have hkl:=hsf.1
    have hal:=hsf.2.1
    rw [← Hn.out] at hkl
    by_cases hlt : k < S.size
    · have hlt' : k < l.length:=by rw [← Hn.out]; exact hlt
      obtain ⟨B,hBk⟩ : ∃ B,B = Lx.blankLen (Lx.bytes (l.drop k)):=⟨_,rfl⟩
      have HBk:=Lib.hid hBk
      have hGr:=Lib.hid (hG2.out.later hB)
      by_cases hb : 0 < B
      · obtain ⟨h1,h2⟩:=sofar_blank hsf (by rw [← hBk]; exact hb)
        rw [← hBk,← Hn.out] at h1
        rw [← hBk] at h2
        clear hBk
        go_wp2_with fail
        refine (blank_any _ (by simp; omega) (by simp; omega) _ hGr.out).mono ?_
        rintro e w' ⟨rfl,rfl⟩
        rw [Lib.extract_to_end,HS.out,← Lx.bytes_drop,← HBk.out]
        go_wp2_with fail
        go_roundw
        case rel => exact ⟨k + B,true,acc,by go_num,rfl,h2,hrow,hB⟩
        case measure => simp [intOf]; omega
      · have hb0 : B = 0:=by omega
        obtain ⟨h1,h2,h3⟩:=sofar_tok hsf hlt' (by rw [← hBk]; exact hb0)
        obtain ⟨q,hq⟩ : ∃ q,q = Lx.first (Lx.bytes (l.drop k)):=⟨_,rfl⟩
        obtain ⟨t,ht⟩ : ∃ t,t = Lx.tokAt P (l.drop k):=⟨_,rfl⟩
        have htk : t.kind = q.1:=by rw [ht,hq]; rfl
        have htt : t.text = (Lx.bytes (l.drop k)).take q.2:=by rw [ht,hq]; rfl
        have htb : t.bl = P:=by rw [ht]; rfl
        have htf : t.fr = (l.getD k (0,0)).2:=by rw [ht]; unfold Lx.tokAt; simp [List.getD_eq_getElem?_getD]
        have hto : t.to = (l.getD (k + (q.2 - 1)) (0,0)).2 + 1:=by rw [ht,hq]; unfold Lx.tokAt; simp [List.getD_eq_getElem?_getD]
        rw [← hq] at h1 h2 h3
        rw [← ht] at h3
        rw [← Hn.out] at h2
        obtain ⟨kd,m⟩:=q
        dsimp only at h1 h2 h3 htk htt hto
        have hxk : l[k]? = some (l.getD k (0,0)):=by rw [List.getD_eq_getElem?_getD,List.getElem?_eq_getElem hlt']; rfl
        have hjl : k + (m - 1) < l.length:=by rw [← Hn.out]; omega
        have hxj : l[k + (m - 1)]? = some (l.getD (k + (m - 1)) (0,0)):=by rw [List.getD_eq_getElem?_getD,List.getElem?_eq_getElem hjl]; rfl
        have hpj:=HP.out _ (List.mem_of_getElem? hxj)
        obtain ⟨g,o,had, -, -, -,hg,hcell⟩:=HC.out.cells (by omega)
        have c1:=(hcell k _ hxk).2
        have c2:=(hcell _ _ hxj).2
        rw [← htf] at c1
        obtain ⟨tl,htl⟩ : ∃ tl,tl = (l.getD (k + (m - 1)) (0,0)).2:=⟨_,rfl⟩
        rw [← htl] at c2 hto hpj
        subst had
        have HQ:=Lib.hid hq
        have H3:=Lib.hid h3
        have HTk:=Lib.hid htk
        have HTt:=Lib.hid htt
        have HTo:=Lib.hid hto
        have HTb:=Lib.hid htb
        obtain ⟨j,hj⟩ : ∃ j,j = k + (m - 1):=⟨_,rfl⟩
        rw [← hj] at c2
        have Hj:=Lib.hid hj
        obtain ⟨fr,hfr⟩ : ∃ fr,fr = t.fr:=⟨_,rfl⟩
        rw [← hfr] at c1
        have HFr:=Lib.hid hfr
        clear hq ht htk htt htb htf hto h3 hxk hjl hxj hcell htl hBk hfr hsf hj
        go_wp2_with fail
        refine (blank_any _ (by simp; omega) (by simp; omega) _ hGr.out).mono ?_
        rintro e w' ⟨rfl,rfl⟩
        rw [Lib.extract_to_end,HS.out,← Lx.bytes_drop,← HBk.out]
        go_wp2_with fail
        refine (first_any _ (by simp; omega) (by simp; omega) _ hGr.out).mono ?_
        rintro e w3 ⟨rfl,hB3⟩
        rw [Lib.extract_to_end,HS.out,← Lx.bytes_drop,← HQ.out]
        replace hrow:=row_below hrow hB3
        replace hB3 : Below w2.heap.size w2 w3:=hB.trans (hB3.mono hB.size)
        have d1 : w3.cell? ⟨g,o + k * 2 + 1,none⟩ = some (.int .i64 fr):=(hB3.cell (p:=⟨g,o + k * 2 + 1,none⟩) hg).trans c1
        have d2 : w3.cell? ⟨g,o + j * 2 + 1,none⟩ = some (.int .i64 tl):=(hB3.cell (p:=⟨g,o + j * 2 + 1,none⟩) hg).trans c2
        clear hB c1 c2
        go_wp2_with fail
        have ag : u7.ownBlock ≠ some g:=fun e => by have:=(hrow.lt g e).1; omega
        have hw3:=hB3.size
        have z0 : (0 : Int) ≤ k:=by omega
        have z1 : (k : Int) < S.size:=by omega
        have z2 : (k : Int) ≤ (k : Int) + m:=by omega
        have z3 : (k : Int) + m ≤ S.size:=by omega
        have z4 : (0 : Int) ≤ (j : Int):=by omega
        have z5 : (j : Int) < S.size:=by have:=Hj.out; omega
        have z6 : (0 : Int) ≤ (k : Int) + m:=by omega
        have hbb : (acc.length + 1) * 56 ≤ 140737488355328:=by omega
        have hmx : acc.length + 1 ≤ maxLen:=by unfold maxLen; omega
        have e4 : ((k : Int) + m).toNat = k + m:=by omega
        have e1 : IntKind.i64.wrap ((k : Int) + m) = (k : Int) + m:=IntWalk.i64_in _ (by omega)
        have e2 : IntKind.i64.wrap ((k : Int) + m - 1) = (j : Int):=by rw [IntWalk.i64_in _ (by omega)]; have:=Hj.out; omega
        have e3 : IntKind.i64.wrap ((tl : Int) + 1) = (tl : Int) + 1:=IntWalk.i64_in _ (by omega)
        go_region_held3 (fun w' => w'.cell? ⟨g,o + k * 2 + 1,none⟩ = some (.int .i64 fr) ∧ w'.cell? ⟨g,o + j * 2 + 1,none⟩ = some (.int .i64 tl))
          (first
            | go_keep
            | (go_split_ands
               refine ⟨?_,?_⟩
               · (rw [hgrow.cell_far _ (by simp; omega) (Ne.symm ag)]; assumption)
               · (rw [hgrow.cell_far _ (by simp; omega) (Ne.symm ag)]; assumption)))
          ((refine step_append_lies _ (by rfl) _ _ _ (by rfl) w2.heap.size 63 i0 _ 6 56 Tryz.underlying44 hi hz0 hz1 hz2 rfl (by omega) u7 acc.length (tokCells f acc) (by rfl) ((hrow.alloc _).drew)
              ⟨w3.heap.size,0,none⟩ 1 1 [.int .i64 kd, .string (S.extract k (k + m)), .int .i64 f, .int .i64 fr, .int .i64 ((tl : Int) + 1), .bool P] (by rfl) (by rfl) (World.news_of_block (cs:=#[.int .i64 kd, .string (S.extract k (k + m)), .int .i64 f, .int .i64 fr, .int .i64 ((tl : Int) + 1), .bool P]) (t:=63) (fr:=(0,0)) (heap_alloc_new w3 _)) (by simp [Value.oneCell'])
              (by omega) hmx hbb (by simp; omega) (w3.heap.size + 1) (by simp) ?_; intro gg cap' w4 hown1 hgrow hat hlt4))
        clear e1 e2 e3 e4
        go_wp2_with fail
        go_roundw
        case rel =>
          refine ⟨k + m,false,acc ++ [t],by go_num,rfl,H3.out,?_,?_⟩
          · have hx : S.extract k (k + m) = ⟨t.text.toArray⟩:=by rw [extract_list,HS.out,← Lx.bytes_drop,HTt.out,show k + m - k = m by omega]
            have hc : tokCells f (acc ++ [t]) = tokCells f acc ++ [.int .i64 kd, .string (S.extract k (k + m)), .int .i64 f, .int .i64 fr, .int .i64 ((tl : Int) + 1), .bool P]:=by
              rw [tokCells_append,hx,HFr.out,show ((tl : Int) + 1) = ((t.to : Nat) : Int) by rw [HTo.out]; rfl,← HTb.out,← HTk.out]
              simp [tokCells,cellsOne]
            rw [hc,List.length_append]
            exact hown1
          · exact ((hB3.alloc hw3 _).drew).grown hgrow (by simp; omega) (fun i ei => (hrow.lt i ei).1)
        case measure => simp [intOf]; omega
    · have he:=sofar_end hsf (by rw [← Hn.out]; omega)
      go_wp2_with fail
      go_ret
      rw [← he]
      exact ⟨_,rfl,Toks.of_row hrow,HB2.out.trans (hB.mono HB2.out.size)⟩
end
section
open Go.RowKit Go.Shelf
theorem ba_beq (a b : ByteArray) : (a.toList == b.toList) = decide (a = b):=by
 rw [Bool.eq_iff_iff,beq_iff_eq,decide_eq_true_iff,Lib.toList_data,Lib.toList_data]
 constructor
 ·intro e
  apply ByteArray.ext
  exact Array.toList_inj.1 e
 ·intro e; rw [e]
theorem is_pre (s p : ByteArray) (i : Nat) : p.data.toList.isPrefixOf (s.data.toList.drop i) = decide (s.extract i (i + p.size) = p):=by
 rw [Bool.eq_iff_iff,List.isPrefixOf_iff_prefix,List.prefix_iff_eq_take,decide_eq_true_iff,extract_list,size_list,show i + p.size - i = p.size by omega]
 constructor
 ·intro e
  apply ByteArray.ext
  apply Array.toList_inj.1
  rw [← e]
 ·intro e
  exact (congrArg (fun b : ByteArray => b.data.toList) e).symm
theorem is_short (s p : ByteArray) (i : Nat) (h : ¬ i + p.size ≤ s.size) (hp : 0 < p.size) : p.data.toList.isPrefixOf (s.data.toList.drop i) = false:=by
 refine pre_no _ _ ?_
 rw [List.length_drop,size_list,size_list]; omega
theorem isBl_range (c : UInt8) : Lx.isBl c = (((c.toNat : Int) == 32) || ((c.toNat : Int) == 9) || (decide (11 ≤ (c.toNat : Int)) && decide ((c.toNat : Int) ≤ 13))):=by
 rw [isBl_int,Bool.eq_iff_iff]
 simp
 omega
def cend (i k : Nat) : Option Nat → Nat
 | none => i
 | some m => k + m + 2
theorem clos_hit (l : List UInt8) (h : [42,47].isPrefixOf l = true) : Lx.clos l = some 0:=by
 match l,h with
 | c :: d :: r,h =>
  have e : Lx.clos (c :: d :: r) = if c = 42 ∧ d = 47 then some 0 else (Lx.clos (d :: r)).map (· + 1):=rfl
  simp only [List.isPrefixOf,Bool.and_true,Bool.and_eq_true,beq_iff_eq] at h
  rw [e,if_pos ⟨h.1.symm,h.2.symm⟩]
 | [c],h => simp [List.isPrefixOf] at h
 | [],h => simp [List.isPrefixOf] at h
theorem clos_on (c : UInt8) (r : List UInt8) (h : [42,47].isPrefixOf (c :: r) = false) : Lx.clos (c :: r) = (Lx.clos r).map (· + 1):=by
 match r,h with
 | [],_ => rfl
 | d :: r,h =>
  have e : Lx.clos (c :: d :: r) = if c = 42 ∧ d = 47 then some 0 else (Lx.clos (d :: r)).map (· + 1):=rfl
  rw [e,if_neg]
  rintro ⟨rfl,rfl⟩
  simp [List.isPrefixOf] at h
theorem cend_map (i k : Nat) (o : Option Nat) : cend i k (o.map (· + 1)) = cend i (k + 1) o:=by
 cases o with
 | none => rfl
 | some m => simp [cend]; omega
theorem pre_two (a b : UInt8) (l : List UInt8) (h : [a,b].isPrefixOf l = true) : ∃ r,l = a :: b :: r:=by
 obtain ⟨r,e⟩:=List.isPrefixOf_iff_prefix.1 h
 exact ⟨r,e.symm⟩
theorem comment_line (l : List UInt8) (h : [47,47].isPrefixOf l = true) : Lx.commentLen l = Lx.lineLen l:=by
 obtain ⟨r,rfl⟩:=pre_two _ _ _ h
 rw [Lx.commentLen_cons,if_pos ⟨rfl,rfl⟩]
theorem comment_block (l : List UInt8) (h : [47,42].isPrefixOf l = true) (i : Nat) : 2 ≤ l.length ∧ i + Lx.commentLen l = cend i (i + 2) (Lx.clos (l.drop 2)):=by
 obtain ⟨r,rfl⟩:=pre_two _ _ _ h
 refine ⟨by simp,?_⟩
 rw [Lx.commentLen_cons,if_neg (by decide),if_pos ⟨rfl,rfl⟩,List.drop_succ_cons,List.drop_succ_cons,List.drop_zero]
 cases Lx.clos r with
 | none => rfl
 | some m => simp [Lx.upto,cend]; omega
theorem comment_no (l : List UInt8) (h1 : [47,47].isPrefixOf l = false) (h2 : [47,42].isPrefixOf l = false) : Lx.commentLen l = 0:=by
 match l,h1,h2 with
 | [],_,_ => rfl
 | [c],_,_ => rfl
 | c :: d :: r,h1,h2 =>
  rw [Lx.commentLen_cons,if_neg,if_neg]
  ·rintro ⟨rfl,rfl⟩; simp [List.isPrefixOf] at h2
  ·rintro ⟨rfl,rfl⟩; simp [List.isPrefixOf] at h1
theorem line_yes (c : UInt8) (r : List UInt8) (h : c ≠ 10) : Lx.lineLen (c :: r) = 1 + Lx.lineLen r:=by
 unfold Lx.lineLen
 rw [List.takeWhile_cons,if_pos (by simpa using h)]; simp; omega
theorem line_no (r : List UInt8) : Lx.lineLen (10 :: r) = 0:=by
 unfold Lx.lineLen
 rw [List.takeWhile_cons,if_neg (by simp)]; rfl
def rword : List UInt8 → Nat
 | [] => 0
 | c :: r => if Lx.letter c then Lx.wordLen (c :: r) else 0
theorem rword_cons (c : UInt8) (r : List UInt8) : rword (c :: r) = if Lx.letter c then Lx.wordLen (c :: r) else 0:=rfl
end
section
open Go.RowKit Go.Shelf
theorem expo_cons (s : ByteArray) (k : Nat) (h : k + 1 < s.size) : expo (s.data.toList.drop k) = (Lx.isE s[k] && Lx.isSg s[k + 1]):=by
 rw [drop_at s k (by omega),drop_at s (k + 1) h]; rfl
theorem expo_last (s : ByteArray) (k : Nat) (h : ¬ k + 1 < s.size) : expo (s.data.toList.drop k) = false:=by
 have hl : (s.data.toList.drop k).length < 2:=by rw [List.length_drop,size_list]; omega
 match s.data.toList.drop k,hl with
 | [],_ => rfl
 | [c],_ => rfl
def sgAt (s : ByteArray) (k : Nat) : Bool:=if h : k + 1 < s.size then Lx.isSg s[k + 1] else false
theorem expo_sg (s : ByteArray) (k : Nat) (h : k < s.size) : expo (s.data.toList.drop k) = (Lx.isE s[k] && sgAt s k):=by
 unfold sgAt
 by_cases h2 : k + 1 < s.size
 ·rw [dif_pos h2,expo_cons s k h2]
 ·rw [dif_neg h2,expo_last s k h2,Bool.and_false]
theorem sg_cases (s : ByteArray) (k : Nat) : (sgAt s k = false ∧ ¬ k + 1 < s.size) ∨ (sgAt s k = true ∧ ∃ h : k + 1 < s.size,((s[k + 1].toNat : Int) == 43) = true) ∨
  (sgAt s k = true ∧ ∃ h : k + 1 < s.size,((s[k + 1].toNat : Int) == 43) = false ∧ ((s[k + 1].toNat : Int) == 45) = true) ∨ (sgAt s k = false ∧ ∃ h : k + 1 < s.size,((s[k + 1].toNat : Int) == 43) = false ∧ ((s[k + 1].toNat : Int) == 45) = false):=by
 unfold sgAt
 by_cases h2 : k + 1 < s.size
 ·rw [dif_pos h2]
  have hsg:=isSg_int s[k + 1]
  rw [hsg]
  cases h3 : ((s[k + 1].toNat : Int) == 43) with
  | true => exact .inr (.inl ⟨rfl,h2,h3⟩)
  | false =>
   cases h4 : ((s[k + 1].toNat : Int) == 45) with
   | true => exact .inr (.inr (.inl ⟨rfl,h2,h3,h4⟩))
   | false => exact .inr (.inr (.inr ⟨rfl,h2,h3,h4⟩))
 ·rw [dif_neg h2]
  exact .inl ⟨rfl,h2⟩
theorem isE_cases (c : UInt8) (h : Lx.isE c = true) : ((c.toNat : Int) == 101) = true ∨ (((c.toNat : Int) == 101) = false ∧ ((c.toNat : Int) == 69) = true) ∨ (((c.toNat : Int) == 101) = false ∧ ((c.toNat : Int) == 69) = false ∧ ((c.toNat : Int) == 112) = true) ∨
  (((c.toNat : Int) == 101) = false ∧ ((c.toNat : Int) == 69) = false ∧ ((c.toNat : Int) == 112) = false ∧ ((c.toNat : Int) == 80) = true):=by
 rw [isE_int] at h
 revert h
 cases ((c.toNat : Int) == 101) <;> cases ((c.toNat : Int) == 69) <;> cases ((c.toNat : Int) == 112) <;> cases ((c.toNat : Int) == 80) <;> simp
theorem isE_none (c : UInt8) (h : Lx.isE c = false) : ((c.toNat : Int) == 101) = false ∧ ((c.toNat : Int) == 69) = false ∧ ((c.toNat : Int) == 112) = false ∧ ((c.toNat : Int) == 80) = false:=by
 rw [isE_int] at h
 revert h
 cases ((c.toNat : Int) == 101) <;> cases ((c.toNat : Int) == 69) <;> cases ((c.toNat : Int) == 112) <;> cases ((c.toNat : Int) == 80) <;> simp
theorem numc_cases (c : UInt8) : (Lx.numc c = true ∧ (Lx.letter c = true ∨ (Lx.letter c = false ∧ Lx.digit c = true) ∨ (Lx.letter c = false ∧ Lx.digit c = false ∧ ((c.toNat : Int) == 46) = true))) ∨ (Lx.numc c = false ∧ Lx.letter c = false ∧ Lx.digit c = false ∧ ((c.toNat : Int) == 46) = false):=by
 rw [numc_parts]
 cases Lx.letter c <;> cases Lx.digit c <;> cases ((c.toNat : Int) == 46) <;> simp
theorem num_step (s : ByteArray) (i k R : Nat) (hk : i + k < s.size) (he : R = k + Lx.numRest (s.data.toList.drop (i + k))) :
  (expo (s.data.toList.drop (i + k)) = true → i + k + 2 ≤ s.size ∧ R = (k + 2) + Lx.numRest (s.data.toList.drop (i + (k + 2)))) ∧
  (expo (s.data.toList.drop (i + k)) = false → Lx.numc s[i + k] = true → R = (k + 1) + Lx.numRest (s.data.toList.drop (i + (k + 1)))) ∧
  (expo (s.data.toList.drop (i + k)) = false → Lx.numc s[i + k] = false → R = k):=by
 refine ⟨fun hx => ?_,fun hx hc => ?_,fun hx hc => ?_⟩
 ·obtain ⟨h2,hn⟩:=num_two _ hx
  rw [List.length_drop,size_list] at h2
  rw [List.drop_drop] at hn
  refine ⟨by omega,?_⟩
  rw [he,hn,show i + (k + 2) = i + k + 2 by omega]; omega
 ·rw [drop_at s (i + k) hk] at hx he
  rw [he,num_one _ _ hx hc,show i + (k + 1) = i + k + 1 by omega]; omega
 ·rw [drop_at s (i + k) hk] at hx he
  rw [he,num_no _ _ hx hc]; rfl
end
section
open Go.RowKit Go.Shelf
def rq (q : UInt8) (l : List UInt8) : Nat:=if q = 39 ∧ Lx.closedLen q l = 2 then 0 else Lx.closedLen q l
def Strs (W : World) (b : Nat) (L : List (List UInt8)) : Prop:=∀ k x,L[k]? = some x → W.cell? ⟨b,k,none⟩ = some (.string ⟨x.toArray⟩)
theorem any_take_succ (L : List (List UInt8)) (l : List UInt8) (k : Nat) (h : k < L.length) : (L.take (k + 1)).any (·.isPrefixOf l) = ((L.take k).any (·.isPrefixOf l) || L[k].isPrefixOf l):=by
 rw [List.take_succ_eq_append_getElem h,List.any_append]; simp
end
section
open Go.RowKit Go.Shelf
def secs : Nat → Code → Code
 | 0,c => c
 | n + 1, .seq _ b => secs n b
 | _,c => c
def fstC : Code → Code
 | .seq a _ => a
 | c => c
def isSeq : Code → Bool
 | .seq _ _ => true
 | _ => false
theorem secs_succ : ∀ (n : Nat) (c : Code),isSeq (secs n c) = true → secs n c = .seq (fstC (secs n c)) (secs (n + 1) c)
 | 0, .seq a b,_ => rfl
 | n + 1, .seq a b,h => secs_succ n b h
 | n + 1, .skip,h => by simp [secs,isSeq] at h
 | n + 1, .region _ _ _,h => by simp [secs,isSeq] at h
 | n + 1, .cond _ _ _,h => by simp [secs,isSeq] at h
 | n + 1, .loop _,h => by simp [secs,isSeq] at h
 | n + 1, .block _ _,h => by simp [secs,isSeq] at h
 | n + 1, .scope _,h => by simp [secs,isSeq] at h
 | n + 1, .label _,h => by simp [secs,isSeq] at h
 | n + 1, .exit _,h => by simp [secs,isSeq] at h
 | n + 1, .goto _,h => by simp [secs,isSeq] at h
 | n + 1, .ret,h => by simp [secs,isSeq] at h
theorem wp_sec {P : Program} {Q : Exit → Act → World → Prop} {a : Act} {w : World} (n : Nat) (c : Code) (hs : isSeq (secs n c) = true)
  (h : (fstC (secs n c)).wp P (Exit.then (fun a w => (secs (n + 1) c).wp P Q a w) Q) a w) : (secs n c).wp P Q a w:=by
 rw [secs_succ n c hs]
 exact wp_seq h
theorem lit_beq (t : ByteArray) (l : List UInt8) : (t.toList == l) = decide (t = ⟨l.toArray⟩):=by
 rw [← ba_beq,Lib.toList_data ⟨l.toArray⟩]
theorem lit_no {t : ByteArray} {l : List UInt8} (h : ¬ t = ⟨l.toArray⟩) : (t.toList == l) = false:=by rw [lit_beq]; exact decide_eq_false h
theorem lit_yes {t : ByteArray} {l : List UInt8} (h : t = ⟨l.toArray⟩) : (t.toList == l) = true:=by rw [lit_beq]; exact decide_eq_true h
theorem lit_ne {a b : ByteArray} (h : ¬ a = b) : (a.toList == b.toList) = false:=by rw [ba_beq]; exact decide_eq_false h
theorem below_cof {W W' : World} {a : Addr} {v : Value} (h : Below W.heap.size W W') (hc : W.cell? a = some v) : W'.cell? a = some v:=(h.cell (lt_of_cell hc)).trans hc
theorem box6_cells {W : World} {b t : Nat} {a0 a1 a2 a3 a4 a5 : Value} (h : W.heap[b]? = some (.cells #[a0,a1,a2,a3,a4,a5] t (0,0))) :
  W.cell? ⟨b,0,none⟩ = some a0 ∧ W.cell? ⟨b,1,none⟩ = some a1 ∧ W.cell? ⟨b,2,none⟩ = some a2 ∧ W.cell? ⟨b,3,none⟩ = some a3 ∧ W.cell? ⟨b,4,none⟩ = some a4 ∧ W.cell? ⟨b,5,none⟩ = some a5 :=
 ⟨(Lib.cell_of_heap h 0).trans rfl,(Lib.cell_of_heap h 1).trans rfl,(Lib.cell_of_heap h 2).trans rfl,(Lib.cell_of_heap h 3).trans rfl,(Lib.cell_of_heap h 4).trans rfl,(Lib.cell_of_heap h 5).trans rfl⟩
end
section
open Go.RowKit Go.Shelf Go.WideMaps
theorem grownN {w w' : World} (h : Below w.heap.size w w') (row : Option Nat) : w.grownBy w' row:=⟨h.os,h.tape,h.output,h.size,fun k hk _ => h.block k hk⟩
def strCells (l : List ByteArray) : List Value:=l.map .string
theorem strCells_append (a b : List ByteArray) : strCells (a ++ b) = strCells a ++ strCells b:=List.map_append
theorem strCells_length (a : List ByteArray) : (strCells a).length = a.length:=List.length_map _
theorem infoStr : (Tryz.prog.info? 9).map (fun i => (i.zero,i.size,i.bytes)) = some (some (.string ByteArray.empty),1,16):=by kernel_rfl
theorem keyStr : Go.Maps.Keyed Tryz.prog 9:=Go.Maps.string_keyed Tryz.underlying9
theorem zeroUnit (w : World) : (zeroValue 165).run Tryz.prog w = .ok (.agg #[]) w:=by kernel_rfl
theorem str_inj {a b : ByteArray} (h : (Lit.string a.data.toList : Lit) = .string b.data.toList) : a = b:=by
 injection h with h
 cases a; cases b
 simp only at h
 congr
 exact Array.ext' h
theorem keyLit (x : ByteArray) (_ : x.size ≤ maxLen) : WideAt.IsKeyLit (.string x.data.toList):=by
 trivial
theorem Ks.row {W : World} {g o n cap : Nat} {ts : List K} (h : Ks W (.slice (some ⟨g,o,none⟩) n cap) ts) : ∀ j u,(ksCells ts)[j]? = some u → W.cell? ⟨g,o + j,none⟩ = some u:=by
 intro j u hj
 have hlt:=(List.getElem?_eq_some_iff.1 hj).1
 rw [ksCells_length] at hlt
 have hi : j / 6 < ts.length:=by omega
 obtain ⟨g',o',e,c⟩ : ∃ g' o',(some (⟨g,o,none⟩ : Addr)) = some ⟨g',o',none⟩ ∧ KAt W g' (o' + j / 6 * 6) ts[j / 6]:=by
  obtain ⟨ad',cap',e,_,_,h3⟩:=h
  injection e with e1 e2 e3
  subst e1
  exact h3 _ _ (List.getElem?_eq_getElem hi)
 injection e with e
 injection e with e1 e2
 subst e1 e2
 have hm : j % 6 < 6:=Nat.mod_lt _ (by omega)
 have hj6 : j = j / 6 * 6 + j % 6:=by omega
 obtain ⟨t,ht⟩ : ∃ t,t = ts[j / 6]:=⟨_,rfl⟩
 rw [← ht] at c
 have hg : ts[j / 6]? = some t:=by rw [ht]; exact List.getElem?_eq_getElem hi
 obtain ⟨q,hq⟩ : ∃ q,q = j / 6:=⟨_,rfl⟩
 obtain ⟨r,hr⟩ : ∃ r,r = j % 6:=⟨_,rfl⟩
 rw [← hq] at c hg hj6
 rw [← hr] at hm hj6
 clear hq hr ht hi hlt
 subst hj6
 have key:=fun v hv => ksCells_get ts q t hg r v hv
 have hr6 : r < (kCells t).length:=hm
 have e3:=key _ (List.getElem?_eq_getElem hr6)
 rw [hj] at e3
 obtain rfl:=Option.some.inj e3
 obtain ⟨c0,c1,c2,c3,c4,c5⟩:=c
 have h6 : r = 0 ∨ r = 1 ∨ r = 2 ∨ r = 3 ∨ r = 4 ∨ r = 5:=by omega
 rw [← Nat.add_assoc]
 rcases h6 with rfl | rfl | rfl | rfl | rfl | rfl
 ·exact c0
 ·exact c1
 ·exact c2
 ·exact c3
 ·exact c4
 ·exact c5
theorem strCells_get {ps : List ByteArray} {i : Nat} {s : ByteArray} (h : ps[i]? = some s) : (strCells ps)[i]? = some (.string s):=by simp [strCells,h]
def Sts (W : World) (v : Value) (ps : List ByteArray) : Prop :=
 ∃ ad cap,v = .slice ad ps.length cap ∧ ps.length ≤ cap ∧ cap ≤ maxLen ∧ ∀ i s,ps[i]? = some s → ∃ g o,ad = some ⟨g,o,none⟩ ∧ W.cell? ⟨g,o + i,none⟩ = some (.string s)
theorem Sts.below {W W' : World} {v : Value} {ps : List ByteArray} (h : Sts W v ps) (hb : Below W.heap.size W W') : Sts W' v ps:=by
 obtain ⟨ad,cap,rfl,h1,h2,h3⟩:=h
 refine ⟨ad,cap,rfl,h1,h2,fun i s hs => ?_⟩
 obtain ⟨g,o,e,c⟩:=h3 i s hs
 exact ⟨g,o,e,(hb.cell (p:=⟨g,o + i,none⟩) (lt_of_cell c)).trans c⟩
theorem Sts.of_row {W : World} {base n : Nat} {v : Value} {ps : List ByteArray} (h : W.ownsRow base 9 1 v n (strCells ps)) : Sts W v ps:=by
 obtain rfl : n = ps.length:=by have:=h.1; rw [strCells_length] at this; omega
 have hc:=fun g => h.cells (g:=g)
 rcases h.2 with ⟨rfl,h0⟩ | ⟨g,cap,cur,rfl,_,_,h1,h2,_,_⟩
 ·refine ⟨none,0,by rw [h0],by omega,Nat.zero_le _,fun i x hx => ?_⟩
  rw [List.length_eq_zero_iff.1 h0] at hx
  simp at hx
 ·refine ⟨_,cap,rfl,h1,h2,fun i t ht => ⟨g,0,rfl,?_⟩⟩
  have:=hc g rfl i _ (strCells_get ht)
  rwa [add_none] at this
end
section
open Go.RowKit Go.Shelf
def Errs (w : World) : Prop:=(∃ te pe,w.cell? ⟨4,0,none⟩ = some (.iface te pe)) ∧ ∃ te pe,w.cell? ⟨5,0,none⟩ = some (.iface te pe)
theorem Errs.pos {w : World} (h : Errs w) : 5 < w.heap.size:=by
 obtain ⟨_,te,pe,h⟩:=h
 exact lt_of_cell h
theorem Errs.below {w w' : World} {n : Nat} (h : Errs w) (hb : Below n w w') (hn : 5 < n) : Errs w':=by
 obtain ⟨⟨te,pe,h1⟩,te',pe',h2⟩:=h
 exact ⟨⟨te,pe,(hb.cell (p:=⟨4,0,none⟩) (by show 4 < n; omega)).trans h1⟩,te',pe',(hb.cell (p:=⟨5,0,none⟩) (by show 5 < n; omega)).trans h2⟩
theorem Errs.later {w w' : World} (h : Errs w) (hb : Below w.heap.size w w') : Errs w':=h.below hb h.pos
def Gv (w : World) : Prop:=Glob w ∧ Errs w
theorem Gv.later {w w' : World} (h : Gv w) (hb : Below w.heap.size w w') : Gv w':=⟨h.1.later hb,h.2.later hb⟩
end
section
open Go.ChangeShapes Go.WideShapes Go.ChangeAt Go.RowKit Go.Deep
theorem Tryz.own : ownKnob Tryz.prog.godebug = none:=by kernel_rfl
theorem Tryz.laidOut : laidOutB Tryz.prog = true:=by kernel_rfl
theorem spot_none {w : World} {a : Addr} {v : Value} (h : w.cell? a = some v) : a = ⟨a.block,a.off,none⟩:=by
 obtain ⟨b,o,s⟩:=a
 cases s with
 | none => rfl
 | some s =>
  unfold World.cell? at h
  split at h
  ·simp at h
  ·cases h
section
variable {H : Type} {enc : TypeId × Value → H}
theorem stays_all {P : Program} (hl : laidOutB P = true) {W W' : World} (hb : Below W.heap.size W W') : ∀ {ts : List TypeId} {vs : List Value} {ds : List (DataW H)} {ps : List MemPlace},(ts.all fun t => P.readableRec t && decide (t < P.types.size)) = true →
  DataW.TrodAll enc P W 0 (fun _ => true) true ts vs ds ps → (∀ x ∈ ps,x.block < W.heap.size) → DataW.TrodAll enc P W' 0 (fun b => decide (b < W.heap.size)) true ts vs ds ps:=by
 intro ts
 induction ts with
 | nil =>
  intro vs ds ps _ h _
  obtain ⟨rfl,rfl,rfl⟩:=trodAll_nil h
  exact trodAll_mk0
 | cons t ts ih =>
  intro vs ds ps hr h hlt
  obtain ⟨v,vs',d,ds',p,q,rfl,rfl,rfl,h0,r0⟩:=trodAll_cons h
  simp only [List.all_cons,Bool.and_eq_true,decide_eq_true_iff] at hr
  exact trodAll_cons_mk (Below.trod hl hr.1.1 hr.1.2 h0 hb fun x hx => hlt x (List.mem_append_left _ hx)) (ih hr.2 r0 fun x hx => hlt x (List.mem_append_right _ hx))
theorem cells9 : Tryz.prog.cellsOf 9 = 1:=by kernel_rfl
theorem open_names {W : World} {r : Reach} {b0 : Nat} {v : Value} {d : DataW H} {ps : List MemPlace} (hv : Value.okWide Tryz.prog W r b0 22 v) (h : DataW.Trod enc Tryz.prog W 0 (fun _ => true) true 22 v d ps) :
  ∃ ts : List ByteArray,Sts W v ts ∧ ∀ s ∈ ts,s.size ≤ maxLen:=by
 obtain ⟨Ad,k,cap,rfl⟩:=okWide_slice Tryz.underlying22 hv
 obtain ⟨fuel,h⟩:=h
 rcases open_strs Tryz.underlying22 Tryz.underlying9 cells9 h with ⟨e,hx⟩ | ⟨a,len,cap',m,Sx,hcs,_,hl,hmx,hm,hx,hcell⟩
 ·have e' : (Value.slice Ad k cap) = .slice none 0 0:=by simpa [Value.cells] using e
  rw [e']
  exact ⟨[],⟨none,0,rfl,Nat.le_refl _,Nat.zero_le _,fun i x hx => by simp at hx⟩,fun s hs => by cases hs⟩
 ·have e' : (Value.slice Ad k cap) = .slice (some a) len cap':=by simpa [Value.cells] using hcs
  injection e' with e1 e2 e3
  subst e1 e2 e3
  have hm' : m = cap:=by simpa using hm
  refine ⟨(List.range k).map Sx,⟨some a,cap,by simp,by simpa using hl,hmx,fun i x hix => ?_⟩,?_⟩
  ·have hi : i < k:=by have:=(List.getElem?_eq_some_iff.1 hix).1; simpa using this
   rw [List.getElem?_map,List.getElem?_range hi] at hix
   simp only [Option.map_some,Option.some.injEq] at hix
   subst hix
   have z:=(hcell i (by omega)).1
   have hsp : a = ⟨a.block,a.off,none⟩:=by
    have z0:=(hcell 0 (by omega)).1
    have e : a.add 0 = a:=by unfold Addr.add; simp
    rw [e] at z0
    exact spot_none z0
   generalize a.block = ab at hsp
   generalize a.off = ao at hsp
   subst hsp
   rw [add_none] at z
   exact ⟨ab,ao,rfl,z⟩
  ·intro s hs
   obtain ⟨i,hi,rfl⟩:=List.mem_map.1 hs
   exact (hcell i (by have:=List.mem_range.1 hi; omega)).2
theorem law_post {f : Func} {s : ChangeSpec} {W W' : World} {args : Array Value} {ds gs : List (DataW H)} {before pa : List MemPlace} (hW : DataW.Whole enc Tryz.prog f.params.toList s.vars false W args.toList ds gs before)
  (hA : DataW.TrodAll enc Tryz.prog W 0 (fun _ => true) true f.params.toList args.toList ds pa) (hv : s.vars = []) (hfn : (s.fn H (ds ++ gs)).results = [.lit (.bool true)] ∧ (s.fn H (ds ++ gs)).args = ds ∧ (s.fn H (ds ++ gs)).vars = [])
  (hres : f.resultTypes.toList = [4]) (hr : (f.params.toList.all fun t => Tryz.prog.readableRec t && decide (t < Tryz.prog.types.size)) = true) (hpa : ∀ x ∈ pa,x ∈ before) (hbp : ∀ x ∈ before,x ∈ pa) (hb : Below W.heap.size W W') :
  s.post enc Tryz.prog f false true false false W args (.bool true) W':=by
 have hsz : f.resultTypes.size = 1:=by rw [← Array.length_toList,hres]; rfl
 refine ⟨ds,gs,before,[],pa,[],hW,?_,?_,?_,World.keptBut_mono (fun p hp => ⟨hp, .inr (.inl (hbp p hp))⟩) (hb.frame (· ∈ before)),fun h => by cases h⟩
 ·rw [hres,hfn.1,hsz]
  exact trodAll_mk1 (shut_bool Tryz.underlying4 true)
 ·rw [hfn.2.1]
  exact stays_all Tryz.laidOut hb hr hA fun x hx => hW.lt x (hpa x hx)
 ·rw [hv,hfn.2.2]
  rfl
end
theorem gSigns : Tryz.prog.globalNamed "emend/pptok.signs" = some 2:=by kernel_rfl
theorem tSigns : (Tryz.prog.globals[2]?).map (·.type) = some 263:=by kernel_rfl
theorem cellsStr : Tryz.prog.cellsOf 9 = 1:=by kernel_rfl
def laid1 : List (String × DataW Unit):=[("math/bits.deBruijn32tab",Rows.laid_math_bits_deBruijn32tab),("math/bits.deBruijn64tab",Rows.laid_math_bits_deBruijn64tab),("internal/strconv.uint64pow10",Rows.laid_internal_strconv_uint64pow10),("unicode/utf8.acceptRanges",Rows.laid_unicode_utf8_acceptRanges),("strconv.ErrRange",Rows.laid_strconv_ErrRange),("strconv.ErrSyntax",Rows.laid_strconv_ErrSyntax),("emend/direct.words",Rows.laid_emend_direct_words),("emend/pptok.signs",Rows.laid_emend_pptok_signs),("unicode/utf8.first",Rows.laid_unicode_utf8_first)]
theorem laid_tab : (Rows.laid_emend_pptok_signs : DataW Unit) = .agg (Lx.signTab.map fun b => .lit (.string b)):=by kernel_rfl
theorem gWords : Tryz.prog.globalNamed "emend/direct.words" = some 1:=by kernel_rfl
theorem tWords : (Tryz.prog.globals[1]?).map (·.type) = some 258:=by kernel_rfl
theorem laid_words : (Rows.laid_emend_direct_words : DataW Unit) = .agg (wordTab.map fun b => .lit (.string b)):=by kernel_rfl
theorem signs_of_laid {W : World} (h : laidMetH Tryz.prog laid1 W) : ∃ t fz,W.heap[2]? = some (.cells signCells t fz):=by
 rw [MakeChecks.laidMetH_plain _ _ _ (by kernel_rfl)] at h
 obtain ⟨ps,⟨g,t,cs,fuel,p,q,hg,ht,hv,hd,_,_⟩,_,_⟩:=h.tail.tail.tail.tail.tail.tail.tail
 obtain rfl:=Option.some.inj (gSigns.symm.trans hg)
 obtain rfl:=Option.some.inj (tSigns.symm.trans ht)
 rw [laid_tab] at hd
 obtain ⟨xs,m,rfl,hx,hlen,hn,hel⟩:=DataW.trod_array Tryz.underlying263 hd
 have hx1 : (Lx.signTab.map fun b => (DataW.lit (.string b) : DataW Unit)) = xs.map (·.1):=by
  have:=congrArg Prod.fst hx
  simpa using this
 have hc48 : Tryz.prog.cellsOf 263 = 48:=by kernel_rfl
 rw [hc48] at hlen
 have hcs : cs = signCells:=by
  apply Array.toList_inj.1
  apply List.ext_getElem?
  intro i
  by_cases hi : i < 48
  ·obtain ⟨x,hxi⟩ : ∃ x,xs[i]? = some x:=⟨_,List.getElem?_eq_getElem (by rw [hn]; exact hi)⟩
   have h1:=hel i hi
   rw [hxi,cellsStr,Nat.mul_one] at h1
   obtain ⟨s,e1,e2,_⟩:=DataW.trod_string Tryz.underlying9 h1
   have h2 : cs.toList[i]? = some (.string s):=by
    have:=congrArg (·[0]?) e1
    simpa [List.getElem?_take,List.getElem?_drop] using this
   have h3:=congrArg (·[i]?) hx1
   simp only [List.getElem?_map,hxi,Option.map_some,e2,Option.map_eq_some_iff,DataW.lit.injEq,Lit.string.injEq] at h3
   obtain ⟨b,hb,rfl⟩:=h3
   rw [h2]
   unfold signCells
   rw [List.getElem?_map,hb]
   rfl
  ·rw [List.getElem?_eq_none (by omega),List.getElem?_eq_none (by show 48 ≤ i; omega)]
 rw [hcs] at hv
 simp only [World.var?,gSigns,Option.bind_some] at hv
 split at hv
 ·rename_i c t fz hh
  injection hv with hv
  subst hv
  exact ⟨t,fz,hh⟩
 ·cases hv
theorem words_of_laid {W : World} (h : laidMetH Tryz.prog laid1 W) : ∃ t fz,W.heap[1]? = some (.cells wordCells t fz):=by
 rw [MakeChecks.laidMetH_plain _ _ _ (by kernel_rfl)] at h
 obtain ⟨ps,⟨g,t,cs,fuel,p,q,hg,ht,hv,hd,_,_⟩,_,_⟩:=h.tail.tail.tail.tail.tail.tail
 obtain rfl:=Option.some.inj (gWords.symm.trans hg)
 obtain rfl:=Option.some.inj (tWords.symm.trans ht)
 rw [laid_words] at hd
 obtain ⟨xs,m,rfl,hx,hlen,hn,hel⟩:=DataW.trod_array Tryz.underlying258 hd
 have hx1 : (wordTab.map fun b => (DataW.lit (.string b) : DataW Unit)) = xs.map (·.1):=by
  have:=congrArg Prod.fst hx
  simpa using this
 have hc12 : Tryz.prog.cellsOf 258 = 12:=by kernel_rfl
 rw [hc12] at hlen
 have hcs : cs = wordCells:=by
  apply Array.toList_inj.1
  apply List.ext_getElem?
  intro i
  by_cases hi : i < 12
  ·obtain ⟨x,hxi⟩ : ∃ x,xs[i]? = some x:=⟨_,List.getElem?_eq_getElem (by rw [hn]; exact hi)⟩
   have h1:=hel i hi
   rw [hxi,cellsStr,Nat.mul_one] at h1
   obtain ⟨s,e1,e2,_⟩:=DataW.trod_string Tryz.underlying9 h1
   have h2 : cs.toList[i]? = some (.string s):=by
    have:=congrArg (·[0]?) e1
    simpa [List.getElem?_take,List.getElem?_drop] using this
   have h3:=congrArg (·[i]?) hx1
   simp only [List.getElem?_map,hxi,Option.map_some,e2,Option.map_eq_some_iff,DataW.lit.injEq,Lit.string.injEq] at h3
   obtain ⟨b,hb,rfl⟩:=h3
   rw [h2]
   unfold wordCells
   rw [List.getElem?_map,hb]
   rfl
  ·rw [List.getElem?_eq_none (by omega),List.getElem?_eq_none (by show 12 ≤ i; omega)]
 rw [hcs] at hv
 simp only [World.var?,gWords,Option.bind_some] at hv
 split at hv
 ·rename_i c t fz hh
  injection hv with hv
  subst hv
  exact ⟨t,fz,hh⟩
 ·cases hv
theorem door_met (os : Os) (args : Array Value) : laidMetH Tryz.prog laid1 ((World.laidAll Tryz.prog os laid1).forCall (fun _ _ => 0) ⟨#[],args,[]⟩).memory:=by
 rw [MakeChecks.laidMetH_plain _ _ _ (by kernel_rfl)]
 exact laidMet_laidAll _ (by kernel_rfl) (by kernel_rfl)
section
variable {H : Type} {enc : TypeId × Value → H}
theorem returns_laid {a : Assume} {C : Checked} {os : Os} {f : FuncId} {fn : Func} {s : ChangeSpec} {conds : List PathCond} {apart fresh handsOn again : Bool} {laid : List (String × DataW Unit)}
  (own : ownKnob C.prog.godebug = none) (started : os.Started) (noInit : C.prog.inits.idxOf? f = none) (hfn : C.prog.funcs[f]? = some fn)
  (witness : ∃ (w : World) (tape : Tape) (i : Input),w.os = os ∧ (w.forCall tape i).Shaped C.prog ∧ i.vars = [] ∧ Input.okWide C.prog (w.forCall tape i) .any w.heap.size f i ∧
   ((s.pre enc C.prog fn conds apart (w.forCall tape i).memory i.args ∧ laidMetH C.prog laid (w.forCall tape i).memory) ∧ sizedMet enc C.prog fn (OpenSpec.ofChange s) apart (w.forCall tape i).memory i.args) ∧ a.holds C.prog (lone (Frame.enter C.prog f i.args .normal) [] (w.forCall tape i)))
  (contract : ∀ (W : World) (base : Nat) (args : Array Value) (ds gs : List (DataW H)) (before : List MemPlace),
   (∀ (j : Nat) t v,fn.params[j]? = some t → args[j]? = some v → Value.okWide C.prog W .any base t v) → DataW.Whole enc C.prog fn.params.toList s.vars apart W args.toList ds gs before →
   laidMetH C.prog laid W → W.ShapedOpen C.prog → Calls C.prog f args W fun e W' => ∃ v,e = .returned v ∧ s.post enc C.prog fn apart fresh handsOn again W args v W') :
  ReturnsInHanded a C os f .any (fun w args => (s.pre enc C.prog fn conds apart w args ∧ laidMetH C.prog laid w) ∧ sizedMet enc C.prog fn (OpenSpec.ofChange s) apart w args) (s.post enc C.prog fn apart fresh handsOn again):=by
 refine returnsInHanded_of_calls own started noInit witness ?_
 intro w tape i _ hsh _ hok hpre _
 obtain ⟨_,_,_,fn',hfn',_,_,_,_,hval⟩:=hok
 obtain rfl : fn' = fn:=Option.some.inj (hfn'.symm.trans hfn)
 obtain ⟨⟨⟨ds,gs,before,hw,_⟩,hl⟩,_⟩:=hpre
 refine (contract (w.forCall tape i) w.heap.size i.args ds gs before hval (DataW.Whole.of_heap (w':=w.forCall tape i) (by rfl) hw) (hl.of_heap (by rfl)) hsh).mono fun e W' ⟨v,he,hp⟩ => ?_
 subst he
 exact ChangeSpec.post_blind hp
theorem glob_of {W : World} (hl : laidMetH Tryz.prog laid1 W) (hs : W.ShapedOpen Tryz.prog) : Glob W:=⟨Glob.shaped_int hs,signs_of_laid hl,words_of_laid hl⟩
theorem star9 : "*" ++ "errors.errorString" = "*errors.errorString":=by decide
theorem row_err (u : TypeId) (h : Tryz.prog.typeName? 3 u = some "*errors.errorString") : u = 479 :=
 typeName_ptr_named (nm := "errors.errorString") (by rw [star9]; kernel_rfl) (by kernel_rfl) (by decide) u (by rw [star9]; exact h)
theorem errs_of {W : World} (hl : laidMetH Tryz.prog laid1 W) : Errs W:=by
 rw [MakeChecks.laidMetH_plain _ _ _ (by kernel_rfl)] at hl
 obtain ⟨a,_,ha,_,_,_⟩:=laid_sentinel hl.tail.tail.tail.tail.tail (g:=4) (by kernel_rfl) (by kernel_rfl) Tryz.underlying108 row_err Tryz.underlying479 Tryz.underlying481 rfl rfl Tryz.underlying9 (by kernel_rfl) (by kernel_rfl)
 obtain ⟨b,_,hb,_,_,_⟩:=laid_sentinel hl.tail.tail.tail.tail (g:=5) (by kernel_rfl) (by kernel_rfl) Tryz.underlying108 row_err Tryz.underlying479 Tryz.underlying481 rfl rfl Tryz.underlying9 (by kernel_rfl) (by kernel_rfl)
 have h0:=World.var?_cell (show Tryz.prog.globalNamed "strconv.ErrSyntax" = some 4 by kernel_rfl) ha 0
 have h1:=World.var?_cell (show Tryz.prog.globalNamed "strconv.ErrRange" = some 5 by kernel_rfl) hb 0
 exact ⟨⟨_,_,by simpa using h0⟩,⟨_,_,by simpa using h1⟩⟩
end
end
namespace Dx
open Go.Lib Go.Proofs.YthekfpgegiffoaaGreatDoor
def kindOf (w : ByteArray) : Int:=match wordTab.findIdx? (fun s => decide (w = ⟨s.toArray⟩)) with
 | some i => (i : Int) + 2
 | none => 0
def wordAt (k : Nat) : ByteArray:=⟨(wordTab.getD k []).toArray⟩
def noneTo (x : ByteArray) (k : Nat) : Prop:=∀ j,j < k → x ≠ wordAt j
theorem noneTo_zero (x : ByteArray) : noneTo x 0:=fun _ h => by omega
theorem noneTo_succ {x : ByteArray} {k : Nat} (h : noneTo x k) (hk : x ≠ wordAt k) : noneTo x (k + 1):=fun j hj => by
 by_cases e : j = k
 ·rw [e]; exact hk
 ·exact h j (by omega)
theorem kind_hit (k : Nat) (hk : k < 12) : kindOf (wordAt k) = (k : Int) + 2:=by
 have key : ∀ j,j < k → wordAt k ≠ wordAt j:=by
  intro j hj e
  have e' : wordTab.getD k [] = wordTab.getD j []:=by
   have:=congrArg (fun b : ByteArray => b.data.toList) e
   simpa [wordAt] using this
  have all : ∀ a < 12,∀ b < a,wordTab.getD a [] ≠ wordTab.getD b []:=by decide
  exact all k hk j hj e'
 have hl : k < wordTab.length:=hk
 have hf : wordTab.findIdx? (fun s => decide (wordAt k = ⟨s.toArray⟩)) = some k:=by
  rw [List.findIdx?_eq_some_iff_getElem]
  refine ⟨hl,?_,fun j hj => ?_⟩
  ·simp [wordAt,hl]
  ·have:=key j hj
   have hj' : j < wordTab.length:=by omega
   simp only [wordAt,List.getD_eq_getElem?_getD,List.getElem?_eq_getElem hj',Option.getD_some] at this ⊢
   simpa using this
 unfold kindOf
 rw [hf]
theorem kind_miss (x : ByteArray) (h : noneTo x 12) : kindOf x = 0:=by
 have hf : wordTab.findIdx? (fun s => decide (x = ⟨s.toArray⟩)) = none:=by
  rw [List.findIdx?_eq_none_iff]
  intro s hs
  obtain ⟨j,hj,e⟩:=List.getElem_of_mem hs
  have:=h j hj
  simp only [wordAt,List.getD_eq_getElem?_getD,List.getElem?_eq_getElem hj,Option.getD_some,e] at this
  simpa using this
 unfold kindOf
 rw [hf]
theorem word_cell (k : Nat) (hk : k < 12) : wordCells[k]? = some (.string (wordAt k)):=by
 have hl : k < wordTab.length:=hk
 unfold wordCells wordAt
 rw [List.getElem?_toArray,List.getElem?_map,List.getElem?_eq_getElem hl]
 simp [hl]
def isSign (t : K) (s : ByteArray) : Bool:=t.kind == 5 && decide (t.text = s)
def begins : List K → Int × Nat
 | [] => (1,0)
 | t :: r => if isSign t ⟨#[35]⟩ then (match r with
   | [] => (14,1)
   | u :: _ => if u.kind = 1 ∧ kindOf u.text ≠ 0 then (kindOf u.text,2) else (15,1)) else (1,0)
theorem begins_no (t : K) (r : List K) (h : isSign t ⟨#[35]⟩ = false) : begins (t :: r) = (1,0):=by
 cases r <;> simp [begins,h]
theorem begins_one (t : K) (h : isSign t ⟨#[35]⟩ = true) : begins [t] = (14,1):=by simp [begins,h]
theorem begins_two (t u : K) (r : List K) (h : isSign t ⟨#[35]⟩ = true) : begins (t :: u :: r) = if u.kind = 1 ∧ kindOf u.text ≠ 0 then (kindOf u.text,2) else (15,1):=by simp [begins,h]
theorem begins_le (l : List K) : (begins l).2 ≤ l.length:=by
 match l with
 | [] => simp [begins]
 | t :: r =>
  cases h : isSign t ⟨#[35]⟩ with
  | false => rw [begins_no t r h]; simp
  | true =>
   cases r with
   | nil => rw [begins_one t h]; simp
   | cons u r => rw [begins_two t u r h]; split <;> simp
def mkLn (first : Nat) (l : List K) : Ln:=⟨(begins l).1,first,l.length,l.drop (begins l).2⟩
def cuts : Nat → Nat → List K → List (Nat × Nat)
 | f,k,[] => if f < k then [(f,k - f)] else []
 | f,k,t :: r => if t.kind = 7 then (f,k - f) :: cuts (k + 1) (k + 1) r else cuts f (k + 1) r
def lnOf (l : List K) (c : Nat × Nat) : Ln:=mkLn c.1 ((l.drop c.1).take c.2)
def lines (l : List K) : List Ln:=(cuts 0 0 l).map (lnOf l)
theorem cuts_len : ∀ (l : List K) (f k : Nat),(cuts f k l).length + (if f < k then 0 else 1) ≤ l.length + 1
 | [],f,k => by unfold cuts; split <;> simp
 | t :: r,f,k => by
  unfold cuts
  split
  ·have:=cuts_len r (k + 1) (k + 1)
   rw [if_neg (by omega)] at this
   simp; split <;> omega
  ·have:=cuts_len r f (k + 1)
   simp
   split at this <;> split <;> omega
theorem cuts_length (l : List K) : (cuts 0 0 l).length ≤ l.length:=by
 have:=cuts_len l 0 0
 rw [if_neg (by omega)] at this
 omega
def At (l : List K) (f k : Nat) (pre : List (Nat × Nat)) : Prop:=f ≤ k ∧ k ≤ l.length ∧ cuts 0 0 l = pre ++ cuts f k (l.drop k)
theorem at_start (l : List K) : At l 0 0 []:=⟨Nat.le_refl _,Nat.zero_le _,by simp⟩
theorem at_skip {l : List K} {f k : Nat} {pre : List (Nat × Nat)} {t : K} (h : At l f k pre) (ht : l[k]? = some t) (hk : t.kind ≠ 7) : At l f (k + 1) pre:=by
 obtain ⟨hlt,e⟩:=List.getElem?_eq_some_iff.1 ht
 have e2 : l.drop k = t :: l.drop (k + 1):=by rw [← e]; exact List.drop_eq_getElem_cons hlt
 refine ⟨by have:=h.1; omega,hlt,?_⟩
 rw [h.2.2,e2]
 conv => lhs; unfold cuts
 rw [if_neg hk]
theorem at_cut {l : List K} {f k : Nat} {pre : List (Nat × Nat)} {t : K} (h : At l f k pre) (ht : l[k]? = some t) (hk : t.kind = 7) : At l (k + 1) (k + 1) (pre ++ [(f,k - f)]) ∧ pre ++ [(f,k - f)] <+: cuts 0 0 l ∧ pre.length < (cuts 0 0 l).length:=by
 obtain ⟨hlt,e⟩:=List.getElem?_eq_some_iff.1 ht
 have e2 : l.drop k = t :: l.drop (k + 1):=by rw [← e]; exact List.drop_eq_getElem_cons hlt
 have e3 : cuts 0 0 l = pre ++ [(f,k - f)] ++ cuts (k + 1) (k + 1) (l.drop (k + 1)):=by
  rw [h.2.2,e2]
  conv => lhs; unfold cuts
  rw [if_pos hk]; simp
 exact ⟨⟨Nat.le_refl _,hlt,e3⟩,⟨_,e3.symm⟩,by rw [e3]; simp⟩
theorem at_end {l : List K} {f k : Nat} {pre : List (Nat × Nat)} (h : At l f k pre) (hk : l.length ≤ k) : (f < l.length → cuts 0 0 l = pre ++ [(f,l.length - f)] ∧ pre.length < (cuts 0 0 l).length) ∧ (l.length ≤ f → cuts 0 0 l = pre):=by
 have h1:=h.2.1
 obtain rfl : k = l.length:=by omega
 have e:=h.2.2
 rw [List.drop_of_length_le (Nat.le_refl _),show cuts f l.length [] = if f < l.length then [(f,l.length - f)] else [] from rfl] at e
 refine ⟨fun hf => ?_,fun hf => ?_⟩
 ·rw [if_pos hf] at e
  exact ⟨e,by rw [e]; simp⟩
 ·rw [if_neg (by omega)] at e
  simpa using e
theorem at_endN {l : List K} {f k N : Nat} {pre : List (Nat × Nat)} (h : At l f k pre) (hN : N = l.length) (hk : N ≤ k) : (f < N → cuts 0 0 l = pre ++ [(f,N - f)] ∧ pre.length < (cuts 0 0 l).length) ∧ (N ≤ f → cuts 0 0 l = pre):=by
 subst hN; exact at_end h hk
end Dx
section
open Go.RowKit Go.Shelf
theorem idx_word (A : Array Value) (v : Value) (k : Nat) (hA : A[k]? = some v) (hk : (k : Int) < 12) (W : World) : (Instr.index 258 (.agg A) (.int .i64 k)).run Tryz.prog W = .ok v W:=by
 simp [Instr.index,run_underlying Tryz.underlying258,asIntOf,part,Tryz.isAgg9,Tryz.sizeOf9,hA,go_sem]
 intro h
 omega
theorem kind_any (x : ByteArray) (w : World) (hG : Glob w) : Calls Tryz.prog 96 #[.string x] w fun e w' => e = .returned (.int .i64 (Dx.kindOf x)) ∧ w = w':=by
 obtain ⟨_,_,tt,fz,hblk⟩:=hG
 have HW:=Lib.hid Dx.word_cell
 have hsz : (Tryz.prog.info? 258).map (·.size) = some wordCells.size:=by kernel_rfl
 obtain ⟨A,hA⟩ : ∃ A,A = wordCells:=⟨_,rfl⟩
 rw [← hA] at hblk hsz
 have HA:=Lib.hid hA
 obtain ⟨R,hR⟩ : ∃ R,R = Dx.kindOf x:=⟨_,rfl⟩
 rw [← hR]
 have HR:=Lib.hid hR
 clear hA hR
 go_enter Tryz.func96,Tryz.ntmps96
 go_wp2_with (with_reducible refine wpList_load_row rfl 258 _ rfl 1 rfl tt A fz (.array 12 9) hblk Tryz.underlying258 rfl hsz ?_)
 go_loop [6] (fun i => ∃ k : Nat,i = .int .i64 k ∧ k ≤ 12 ∧ Dx.noneTo x k) (fun i => 12 - (intOf i).toNat)
 case atStart => exact ⟨0,rfl,by omega,Dx.noneTo_zero x⟩
 case round =>
  obtain ⟨k,rfl,hk,hno⟩:=hrel
  have HN:=Lib.hid hno
  clear hno hblk hsz
  by_cases hlt : k < 12
  ·obtain ⟨S,hS⟩ : ∃ S : ByteArray,S = Dx.wordAt k:=⟨_,rfl⟩
   have hck:=HW.out k hlt
   rw [← hS,← HA.out] at hck
   have hkz : (k : Int) < 12:=by omega
   have hidx:=idx_word A (.string S) k hck hkz
   have HS:=Lib.hid hS
   clear hS hck
   by_cases hx : S = x
   ·have t1 : (S.toList == x.toList) = true:=by rw [ba_beq]; simpa using hx
    have HX:=Lib.hid hx
    clear hx
    go_wp2_with fail
    go_ret
    refine ⟨ret_int ?_,rfl⟩
    rw [HR.out,← HX.out,HS.out,Dx.kind_hit k hlt]
    omega
   ·have t1 : (S.toList == x.toList) = false:=by rw [ba_beq]; simpa using hx
    have HX:=Lib.hid hx
    clear hx
    go_wp2_with fail
    go_round
    case rel => exact ⟨k + 1,by go_num,by omega,Dx.noneTo_succ HN.out (fun e => HX.out (by rw [HS.out,e]))⟩
    case measure => simp [intOf]; omega
  ·have hk : k = 12:=by omega
   subst hk
   go_wp2_with fail
   go_ret
   exact ⟨ret_int (by rw [HR.out,Dx.kind_miss x HN.out]),rfl⟩
end
end Go.Proofs.YthekfpgegiffoaaGreatDoor
