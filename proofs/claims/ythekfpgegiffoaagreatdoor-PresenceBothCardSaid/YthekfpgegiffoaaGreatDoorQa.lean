/- What is proved: plain facts on texts, on what is left of one without its pairs, and on texts into which pairs are put. (and what stands with it) -/
import Derived.Lib.CountLaws
import Derived.Lib.Bytealg
import Derived.Shelf.Strings.BuilderK
import Derived.Shelf.Strings.Count
import Derived.Shelf.Strings.Search3
import Derived.Shelf.Small.Strs
import Derived.Shelf.Strings.Prefix
import Derived.Shelf.Strings.OnBuilder
import Derived.Shelf.Vars
import Derived.Test.YthekfpgegiffoaaGreatDoorProg
import Derived.WalkKit
import Derived.Below
import Derived.Lib.Hide
import Derived.WalkSpells
import Derived.WalkLawsBesides
import Derived.RangeFuncNested
import Derived.RangeFuncBound
import Derived.RangeFuncCalls
import Derived.RangeFuncLeaves
import Derived.Shelf.Abstract
import Derived.Shelf.RegionOpen
import Derived.OwnWalkIn
import Derived.TacticsInMore
import Derived.LoopNIn
import Derived.LoopIn
import Derived.Maps.AppendAt
import Derived.StillTailTactics
import Derived.Laws.Rows
import Derived.OwnWalk
import Derived.Laws.StructEq
import Derived.Laws.IdiomStrings
import Derived.Laws.Concat
import Derived.Deep.QuietTactic
import Derived.BigQuiet
import Derived.WalkSmall
import Derived.Deep.LoopGhost
import Derived.WalkMore
set_option linter.unusedSimpArgs false
set_option linter.unusedVariables false
set_option maxHeartbeats 16000000
set_option maxRecDepth 100000
namespace Go.Proofs.YthekfpgegiffoaaGreatDoor
namespace Sp
open Go.Lib
abbrev Ch:=UInt8 × Nat
def left : Nat → List UInt8 → List Ch
 | _,[] => []
 | k,[c] => [(c,k)]
 | k,c :: d :: r => if c = 92 ∧ d = 10 then left (k + 2) r else (c,k) :: left (k + 1) (d :: r)
theorem left_nil (k : Nat) : left k [] = []:=rfl
theorem left_cons (k : Nat) (c d : UInt8) (r : List UInt8) : left k (c :: d :: r) = if c = 92 ∧ d = 10 then left (k + 2) r else (c,k) :: left (k + 1) (d :: r):=rfl
theorem left_pair (k : Nat) (r : List UInt8) : left k (92 :: 10 :: r) = left (k + 2) r:=by
 have e : left k (92 :: 10 :: r) = if (92 : UInt8) = 92 ∧ (10 : UInt8) = 10 then left (k + 2) r else (92,k) :: left (k + 1) (10 :: r):=rfl
 rw [e,if_pos ⟨rfl,rfl⟩]
theorem pair_iff (c d : UInt8) (r : List UInt8) : hasPrefix (c :: d :: r) [92,10] = true ↔ c = 92 ∧ d = 10:=by
 show List.isPrefixOf [92,10] (c :: d :: r) = true ↔ _
 simp only [List.isPrefixOf,Bool.and_true,Bool.and_eq_true,beq_iff_eq]
 exact ⟨fun h => ⟨h.1.symm,h.2.symm⟩,fun h => ⟨h.1.symm,h.2.symm⟩⟩
theorem pair_one (c : UInt8) : hasPrefix [c] [92,10] = false:=by simp [hasPrefix,List.isPrefixOf]
theorem pair_nil : hasPrefix [] [92,10] = false:=rfl
theorem left_one (k : Nat) (c : UInt8) (r : List UInt8) (h : hasPrefix (c :: r) [92,10] = false) : left k (c :: r) = (c,k) :: left (k + 1) r:=by
 cases r with
 | nil => rfl
 | cons d r =>
  have h' : ¬ (c = 92 ∧ d = 10):=fun e => by rw [(pair_iff c d r).2 e] at h; cases h
  rw [left_cons,if_neg h']
theorem pair_form (l : List UInt8) (h : hasPrefix l [92,10] = true) : ∃ r,l = 92 :: 10 :: r:=by
 match l,h with
 | [],h => rw [pair_nil] at h; cases h
 | [c],h => rw [pair_one] at h; cases h
 | c :: d :: r,h => obtain ⟨rfl,rfl⟩:=(pair_iff c d r).1 h; exact ⟨r,rfl⟩
theorem ind {M : List UInt8 → Prop} (h0 : M []) (hp : ∀ r,M r → M (92 :: 10 :: r)) (h1 : ∀ c r,hasPrefix (c :: r) [92,10] = false → M r → M (c :: r)) (l : List UInt8) : M l:=by
 have : ∀ n (l : List UInt8),l.length ≤ n → M l:=by
  intro n
  induction n with
  | zero => intro l hl; obtain rfl : l = []:=List.length_eq_zero_iff.1 (by omega); exact h0
  | succ n ih =>
   intro l hl
   cases l with
   | nil => exact h0
   | cons c r =>
    cases hq : hasPrefix (c :: r) [92,10] with
    | true =>
     obtain ⟨r',e⟩:=pair_form _ hq
     rw [e] at hl ⊢
     exact hp r' (ih r' (by simp at hl; omega))
    | false => exact h1 c r hq (ih r (by simp at hl; omega))
 exact this _ l (Nat.le_refl _)
theorem count_pair (r : List UInt8) : count (92 :: 10 :: r) [92,10] = 1 + count r [92,10]:=by
 have h : index (92 :: 10 :: r) [92,10] = ((0 : Nat) : Int):=by simp [index,List.isPrefixOf]
 rw [count_hit (by simp) h]
 simp
theorem count_nil : count [] [92,10] = 0:=by rfl
theorem count_one (c : UInt8) (r : List UInt8) (h : hasPrefix (c :: r) [92,10] = false) : count (c :: r) [92,10] = count r [92,10]:=by
 have hi : index (c :: r) [92,10] = if index r [92,10] == -1 then -1 else index r [92,10] + 1:=by
  rw [index,if_neg (by rw [show List.isPrefixOf [92,10] (c :: r) = false from h]; simp)]
 have hg:=index_ge r [92,10]
 by_cases he : index r [92,10] = -1
 ·rw [count_miss he,count_miss (by rw [hi,he]; rfl)]
 ·obtain ⟨i,hi'⟩ : ∃ i : Nat,index r [92,10] = i:=⟨(index r [92,10]).toNat,by omega⟩
  rw [hi'] at hi he
  rw [if_neg (by simp)] at hi
  rw [count_hit (by simp) hi',count_hit (i:=i + 1) (by simp) (by rw [hi]; omega)]
  congr 2
theorem left_count (l : List UInt8) : ∀ k,(left k l).length + 2 * count l [92,10] = l.length:=by
 induction l using ind with
 | h0 => intro k; rw [left_nil,count_nil]; rfl
 | hp r ih => intro k; rw [left_pair,count_pair]; have:=ih (k + 2); simp; omega
 | h1 c r h ih => intro k; rw [left_one k c r h,count_one c r h]; have:=ih (k + 1); simp; omega
theorem left_le (k : Nat) (l : List UInt8) : (left k l).length ≤ l.length:=by have:=left_count l k; omega
theorem left_at (l : List UInt8) : ∀ k (x : Ch),x ∈ left k l → k ≤ x.2 ∧ l[x.2 - k]? = some x.1:=by
 induction l using ind with
 | h0 => intro k x h; simp [left_nil] at h
 | hp r ih =>
  intro k x h
  rw [left_pair] at h
  obtain ⟨h1,h2⟩:=ih _ x h
  refine ⟨by omega,?_⟩
  rw [show x.2 - k = x.2 - (k + 2) + 1 + 1 by omega]
  simpa using h2
 | h1 c r hc ih =>
  intro k x h
  rw [left_one k c r hc] at h
  rcases List.mem_cons.1 h with rfl | h
  ·simp
  ·obtain ⟨h1,h2⟩:=ih _ x h
   refine ⟨by omega,?_⟩
   rw [show x.2 - k = x.2 - (k + 1) + 1 by omega]
   simpa using h2
theorem left_lt {l : List UInt8} {k : Nat} {x : Ch} (h : x ∈ left k l) : x.2 < k + l.length:=by
 obtain ⟨h1,h2⟩:=left_at l k x h
 have:=(List.getElem?_eq_some_iff.1 h2).1
 omega
end Sp
namespace Lx
open Go.Lib
open Sp (Ch)
def letter (c : UInt8) : Bool:=(97 ≤ c && c ≤ 122) || (65 ≤ c && c ≤ 90) || c == 95
def digit (c : UInt8) : Bool:=48 ≤ c && c ≤ 57
def alnum (c : UInt8) : Bool:=letter c || digit c
def numc (c : UInt8) : Bool:=letter c || digit c || c == 46
def isE (c : UInt8) : Bool:=c == 101 || c == 69 || c == 112 || c == 80
def isSg (c : UInt8) : Bool:=c == 43 || c == 45
def isBl (c : UInt8) : Bool:=c == 32 || c == 9 || c == 11 || c == 12 || c == 13
def wordLen (l : List UInt8) : Nat:=(l.takeWhile alnum).length
def numRest : List UInt8 → Nat
 | [] => 0
 | [c] => if numc c then 1 else 0
 | c :: d :: r => if isE c && isSg d then 2 + numRest r else if numc c then 1 + numRest (d :: r) else 0
def headDigit : List UInt8 → Bool
 | [] => false
 | c :: _ => digit c
def numLen : List UInt8 → Nat
 | [] => 0
 | c :: r => if digit c || (c == 46 && headDigit r) then 1 + numRest r else 0
def qr (q : UInt8) : List UInt8 → Option Nat
 | [] => none
 | [c] => if c = 10 then none else if c = q then some 1 else none
 | c :: d :: r => if c = 10 then none else if c = q then some 1 else if c = 92 then (if d = 10 then none else (qr q r).map (· + 2)) else (qr q (d :: r)).map (· + 1)
def upto (n : Nat) : Option Nat → Nat
 | none => 0
 | some m => n + m
def closedLen (q : UInt8) : List UInt8 → Nat
 | [] => 0
 | c :: r => if c = q then upto 1 (qr q r) else 0
def threes : List (List UInt8):=[[46,46,46],[60,60,61],[62,62,61]]
def twos : List (List UInt8) :=
 [[45,62],[43,43],[45,45],[60,60],[62,62],[60,61],[62,61],[61,61],[33,61],[38,38],[124,124],
 [42,61],[47,61],[37,61],[43,61],[45,61],[38,61],[94,61],[124,61],[35,35]]
def oneBytes : List UInt8:=[91,93,40,41,123,125,46,38,42,43,45,126,33,47,37,60,62,94,124,63,58,59,61,44,35]
def ones : List (List UInt8):=oneBytes.map fun c => [c]
def signTab : List (List UInt8):=threes ++ twos ++ ones
def signStep (l : List UInt8) (acc : Nat) (s : List UInt8) : Nat:=if acc < s.length ∧ s.isPrefixOf l = true then s.length else acc
def signLen (l : List UInt8) : Nat:=signTab.foldl (signStep l) 0
def refSign (l : List UInt8) : Nat:=if threes.any (·.isPrefixOf l) then 3 else if twos.any (·.isPrefixOf l) then 2 else if ones.any (·.isPrefixOf l) then 1 else 0
theorem fold_uniform (l : List UInt8) (k : Nat) (L : List (List UInt8)) (h : ∀ s ∈ L,s.length = k) : ∀ acc,L.foldl (signStep l) acc = if k ≤ acc then acc else if L.any (·.isPrefixOf l) then k else acc:=by
 induction L with
 | nil => intro acc; simp
 | cons s L ih =>
  intro acc
  have hs:=h s (by simp)
  have hL:=fun s' hs' => h s' (List.mem_cons_of_mem _ hs')
  rw [List.foldl_cons,ih hL,List.any_cons]
  unfold signStep
  rw [hs]
  by_cases h1 : k ≤ acc
  ·have e : ¬ (acc < k ∧ s.isPrefixOf l = true):=fun h => by omega
   rw [if_neg e,if_pos h1,if_pos h1]
  ·by_cases h2 : s.isPrefixOf l = true
   ·have e : acc < k ∧ s.isPrefixOf l = true:=⟨by omega,h2⟩
    rw [if_pos e,if_pos (Nat.le_refl _),if_neg h1,h2,Bool.true_or,if_pos rfl]
   ·have e : ¬ (acc < k ∧ s.isPrefixOf l = true):=fun h => h2 h.2
    rw [if_neg e,if_neg h1,if_neg h1,Bool.eq_false_iff.2 h2,Bool.false_or]
theorem sign_ref (l : List UInt8) : signLen l = refSign l:=by
 unfold signLen signTab refSign
 rw [List.foldl_append,List.foldl_append,fold_uniform l 3 threes (by decide),fold_uniform l 2 twos (by decide),fold_uniform l 1 ones (by decide)]
 by_cases h3 : threes.any (·.isPrefixOf l) = true
 ·simp [h3]
 ·by_cases h2 : twos.any (·.isPrefixOf l) = true
  ·simp [h3,h2]
  ·by_cases h1 : ones.any (·.isPrefixOf l) = true
   ·simp [h3,h2,h1]
   ·simp [h3,h2,h1]
def lineLen (l : List UInt8) : Nat:=(l.takeWhile (· ≠ 10)).length
def clos : List UInt8 → Option Nat
 | [] => none
 | [_] => none
 | c :: d :: r => if c = 42 ∧ d = 47 then some 0 else (clos (d :: r)).map (· + 1)
def commentLen : List UInt8 → Nat
 | [] => 0
 | [_] => 0
 | c :: d :: r => if c = 47 ∧ d = 47 then lineLen (c :: d :: r) else if c = 47 ∧ d = 42 then upto 4 (clos r) else 0
def blankLen : List UInt8 → Nat
 | [] => 0
 | c :: r => if isBl c then 1 else commentLen (c :: r)
def first : List UInt8 → Nat × Nat
 | [] => (6,1)
 | c :: r =>
  if c = 10 then (7,1) else if letter c then (1,wordLen (c :: r)) else if 0 < numLen (c :: r) then (2,numLen (c :: r)) else
  if 0 < closedLen 34 (c :: r) then (4,closedLen 34 (c :: r)) else if 2 < closedLen 39 (c :: r) then (3,closedLen 39 (c :: r)) else
  if 0 < signLen (c :: r) then (5,signLen (c :: r)) else (6,1)
theorem numLen_cons (c : UInt8) (r : List UInt8) : numLen (c :: r) = if digit c || (c == 46 && headDigit r) then 1 + numRest r else 0:=rfl
theorem closedLen_cons (q c : UInt8) (r : List UInt8) : closedLen q (c :: r) = if c = q then upto 1 (qr q r) else 0:=rfl
theorem commentLen_cons (c d : UInt8) (r : List UInt8) : commentLen (c :: d :: r) = if c = 47 ∧ d = 47 then lineLen (c :: d :: r) else if c = 47 ∧ d = 42 then upto 4 (clos r) else 0:=rfl
theorem blankLen_cons (c : UInt8) (r : List UInt8) : blankLen (c :: r) = if isBl c then 1 else commentLen (c :: r):=rfl
theorem first_cons (c : UInt8) (r : List UInt8) : first (c :: r) =
  if c = 10 then (7,1) else if letter c then (1,wordLen (c :: r)) else if 0 < numLen (c :: r) then (2,numLen (c :: r)) else
  if 0 < closedLen 34 (c :: r) then (4,closedLen 34 (c :: r)) else if 2 < closedLen 39 (c :: r) then (3,closedLen 39 (c :: r)) else
  if 0 < signLen (c :: r) then (5,signLen (c :: r)) else (6,1):=rfl
theorem wordLen_le (l : List UInt8) : wordLen l ≤ l.length:=by
 unfold wordLen; exact (List.takeWhile_sublist _).length_le
theorem numRest_le : ∀ (l : List UInt8),numRest l ≤ l.length
 | [] => by simp [numRest]
 | [c] => by unfold numRest; split <;> simp
 | c :: d :: r => by
  have h1:=numRest_le r
  have h2:=numRest_le (d :: r)
  unfold numRest
  split
  ·simp; omega
  ·split
   ·simp at h2 ⊢; omega
   ·simp
theorem numLen_le (l : List UInt8) : numLen l ≤ l.length:=by
 cases l with
 | nil => simp [numLen]
 | cons c r =>
  have:=numRest_le r
  rw [numLen_cons]
  split
  ·simp; omega
  ·simp
theorem qr_le (q : UInt8) : ∀ (l : List UInt8) (m : Nat),qr q l = some m → 1 ≤ m ∧ m ≤ l.length
 | [],m,h => by simp [qr] at h
 | [c],m,h => by
  unfold qr at h
  split at h
  ·cases h
  ·split at h
   ·injection h with h; subst h; simp
   ·cases h
 | c :: d :: r,m,h => by
  unfold qr at h
  split at h
  ·cases h
  ·split at h
   ·injection h with h; subst h; simp
   ·split at h
    ·split at h
     ·cases h
     ·obtain ⟨k,hk,rfl⟩:=Option.map_eq_some_iff.1 h
      have:=qr_le q r k hk
      simp; omega
    ·obtain ⟨k,hk,rfl⟩:=Option.map_eq_some_iff.1 h
     have:=qr_le q (d :: r) k hk
     simp at this ⊢; omega
theorem closedLen_le (q : UInt8) (l : List UInt8) : closedLen q l ≤ l.length ∧ (0 < closedLen q l → 2 ≤ closedLen q l):=by
 cases l with
 | nil => simp [closedLen]
 | cons c r =>
  rw [closedLen_cons]
  split
  ·cases h : qr q r with
   | none => simp [upto]
   | some m =>
    have:=qr_le q r m h
    simp [upto]; omega
  ·simp
theorem refSign_le (l : List UInt8) : refSign l ≤ l.length:=by
 have key : ∀ (L : List (List UInt8)) (k : Nat),(∀ s ∈ L,s.length = k) → L.any (·.isPrefixOf l) = true → k ≤ l.length:=by
  intro L k hk h
  obtain ⟨s,hs,hp⟩:=List.any_eq_true.1 h
  rw [← hk s hs]
  exact (List.isPrefixOf_iff_prefix.1 hp).length_le
 unfold refSign
 split
 ·exact key threes 3 (by decide) (by assumption)
 ·split
  ·exact key twos 2 (by decide) (by assumption)
  ·split
   ·exact key ones 1 (by decide) (by assumption)
   ·omega
theorem signLen_le (l : List UInt8) : signLen l ≤ l.length:=by rw [sign_ref]; exact refSign_le l
theorem wordLen_pos (c : UInt8) (r : List UInt8) (h : letter c = true) : 0 < wordLen (c :: r):=by
 unfold wordLen; rw [List.takeWhile_cons,if_pos (by simp [alnum,h])]; simp
theorem first_le (l : List UInt8) (h : l ≠ []) : 0 < (first l).2 ∧ (first l).2 ≤ l.length:=by
 cases l with
 | nil => exact absurd rfl h
 | cons c r =>
  have h1:=wordLen_le (c :: r)
  have h2:=numLen_le (c :: r)
  have h3:=closedLen_le 34 (c :: r)
  have h4:=closedLen_le 39 (c :: r)
  have h5:=signLen_le (c :: r)
  have h6 : 1 ≤ (c :: r).length:=by simp
  rw [first_cons]
  split
  ·exact ⟨by simp,h6⟩
  ·split
   ·exact ⟨wordLen_pos c r (by assumption),h1⟩
   ·split
    ·rename_i h; exact ⟨h,h2⟩
    ·split
     ·rename_i h; exact ⟨h,h3.1⟩
     ·split
      ·rename_i h; exact ⟨Nat.lt_trans (by omega) h,h4.1⟩
      ·split
       ·rename_i h; dsimp only; exact ⟨h,h5⟩
       ·exact ⟨by simp,h6⟩
theorem clos_le : ∀ (l : List UInt8) (m : Nat),clos l = some m → m + 2 ≤ l.length
 | [],m,h => by simp [clos] at h
 | [c],m,h => by simp [clos] at h
 | c :: d :: r,m,h => by
  unfold clos at h
  split at h
  ·injection h with h; subst h; simp
  ·obtain ⟨k,hk,rfl⟩:=Option.map_eq_some_iff.1 h
   have:=clos_le (d :: r) k hk
   simp at this ⊢; omega
theorem lineLen_le (l : List UInt8) : lineLen l ≤ l.length:=by
 unfold lineLen; exact (List.takeWhile_sublist _).length_le
theorem commentLen_le (l : List UInt8) : commentLen l ≤ l.length:=by
 match l with
 | [] => simp [commentLen]
 | [_] => simp [commentLen]
 | c :: d :: r =>
  rw [commentLen_cons]
  split
  ·exact lineLen_le _
  ·split
   ·cases h : clos r with
    | none => simp [upto]
    | some m => have:=clos_le r m h; simp [upto]; omega
   ·simp
theorem blankLen_le (l : List UInt8) : blankLen l ≤ l.length:=by
 cases l with
 | nil => simp [blankLen]
 | cons c r =>
  rw [blankLen_cons]
  split
  ·simp
  ·exact commentLen_le _
structure T where
 kind : Nat
 text : List UInt8
 fr : Nat
 to : Nat
 bl : Bool
instance : DecidableEq T:=fun a b => decidable_of_iff (a.kind = b.kind ∧ a.text = b.text ∧ a.fr = b.fr ∧ a.to = b.to ∧ a.bl = b.bl) ⟨fun h => by
 obtain ⟨a1,a2,a3,a4,a5⟩:=a
 obtain ⟨b1,b2,b3,b4,b5⟩:=b
 obtain ⟨h1,h2,h3,h4,h5⟩:=h
 dsimp only at h1 h2 h3 h4 h5
 rw [h1,h2,h3,h4,h5],fun h => by rw [h]; exact ⟨rfl,rfl,rfl,rfl,rfl⟩⟩
def bytes (l : List Ch) : List UInt8:=l.map Prod.fst
theorem bytes_length (l : List Ch) : (bytes l).length = l.length:=by simp [bytes]
theorem bytes_drop (l : List Ch) (n : Nat) : bytes (l.drop n) = (bytes l).drop n:=by simp [bytes,List.map_drop]
theorem bytes_nil {l : List Ch} (h : bytes l = []) : l = []:=by simpa [bytes] using h
def tokAt (p : Bool) (l : List Ch) : T:=⟨(first (bytes l)).1,(bytes l).take (first (bytes l)).2,(l.getD 0 (0,0)).2,(l.getD ((first (bytes l)).2 - 1) (0,0)).2 + 1,p⟩
def toks : Nat → Bool → List Ch → List T
 | 0,_,_ => []
 | _ + 1,_,[] => []
 | f + 1,p,x :: r => if 0 < blankLen (bytes (x :: r)) then toks f true ((x :: r).drop (blankLen (bytes (x :: r)))) else tokAt p (x :: r) :: toks f false ((x :: r).drop (first (bytes (x :: r))).2)
def tk (p : Bool) (l : List Ch) : List T:=toks l.length p l
theorem toks_nil (f : Nat) (p : Bool) : toks f p [] = []:=by cases f <;> rfl
theorem first_len (l : List Ch) (h : l ≠ []) : 0 < (first (bytes l)).2 ∧ (first (bytes l)).2 ≤ l.length:=by
 have:=first_le (bytes l) (fun e => h (bytes_nil e))
 rwa [bytes_length] at this
theorem blank_len (l : List Ch) : blankLen (bytes l) ≤ l.length:=by
 have:=blankLen_le (bytes l)
 rwa [bytes_length] at this
theorem toks_enough : ∀ (n f g : Nat) (p : Bool) (l : List Ch),l.length ≤ n → n ≤ f → n ≤ g → toks f p l = toks g p l:=by
 intro n
 induction n with
 | zero =>
  intro f g p l h _ _
  obtain rfl : l = []:=List.length_eq_zero_iff.1 (by omega)
  rw [toks_nil,toks_nil]
 | succ n ih =>
  intro f g p l h hf hg
  match l,f,g,hf,hg with
  | [],f,g,_,_ => rw [toks_nil,toks_nil]
  | x :: r,f + 1,g + 1,hf,hg =>
   have h1:=first_len (x :: r) (by simp)
   unfold toks
   split
   ·refine ih _ _ _ _ ?_ (by omega) (by omega)
    rw [List.length_drop]; simp at h ⊢; omega
   ·congr 1
    refine ih _ _ _ _ ?_ (by omega) (by omega)
    rw [List.length_drop]; simp at h ⊢; omega
theorem tk_nil (p : Bool) : tk p [] = []:=rfl
theorem tk_blank (p : Bool) (l : List Ch) (h : 0 < blankLen (bytes l)) : tk p l = tk true (l.drop (blankLen (bytes l))):=by
 cases l with
 | nil => simp [bytes,blankLen] at h
 | cons x r =>
  unfold tk
  rw [List.length_cons]
  conv => lhs; unfold toks
  rw [if_pos h]
  refine toks_enough _ _ _ _ _ (Nat.le_refl _) ?_ (Nat.le_refl _)
  rw [List.length_drop]; simp; omega
theorem tk_tok (p : Bool) (l : List Ch) (hl : l ≠ []) (h : blankLen (bytes l) = 0) : tk p l = tokAt p l :: tk false (l.drop (first (bytes l)).2):=by
 have h1:=first_len l hl
 cases l with
 | nil => exact absurd rfl hl
 | cons x r =>
  unfold tk
  rw [List.length_cons]
  conv => lhs; unfold toks
  rw [if_neg (by omega)]
  congr 1
  refine toks_enough _ _ _ _ _ (Nat.le_refl _) ?_ (Nat.le_refl _)
  rw [List.length_drop]; simp; omega
theorem tkInd {M : Bool → List Ch → Prop} (h0 : ∀ p,M p []) (hb : ∀ p l,0 < blankLen (bytes l) → M true (l.drop (blankLen (bytes l))) → M p l)
  (ht : ∀ p l,l ≠ [] → blankLen (bytes l) = 0 → M false (l.drop (first (bytes l)).2) → M p l) : ∀ p l,M p l:=by
 have : ∀ n p (l : List Ch),l.length ≤ n → M p l:=by
  intro n
  induction n with
  | zero => intro p l hl; obtain rfl : l = []:=List.length_eq_zero_iff.1 (by omega); exact h0 p
  | succ n ih =>
   intro p l hl
   by_cases he : l = []
   ·rw [he]; exact h0 p
   ·have h1:=first_len l he
    by_cases hk : 0 < blankLen (bytes l)
    ·exact hb p l hk (ih _ _ (by rw [List.length_drop]; omega))
    ·exact ht p l he (by omega) (ih _ _ (by rw [List.length_drop]; omega))
 exact fun p l => this _ p l (Nat.le_refl _)
def al (t : T) : Nat × List UInt8 × Bool:=(t.kind,t.text,t.bl)
theorem al_congr : ∀ (p : Bool) (l : List Ch),∀ l',bytes l = bytes l' → (tk p l).map al = (tk p l').map al:=by
 refine tkInd ?_ ?_ ?_
 ·intro p l' h
  rw [bytes_nil h.symm]
 ·intro p l hb ih l' h
  rw [tk_blank p l hb,tk_blank p l' (by rw [← h]; exact hb),← h]
  exact ih _ (by rw [bytes_drop,bytes_drop,h])
 ·intro p l hl hb ih l' h
  have hl' : l' ≠ []:=fun e => hl (bytes_nil (by rw [h,e]; rfl))
  rw [tk_tok p l hl hb,tk_tok p l' hl' (by rw [← h]; exact hb),List.map_cons,List.map_cons,← h]
  congr 1
  ·simp [al,tokAt,h]
  ·exact ih _ (by rw [bytes_drop,bytes_drop,h])
def tb (p : Bool) (b : List UInt8) : List (Nat × List UInt8 × Bool):=(tk p (b.map fun c => (c,0))).map al
theorem bytes_zero (b : List UInt8) : bytes (b.map fun c => (c,0)) = b:=by
 unfold bytes
 rw [List.map_map]
 exact List.map_id'' (fun _ => rfl) b
theorem tk_al (p : Bool) (l : List Ch) : (tk p l).map al = tb p (bytes l):=al_congr p l _ (bytes_zero _).symm
theorem tb_nil (p : Bool) : tb p [] = []:=rfl
theorem tb_blank (p : Bool) (b : List UInt8) (h : 0 < blankLen b) : tb p b = tb true (b.drop (blankLen b)):=by
 unfold tb
 rw [tk_blank p _ (by rw [bytes_zero]; exact h),bytes_zero,List.map_drop]
theorem tb_tok (p : Bool) (b : List UInt8) (hb : b ≠ []) (h : blankLen b = 0) : tb p b = ((first b).1,b.take (first b).2,p) :: tb false (b.drop (first b).2):=by
 unfold tb
 rw [tk_tok p _ (by simpa using hb) (by rw [bytes_zero]; exact h),List.map_cons,bytes_zero,List.map_drop]
 congr 1
 simp [al,tokAt,bytes_zero]
theorem tbInd {M : Bool → List UInt8 → Prop} (h0 : ∀ p,M p []) (hb : ∀ p l,0 < blankLen l → M true (l.drop (blankLen l)) → M p l)
  (ht : ∀ p l,l ≠ [] → blankLen l = 0 → M false (l.drop (first l).2) → M p l) : ∀ p l,M p l:=by
 have:=tkInd (M:=fun p l => M p (bytes l)) h0 (fun p l h ih => hb p _ h (by rwa [bytes_drop] at ih)) (fun p l hl h ih => ht p _ (fun e => hl (bytes_nil e)) h (by rwa [bytes_drop] at ih))
 intro p l
 have:=this p (l.map fun c => (c,0))
 rwa [bytes_zero] at this
def skipsN : Nat → List UInt8 → Nat → Prop
 | 0,_,m => m = 0
 | n + 1,b,m => m = 0 ∨ (0 < blankLen b ∧ ∃ m',m = blankLen b + m' ∧ skipsN n (b.drop (blankLen b)) m')
def Skips (b : List UInt8) (m : Nat) : Prop:=∃ n,skipsN n b m
theorem Skips.none (b : List UInt8) : Skips b 0:=⟨0,rfl⟩
theorem Skips.more (b : List UInt8) (m : Nat) (h : 0 < blankLen b) (r : Skips (b.drop (blankLen b)) m) : Skips b (blankLen b + m):=by
 obtain ⟨n,hn⟩:=r
 exact ⟨n + 1, .inr ⟨h,m,rfl,hn⟩⟩
theorem tk_cons : ∀ (p : Bool) (l : List Ch),∀ x rest,tk p l = x :: rest → ∃ m,Skips (bytes l) m ∧ m < l.length ∧ x = tokAt (p || decide (0 < m)) (l.drop m) ∧ rest = tk false (l.drop (m + (first (bytes (l.drop m))).2)):=by
 refine tkInd ?_ ?_ ?_
 ·intro p x rest h; simp [tk_nil] at h
 ·intro p l hb ih x rest h
  rw [tk_blank p l hb] at h
  obtain ⟨m,h1,h2,h3,h4⟩:=ih x rest h
  have hle:=blank_len l
  rw [List.length_drop] at h2
  refine ⟨blankLen (bytes l) + m,?_,by omega,?_,?_⟩
  ·exact Skips.more _ _ hb (by rwa [bytes_drop] at h1)
  ·have e : (p || decide (0 < blankLen (bytes l) + m)) = true:=by rw [decide_eq_true (by omega)]; simp
   rw [h3,List.drop_drop,e,Bool.true_or]
  ·rw [h4,List.drop_drop,List.drop_drop]
   congr 2
   omega
 ·intro p l hl hb _ x rest h
  rw [tk_tok p l hl hb] at h
  injection h with h1 h2
  refine ⟨0,Skips.none _,List.length_pos_iff.2 hl,?_,?_⟩
  ·rw [← h1]; simp
  ·rw [← h2]; simp
end Lx
section
open Go.Shelf
def lays169_ren : Go.Shelf.Ren:=⟨fun | 169 => 100 | n => n,fun | 70 => 203 | 9 => 9 | 0 => 0 | 72 => 206 | 37 => 204 | 127 => 261 | 3 => 3 | 5 => 5 | n => n,fun | n => n⟩
theorem lays169 : Go.Proofs.Lays.n169 Tryz.prog lays169_ren:={
 mixed:=by kernel_rfl
 f169:=Tryz.func100.trans (congrArg some (by kernel_rfl))
 t0:=Tryz.underlying0
 a0:=Tryz.isAgg0
 z0:=Tryz.sizeOf0
 v0:=Tryz.zeroValue0
 t3:=Tryz.underlying3
 a3:=Tryz.isAgg3
 z3:=Tryz.sizeOf3
 v3:=Tryz.zeroValue3
 t9:=Tryz.underlying9
 a9:=Tryz.isAgg9
 z9:=Tryz.sizeOf9
 v9:=Tryz.zeroValue9
 t37:=Tryz.underlying204
 a37:=Tryz.isAgg204
 z37:=Tryz.sizeOf204
 v37:=Tryz.zeroValue204
 t70:=Tryz.underlying203
 a70:=Tryz.isAgg203
 z70:=Tryz.sizeOf203
 v70:=Tryz.zeroValue203
 t72:=Tryz.underlying206
 a72:=Tryz.isAgg206
 z72:=Tryz.sizeOf206
 v72:=Tryz.zeroValue206
 t127:=Tryz.underlying261
 a127:=Tryz.isAgg261
 z127:=Tryz.sizeOf261
 v127:=Tryz.zeroValue261 }
theorem bextra : Builder.Extra Tryz.prog lays169_ren:={
 sizeBuilder:=by kernel_rfl
 liesBuilder:=by kernel_rfl
 t5:=Tryz.underlying5
 a5:=Tryz.isAgg5
 z5:=Tryz.sizeOf5
 v5:=Tryz.zeroValue5
 infoByte:=by kernel_rfl
 cellsByte:=by kernel_rfl
 sizeByte:=by kernel_rfl
 neB5:=by decide }
def lays137_ren : Go.Shelf.Ren:=⟨fun | 137 => 144 | 217 => 180 | 266 => 207 | n => n,fun | 9 => 9 | 5 => 5 | 3 => 3 | n => n,fun | n => n⟩
theorem lays137 : Go.Proofs.Lays.n137 Tryz.prog lays137_ren:={
 mixed:=by kernel_rfl
 f137:=Tryz.func144.trans (congrArg some (by kernel_rfl))
 f217:=Tryz.func180.trans (congrArg some (by kernel_rfl))
 f266:=Tryz.func207.trans (congrArg some (by kernel_rfl))
 t3:=Tryz.underlying3
 a3:=Tryz.isAgg3
 z3:=Tryz.sizeOf3
 v3:=Tryz.zeroValue3
 t5:=Tryz.underlying5
 a5:=Tryz.isAgg5
 z5:=Tryz.sizeOf5
 v5:=Tryz.zeroValue5
 t9:=Tryz.underlying9
 a9:=Tryz.isAgg9
 z9:=Tryz.sizeOf9
 v9:=Tryz.zeroValue9 }
def lays104_ren : Go.Shelf.Ren:=⟨fun | 104 => 266 | 211 => 293 | 207 => 305 | n => n,fun | 9 => 9 | 4 => 4 | 24 => 371 | 3 => 3 | n => n,fun | n => n⟩
theorem lays104 : Go.Proofs.Lays.n104 Tryz.prog lays104_ren:={
 mixed:=by kernel_rfl
 f104:=Tryz.func266.trans (congrArg some (by kernel_rfl))
 f207:=Tryz.func305.trans (congrArg some (by kernel_rfl))
 f211:=Tryz.func293.trans (congrArg some (by kernel_rfl))
 t3:=Tryz.underlying3
 a3:=Tryz.isAgg3
 z3:=Tryz.sizeOf3
 v3:=Tryz.zeroValue3
 t4:=Tryz.underlying4
 a4:=Tryz.isAgg4
 z4:=Tryz.sizeOf4
 v4:=Tryz.zeroValue4
 t9:=Tryz.underlying9
 a9:=Tryz.isAgg9
 z9:=Tryz.sizeOf9
 v9:=Tryz.zeroValue9
 t24:=Tryz.underlying371
 a24:=Tryz.isAgg371
 z24:=Tryz.sizeOf371
 v24:=Tryz.zeroValue371 }
def lays143_ren : Go.Shelf.Ren:=⟨fun | 143 => 145 | 219 => 181 | 217 => 180 | 225 => 208 | 224 => 209 | 267 => 210 | 266 => 207 | 314 => 246 | n => n,fun | 9 => 9 | 3 => 3 | 4 => 4 | 5 => 5 | 46 => 196 | 146 => 376 | 51 => 254 | n => n,fun | 1 => 3 | n => n⟩
theorem lays143 : Go.Proofs.Lays.n143 Tryz.prog lays143_ren:={
 mixed:=by kernel_rfl
 f143:=Tryz.func145.trans (congrArg some (by kernel_rfl))
 f217:=Tryz.func180.trans (congrArg some (by kernel_rfl))
 f219:=Tryz.func181.trans (congrArg some (by kernel_rfl))
 f224:=Tryz.func209.trans (congrArg some (by kernel_rfl))
 f225:=Tryz.func208.trans (congrArg some (by kernel_rfl))
 f266:=Tryz.func207.trans (congrArg some (by kernel_rfl))
 f267:=Tryz.func210.trans (congrArg some (by kernel_rfl))
 f314:=Tryz.func246.trans (congrArg some (by kernel_rfl))
 t3:=Tryz.underlying3
 a3:=Tryz.isAgg3
 z3:=Tryz.sizeOf3
 v3:=Tryz.zeroValue3
 t4:=Tryz.underlying4
 a4:=Tryz.isAgg4
 z4:=Tryz.sizeOf4
 v4:=Tryz.zeroValue4
 t5:=Tryz.underlying5
 a5:=Tryz.isAgg5
 z5:=Tryz.sizeOf5
 v5:=Tryz.zeroValue5
 t9:=Tryz.underlying9
 a9:=Tryz.isAgg9
 z9:=Tryz.sizeOf9
 v9:=Tryz.zeroValue9
 t46:=Tryz.underlying196
 a46:=Tryz.isAgg196
 z46:=Tryz.sizeOf196
 v46:=Tryz.zeroValue196
 t51:=Tryz.underlying254
 a51:=Tryz.isAgg254
 z51:=Tryz.sizeOf254
 v51:=Tryz.zeroValue254
 t146:=Tryz.underlying376
 a146:=Tryz.isAgg376
 z146:=Tryz.sizeOf376
 v146:=Tryz.zeroValue376
 g1:=by kernel_rfl }
def lays138_ren : Go.Shelf.Ren:=⟨fun | 138 => 177 | 195 => 205 | 218 => 206 | 143 => 145 | 219 => 181 | 217 => 180 | 225 => 208 | 224 => 209 | 267 => 210 | 266 => 207 | 314 => 246 | n => n,fun | 9 => 9 | 3 => 3 | 4 => 4 | 5 => 5 | 0 => 0 | 46 => 196 | 146 => 376 | 51 => 254 | n => n,fun | 1 => 3 | n => n⟩
theorem lays138 : Go.Proofs.Lays.n138 Tryz.prog lays138_ren:={
 mixed:=by kernel_rfl
 f138:=Tryz.func177.trans (congrArg some (by kernel_rfl))
 f143:=Tryz.func145.trans (congrArg some (by kernel_rfl))
 f195:=Tryz.func205.trans (congrArg some (by kernel_rfl))
 f217:=Tryz.func180.trans (congrArg some (by kernel_rfl))
 f218:=Tryz.func206.trans (congrArg some (by kernel_rfl))
 f219:=Tryz.func181.trans (congrArg some (by kernel_rfl))
 f224:=Tryz.func209.trans (congrArg some (by kernel_rfl))
 f225:=Tryz.func208.trans (congrArg some (by kernel_rfl))
 f266:=Tryz.func207.trans (congrArg some (by kernel_rfl))
 f267:=Tryz.func210.trans (congrArg some (by kernel_rfl))
 f314:=Tryz.func246.trans (congrArg some (by kernel_rfl))
 t0:=Tryz.underlying0
 a0:=Tryz.isAgg0
 z0:=Tryz.sizeOf0
 v0:=Tryz.zeroValue0
 t3:=Tryz.underlying3
 a3:=Tryz.isAgg3
 z3:=Tryz.sizeOf3
 v3:=Tryz.zeroValue3
 t4:=Tryz.underlying4
 a4:=Tryz.isAgg4
 z4:=Tryz.sizeOf4
 v4:=Tryz.zeroValue4
 t5:=Tryz.underlying5
 a5:=Tryz.isAgg5
 z5:=Tryz.sizeOf5
 v5:=Tryz.zeroValue5
 t9:=Tryz.underlying9
 a9:=Tryz.isAgg9
 z9:=Tryz.sizeOf9
 v9:=Tryz.zeroValue9
 t46:=Tryz.underlying196
 a46:=Tryz.isAgg196
 z46:=Tryz.sizeOf196
 v46:=Tryz.zeroValue196
 t51:=Tryz.underlying254
 a51:=Tryz.isAgg254
 z51:=Tryz.sizeOf254
 v51:=Tryz.zeroValue254
 t146:=Tryz.underlying376
 a146:=Tryz.isAgg376
 z146:=Tryz.sizeOf376
 v146:=Tryz.zeroValue376
 g1:=by kernel_rfl }
def lays99_ren : Go.Shelf.Ren:=⟨fun | 99 => 142 | 206 => 178 | n => n,fun | 9 => 9 | 4 => 4 | 3 => 3 | n => n,fun | n => n⟩
theorem lays99 : Go.Proofs.Lays.n99 Tryz.prog lays99_ren:={
 mixed:=by kernel_rfl
 f99:=Tryz.func142.trans (congrArg some (by kernel_rfl))
 f206:=Tryz.func178.trans (congrArg some (by kernel_rfl))
 t3:=Tryz.underlying3
 a3:=Tryz.isAgg3
 z3:=Tryz.sizeOf3
 v3:=Tryz.zeroValue3
 t4:=Tryz.underlying4
 a4:=Tryz.isAgg4
 z4:=Tryz.sizeOf4
 v4:=Tryz.zeroValue4
 t9:=Tryz.underlying9
 a9:=Tryz.isAgg9
 z9:=Tryz.sizeOf9
 v9:=Tryz.zeroValue9 }
def lays109_ren : Go.Shelf.Ren:=⟨fun | 109 => 64 | n => n,fun | 31 => 22 | 9 => 9 | 3 => 3 | 0 => 0 | 4 => 4 | n => n,fun | n => n⟩
theorem lays109 : Go.Proofs.Lays.n109 Tryz.prog lays109_ren:={
 mixed:=by kernel_rfl
 f109:=Tryz.func64.trans (congrArg some (by kernel_rfl))
 t0:=Tryz.underlying0
 a0:=Tryz.isAgg0
 z0:=Tryz.sizeOf0
 v0:=Tryz.zeroValue0
 t3:=Tryz.underlying3
 a3:=Tryz.isAgg3
 z3:=Tryz.sizeOf3
 v3:=Tryz.zeroValue3
 t4:=Tryz.underlying4
 a4:=Tryz.isAgg4
 z4:=Tryz.sizeOf4
 v4:=Tryz.zeroValue4
 t9:=Tryz.underlying9
 a9:=Tryz.isAgg9
 z9:=Tryz.sizeOf9
 v9:=Tryz.zeroValue9
 t31:=Tryz.underlying22
 a31:=Tryz.isAgg22
 z31:=Tryz.sizeOf22
 v31:=Tryz.zeroValue22 }
open Go.RowKit Go.Lib
def signCells : Array Value:=(Lx.signTab.map fun s => Value.string ⟨s.toArray⟩).toArray
def wordTab : List (List UInt8):=[[105,102],[105,102,100,101,102],[105,102,110,100,101,102],[101,108,105,102],[101,108,115,101],[101,110,100,105,102],[100,101,102,105,110,101],[117,110,100,101,102],[105,110,99,108,117,100,101],[101,114,114,111,114],[112,114,97,103,109,97],[108,105,110,101]]
def wordCells : Array Value:=(wordTab.map fun s => Value.string ⟨s.toArray⟩).toArray
def Glob (w : World) : Prop:=(∃ m : Int,w.cell? ⟨3,0,none⟩ = some (.int .i64 m)) ∧ (∃ t fz,w.heap[2]? = some (.cells signCells t fz)) ∧ ∃ t fz,w.heap[1]? = some (.cells wordCells t fz)
theorem lt_of_cell {w : World} {a : Addr} {v : Value} (h : w.cell? a = some v) : a.block < w.heap.size:=by
 unfold World.cell? at h
 rcases Nat.lt_or_ge a.block w.heap.size with hlt | hge
 ·exact hlt
 ·rw [Array.getElem?_eq_none hge] at h; cases h
theorem Glob.pos {w : World} (h : Glob w) : 3 < w.heap.size:=by
 obtain ⟨⟨m,hm⟩,_⟩:=h
 exact lt_of_cell hm
theorem Glob.below {w w' : World} {n : Nat} (h : Glob w) (hb : Below n w w') (hn : 3 < n) : Glob w':=by
 obtain ⟨⟨m,hm⟩,⟨t,fz,hs⟩,t',fz',hs'⟩:=h
 exact ⟨⟨m,(hb.cell (p:=⟨3,0,none⟩) (by show 3 < n; omega)).trans hm⟩,⟨t,fz,(hb.block 2 (by omega)).trans hs⟩,t',fz',(hb.block 1 (by omega)).trans hs'⟩
theorem Glob.later {w w' : World} (h : Glob w) (hb : Below w.heap.size w w') : Glob w':=h.below hb h.pos
theorem Glob.shaped_int {w : World} (h : w.ShapedOpen Tryz.prog) : ∃ m : Int,w.cell? ⟨3,0,none⟩ = some (.int .i64 m) :=
 Go.Proofs.cell_of_shapedOpen_int (zero:=#[.int .i64 0]) (t:=3) h (of_decide_eq_true (by kernel_rfl)) (by kernel_rfl) rfl (by kernel_rfl) (by kernel_rfl) Tryz.underlying3
theorem count_any (s : ByteArray) (w : World) (hG : Glob w) (hs : s.size ≤ 4000000000) :
  Calls Tryz.prog 177 #[.string s, .string ⟨#[92,10]⟩] w fun e w' => e = .returned (.int .i64 (Lib.count s.data.toList [92,10])) ∧ w = w':=by
 obtain ⟨⟨m,hm⟩,_⟩:=hG
 exact (Any.strings_Count lays138 s ⟨#[92,10]⟩ m w (by omega) hm (by decide)).mono fun _ _ h => ⟨h.1,h.2.symm⟩
theorem prefix_any (s p : ByteArray) (w : World) :
  Calls Tryz.prog 142 #[.string s, .string p] w fun e w' => e = .returned (.bool (Lib.hasPrefix s.data.toList p.data.toList)) ∧ w = w' :=
 (Any.strings_HasPrefix lays99 s p w).mono fun _ _ h => ⟨h.1,h.2.symm⟩
theorem indexbyte_any (s : ByteArray) (w : World) :
  Calls Tryz.prog 144 #[.string s, .int .u8 10] w fun e w' => e = .returned (.int .i64 (Lib.indexByte s.data.toList 10)) ∧ w = w' :=
 (Any.strings_IndexByte lays137 s 10 w).mono fun _ _ h => ⟨h.1,h.2.symm⟩
theorem index_any (s : ByteArray) (w : World) (hG : Glob w) (hs : s.size ≤ 4000000000) :
  Calls Tryz.prog 145 #[.string s, .string ⟨#[42,47]⟩] w fun e w' => e = .returned (.int .i64 (Lib.index s.data.toList [42,47])) ∧ w = w':=by
 obtain ⟨⟨m,hm⟩,_⟩:=hG
 exact (Any.strings_Index lays143 s ⟨#[42,47]⟩ m w (by omega) hm).mono fun _ _ h => ⟨h.1,h.2.symm⟩
theorem bstring_any (B b : Nat) (l : List UInt8) (w : World) (h : Lib.IsBuilderF 206 5 B b (Lib.byteCells l) w) (hBw : B ≤ w.heap.size) :
  Calls Tryz.prog 100 #[.pointer (some ⟨b,0,none⟩)] w fun e w' => e = .returned (.string ⟨l.toArray⟩) ∧ Below B w w' :=
 (Any.Builder_String_any_k lays169 bextra B b l w h hBw).mono fun _ _ h => ⟨h.1,h.2.2.1⟩
theorem pairs_any (s : ByteArray) (w : World) (hG : Glob w) (hs : s.size ≤ 4000000000) :
  Calls Tryz.prog 140 #[.string s] w fun e w' => e = .returned (.int .i64 (Lib.count s.data.toList [92,10])) ∧ w = w':=by
 go_enter Tryz.func140,Tryz.ntmps140
 go_wp2_with fail
 refine (count_any s _ hG hs).mono ?_
 rintro e w' ⟨rfl,rfl⟩
 go_wp2_with fail
 go_ret
 exact ⟨rfl,rfl⟩
theorem size_list (s : ByteArray) : s.data.toList.length = s.size:=by rw [Array.length_toList]; rfl
theorem kept_any (s : ByteArray) (w : World) (hG : Glob w) (hs : s.size ≤ 4000000000) :
  Calls Tryz.prog 97 #[.string s] w fun e w' => e = .returned (.int .i64 ((Sp.left 0 s.data.toList).length : Nat)) ∧ w = w':=by
 have h1:=Sp.left_count s.data.toList 0
 rw [size_list] at h1
 obtain ⟨n,hn⟩ : ∃ n,n = Lib.count s.data.toList [92,10]:=⟨_,rfl⟩
 obtain ⟨m,hm⟩ : ∃ m,m = (Sp.left 0 s.data.toList).length:=⟨_,rfl⟩
 rw [← hn,← hm] at h1
 rw [← hm]
 have Hn:=Lib.hid hn
 clear hn hm
 have b1 : 0 ≤ (n : Int):=by omega
 have b2 : (n : Int) ≤ 4000000000:=by omega
 have b3 : (m : Int) + 2 * n = s.size:=by omega
 have H1:=Lib.hid b3
 clear b3 h1
 go_enter Tryz.func97,Tryz.ntmps97
 go_wp2_with fail
 refine (pairs_any s _ hG hs).mono ?_
 rintro e w' ⟨rfl,rfl⟩
 rw [← Hn.out]
 go_wp2_with fail
 go_ret
 refine ⟨?_,rfl⟩
 have:=H1.out
 rw [show (s.size : Int) - 2 * n = m by omega]
 rfl
end
section
open Go.RowKit Go.Shelf
attribute [local go_sem] Oper.semAt_some
def KeepB (b : Nat) (W W' : World) : Prop:=W'.heap[b]? = W.heap[b]?
theorem KeepB.trans {b : Nat} {A B C : World} (h : KeepB b A B) (k : KeepB b B C) : KeepB b A C:=Eq.trans k h
theorem KeepB.cell {b : Nat} {W W' : World} (h : KeepB b W W') {v : Value} (hc : W.cell? ⟨b,0,none⟩ = some v) : W'.cell? ⟨b,0,none⟩ = some v :=
 (World.cell?_of_block (a:=⟨b,0,none⟩) h).trans hc
theorem KeepB.put {b : Nat} {w : World} (hb : b < w.heap.size) (W : World) (l : Nat) (o o' : Obj) (hl : w.heap.size ≤ l) (_ : W.heap[l]? = some o) (_ : o.isCells = false) (_ : o.isWalk = false) : KeepB b W (W.putObj l o') :=
 World.putObj_heap_other (by omega)
def chV (x : Sp.Ch) : Value:=.agg #[.int .u8 x.1.toNat, .int .i64 x.2]
def Split (t : List UInt8) (k : Nat) (pre : List Sp.Ch) : Prop:=k ≤ t.length ∧ Sp.left 0 t = pre ++ Sp.left k (t.drop k)
theorem split_start (t : List UInt8) : Split t 0 []:=⟨Nat.zero_le _,by simp⟩
theorem split_end {t : List UInt8} {k : Nat} {pre : List Sp.Ch} (h : Split t k pre) (hk : t.length ≤ k) : pre = Sp.left 0 t:=by
 rw [h.2,List.drop_of_length_le hk,Sp.left_nil]; simp
theorem split_pair {t : List UInt8} {k : Nat} {pre : List Sp.Ch} (h : Split t k pre) (hp : Lib.hasPrefix (t.drop k) [92,10] = true) : k + 2 ≤ t.length ∧ Split t (k + 2) pre:=by
 obtain ⟨r,e⟩:=Sp.pair_form _ hp
 have hl : (t.drop k).length = r.length + 2:=by rw [e]; rfl
 rw [List.length_drop] at hl
 refine ⟨by omega,by omega,?_⟩
 have : t.drop (k + 2) = r:=by rw [← List.drop_drop,e]; rfl
 rw [h.2,e,Sp.left_pair,this]
theorem split_one {t : List UInt8} {k : Nat} {pre : List Sp.Ch} (h : Split t k pre) (hk : k < t.length) (hp : Lib.hasPrefix (t.drop k) [92,10] = false) :
  Split t (k + 1) (pre ++ [(t[k],k)]) ∧ pre ++ [(t[k],k)] <+: Sp.left 0 t ∧ pre.length < (Sp.left 0 t).length:=by
 have e : t.drop k = t[k] :: t.drop (k + 1):=List.drop_eq_getElem_cons hk
 rw [e] at hp
 have h2 : Sp.left 0 t = pre ++ [(t[k],k)] ++ Sp.left (k + 1) (t.drop (k + 1)):=by rw [h.2,e,Sp.left_one k _ _ hp]; simp
 exact ⟨⟨by omega,h2⟩,⟨_,h2.symm⟩,by rw [h2]; simp⟩
theorem left1_in (n : Nat) (hn : 1 ≤ n) (l Bn : Nat) (s : ByteArray) (hs : s.size ≤ 4000000000) (J Jx : List Sp.Ch → World → Prop)
  (hY : ∀ pre x W,J pre W → pre.length < (Sp.left 0 s.data.toList).length → YieldAt Fence.wide (n - 1) Tryz.prog l #[chV x] W fun e W' =>
   (e = .returned (.bool true) ∧ J (pre ++ [x]) W' ∧ KeepB Bn W W') ∨ (e = .returned (.bool false) ∧ Jx (pre ++ [x]) W'))
  (W : World) (hBn : W.cell? ⟨Bn,0,none⟩ = some (.string s)) (h0 : J [] W) :
  CallsIn Fence.wide n Tryz.prog 141 #[.func (.yield l) #[] #[], .pointer (some ⟨Bn,0,none⟩)] W fun e W' => (∃ v,e = .returned v) ∧
   ((∃ ys,ys = Sp.left 0 s.data.toList ∧ J ys W') ∨ (∃ pre,pre <+: Sp.left 0 s.data.toList ∧ Jx pre W')):=by
 refine callsIn_of_wp Tryz.func141 rfl trivial ?_ rfl
 simp only [Tryz.ntmps141,List.size_toArray,List.length_cons,List.length_nil,Nat.reduceAdd,Nat.reduceSub,Array.replicate_succ,Array.replicate_zero,List.push_toArray,List.append_toArray,List.nil_append,List.cons_append]
 gi_wp2
 gi_loopw [3] (fun p wr => ∃ (k : Nat) (pre : List Sp.Ch),p = .int .i64 k ∧ Split s.data.toList k pre ∧ wr.cell? ⟨Bn,0,none⟩ = some (.string s) ∧ J pre wr)
  (fun p _ => s.size - (intOf p).toNat)
 case atStart => exact ⟨0,[],rfl,split_start _,hBn,h0⟩
 case round =>
  obtain ⟨k,pre,rfl,hsp,hc,hJ⟩:=hrel
  have hkl:=hsp.1
  rw [size_list] at hkl
  by_cases hlt : k < s.size
  ·have hlt' : k < s.data.toList.length:=by rw [size_list]; exact hlt
   cases hp : Lib.hasPrefix (s.data.toList.drop k) [92,10] with
   | true =>
    obtain ⟨h2,hsp2⟩:=split_pair hsp hp
    rw [size_list] at h2
    have HP:=Lib.hid hp
    clear hp
    gi_wp2_with fail
    refine ⟨trivial,(callsIn_wide.2 (prefix_any _ ⟨#[92,10]⟩ _)).mono ?_⟩
    rintro e w' ⟨rfl,rfl⟩
    rw [Lib.extract_to_end,HP.out]
    gi_wp2_with fail
    go_roundw
    case rel => exact ⟨k + 2,pre,by go_num,hsp2,hc,hJ⟩
    case measure => simp [intOf]; omega
   | false =>
    obtain ⟨hsp2,hpre,hlen⟩:=split_one hsp hlt' hp
    have HP:=Lib.hid hp
    clear hp
    obtain ⟨fn,tmps,assign,body,hy,hR⟩:=hY pre (s.data.toList[k],k) wr hJ hlen
    dsimp only [chV] at hy
    rw [show s.data.toList[k] = s[k] from rfl] at hy
    gi_wp2_with fail
    refine ⟨trivial,(callsIn_wide.2 (prefix_any _ ⟨#[92,10]⟩ _)).mono ?_⟩
    rintro e w' ⟨rfl,rfl⟩
    rw [Lib.extract_to_end,HP.out]
    gi_wp2_with fail
    refine hR.mono ?_
    rintro e W3 (⟨rfl,hJ3,hk3⟩ | ⟨rfl,hJx3⟩)
    ·have hc3 : W3.cell? ⟨Bn,0,none⟩ = some (.string s):=hk3.cell hc
     gi_wp2_with fail
     go_roundw
     case rel => exact ⟨k + 1,_,by go_num,hsp2,hc3,hJ3⟩
     case measure => simp [intOf]; omega
    ·gi_wp2_with fail
     refine bodyPost_ret (results_none rfl _ _ _) rfl ?_
     exact ⟨⟨_,rfl⟩, .inr ⟨_,hpre,hJx3⟩⟩
  ·gi_wp2_with fail
   go_end0
   exact ⟨⟨_,rfl⟩, .inl ⟨pre,split_end hsp (by rw [size_list]; omega),hJ⟩⟩
theorem left_in (n : Nat) (s : ByteArray) (w : World) :
  CallsIn Fence.wide n Tryz.prog 98 #[.string s] w fun e w' => e = .returned (.func (.func 141) #[] #[.pointer (some ⟨w.heap.size,0,none⟩)]) ∧ w' = w.alloc (.cells #[.string s] 9):=by
 refine callsIn_of_wp Tryz.func98 rfl trivial ?_ rfl
 simp only [Tryz.ntmps98,List.size_toArray,List.length_cons,List.length_nil,Nat.reduceAdd,Nat.reduceSub,Array.replicate_succ,Array.replicate_zero,List.push_toArray,List.append_toArray,List.nil_append,List.cons_append]
 gi_wp2
 go_ret
 exact ⟨rfl,rfl⟩
theorem left_stops (n : Nat) (hn : 1 ≤ n) (Bn : Nat) (s : ByteArray) (hs : s.size ≤ 4000000000) (w : World) (hBn : Bn < w.heap.size)
  (hc : w.cell? ⟨Bn,0,none⟩ = some (.string s)) :
  SeqStopsK Fence.wide n Tryz.prog 141 #[.pointer (some ⟨Bn,0,none⟩)] (fun x : Sp.Ch => #[chV x]) (KeepB Bn) (fun ys => ys = Sp.left 0 s.data.toList) (fun pre => pre <+: Sp.left 0 s.data.toList) (Sp.left 0 s.data.toList).length w:=fun l J Jx W hW _ _ hY h0 =>
 left1_in n hn l Bn s hs J Jx hY W ((hW.cell (p:=⟨Bn,0,none⟩) hBn).trans hc) h0
end
section
open Go.RowKit Go.Shelf
attribute [local go_sem] Oper.semAt_some
def BoxedC (W : World) (B : Nat) (x : Sp.Ch) : Prop:=W.heap[B]? = some (.cells #[.int .u8 x.1.toNat, .int .i64 x.2] 143 (0,0))
theorem BoxedC.new (W : World) (x : Sp.Ch) : BoxedC (W.alloc (.cells #[.int .u8 x.1.toNat, .int .i64 x.2] 143)) W.heap.size x:=World.alloc_heap_new W _
theorem BoxedC.cell0 {W : World} {B : Nat} {x : Sp.Ch} (h : BoxedC W B x) : W.cell? ⟨B,0,none⟩ = some (.int .u8 x.1.toNat):=by simp [World.cell?,show W.heap[B]? = _ from h]
theorem BoxedC.cell1 {W : World} {B : Nat} {x : Sp.Ch} (h : BoxedC W B x) : W.cell? ⟨B,1,none⟩ = some (.int .i64 x.2):=by simp [World.cell?,show W.heap[B]? = _ from h]
theorem BoxedC.lt {W : World} {B : Nat} {x : Sp.Ch} (h : BoxedC W B x) : B < W.heap.size:=(Array.getElem?_eq_some_iff.1 h).1
theorem boxedC_own (B : Nat) (x : Sp.Ch) : Own (fun (_ : Unit) W => BoxedC W B x):=fun _ X _ _ hs hg hrow =>
 (hg.block B hs.lt (fun e' => by obtain ⟨o,ho,hc⟩:=hrow B e'.symm; rw [show X.heap[B]? = _ from hs] at ho; cases ho; cases hc)).trans hs
end
section
open Go.RowKit Go.Shelf
attribute [local go_sem] Oper.semAt_some
def cellsC : List Sp.Ch → List Value
 | [] => []
 | x :: r => .int .u8 x.1.toNat :: .int .i64 x.2 :: cellsC r
theorem cellsC_append (a b : List Sp.Ch) : cellsC (a ++ b) = cellsC a ++ cellsC b:=by
 induction a with
 | nil => rfl
 | cons x r ih => simp [cellsC,ih]
theorem cellsC_get (a : List Sp.Ch) : ∀ i x,a[i]? = some x → (cellsC a)[i * 2]? = some (.int .u8 x.1.toNat) ∧ (cellsC a)[i * 2 + 1]? = some (.int .i64 x.2):=by
 induction a with
 | nil => intro i x h; simp at h
 | cons y r ih =>
  intro i x h
  cases i with
  | zero => simp at h; subst h; simp [cellsC]
  | succ i =>
   simp at h
   have:=ih i x h
   rw [show (i + 1) * 2 = i * 2 + 1 + 1 by omega]
   simpa [cellsC] using this
def Chars (W : World) (v : Value) (l : List Sp.Ch) : Prop :=
 ∃ ad cap,v = .slice ad l.length cap ∧ l.length ≤ cap ∧ cap ≤ maxLen ∧ ∀ i x,l[i]? = some x → ∃ g o,ad = some ⟨g,o,none⟩ ∧ W.cell? ⟨g,o + i * 2,none⟩ = some (.int .u8 x.1.toNat) ∧ W.cell? ⟨g,o + i * 2 + 1,none⟩ = some (.int .i64 x.2)
theorem Chars.below {W W' : World} {v : Value} {l : List Sp.Ch} (h : Chars W v l) (hb : Below W.heap.size W W') : Chars W' v l:=by
 obtain ⟨ad,cap,rfl,h1,h2,h3⟩:=h
 refine ⟨ad,cap,rfl,h1,h2,fun i x hx => ?_⟩
 obtain ⟨g,o,e,c0,c1⟩:=h3 i x hx
 have hg:=lt_of_cell c0
 exact ⟨g,o,e,(hb.cell (p:=⟨g,o + i * 2,none⟩) hg).trans c0,(hb.cell (p:=⟨g,o + i * 2 + 1,none⟩) hg).trans c1⟩
theorem add_none (b o j : Nat) : (⟨b,o,none⟩ : Addr).add j = ⟨b,o + j,none⟩:=by
 unfold Addr.add
 split
 ·rename_i e; subst e; rfl
 ·rfl
theorem Chars.of_row {W : World} {base : Nat} {v : Value} {l : List Sp.Ch} (h : W.ownsRow base 143 2 v l.length (cellsC l)) : Chars W v l:=by
 have hc:=fun g => h.cells (g:=g)
 rcases h.2 with ⟨rfl,h0⟩ | ⟨g,cap,cur,rfl,_,_,h1,h2,_,_⟩
 ·refine ⟨none,0,by rw [h0],by omega,Nat.zero_le _,fun i x hx => ?_⟩
  rw [List.length_eq_zero_iff.1 h0] at hx
  simp at hx
 ·refine ⟨_,cap,rfl,h1,h2,fun i x hx => ⟨g,0,rfl,?_,?_⟩⟩
  ·have:=hc g rfl (i * 2) _ (cellsC_get l i x hx).1
   rwa [add_none] at this
  ·have:=hc g rfl (i * 2 + 1) _ (cellsC_get l i x hx).2
   rwa [add_none] at this
theorem info37 : (Tryz.prog.info? 143).map (fun i => (i.zero,i.size,i.bytes)) = some (some (.agg #[.int .u8 0, .int .i64 0]),2,16):=by kernel_rfl
theorem cell_two_new (w : World) (x y : Value) (t : TypeId) : ∀ j u,[x,y][j]? = some u → (w.alloc (.cells #[x,y] t)).cell? ((⟨w.heap.size,0,none⟩ : Addr).add j) = some u:=by
 intro j u hj
 match j,hj with
 | 0,hj => simp at hj; subst hj; simp [Addr.add]
 | 1,hj => simp at hj; subst hj; simp [Addr.add]
theorem join_in (m : Nat) (hm : 3 ≤ m) (s : ByteArray) (hs : s.size ≤ 4000000000) (w : World) (hG : Glob w) :
  CallsIn Fence.wide m Tryz.prog 57 #[.string s] w fun e W' => ∃ v,e = .returned v ∧ W'.ownsRow w.heap.size 143 2 v (Sp.left 0 s.data.toList).length (cellsC (Sp.left 0 s.data.toList)) ∧ Below w.heap.size w W':=by
 have h1 : 1 ≤ m:=by omega
 obtain ⟨i0,hi,hz0,hz1,hz2⟩:=info_parts info37
 have hlen:=Sp.left_le 0 s.data.toList
 rw [size_list] at hlen
 refine callsIn_of_wp_marks Tryz.func57 rfl trivial ?_ rfl
 simp only [Tryz.ntmps57,List.size_toArray,List.length_cons,List.length_nil,Nat.reduceAdd,Nat.reduceSub,Array.replicate_succ,Array.replicate_zero,List.push_toArray,List.append_toArray,List.nil_append,List.cons_append]
 gi_wp2_with fail
 refine ⟨trivial,(callsIn_wide.2 (kept_any s _ hG hs)).mono ?_⟩
 rintro e w' ⟨rfl,rfl⟩
 gi_wp2_with (gi_at_make; refine wpListIn_make_own _ rfl _ _ 137 rfl w.heap.size 143 i0 (.agg #[.int .u8 0, .int .i64 0]) 2 Tryz.underlying137 hi hz0 hz1 .i64 .i64 _ _ rfl rfl rfl (by rw [hz2]; omega) (by unfold maxLen; omega) (Nat.le_refl _) ?_; intro w1 hrow1 hg1)
 refine ⟨trivial,(left_in _ s _).mono ?_⟩
 rintro e w' ⟨rfl,rfl⟩
 gi_wp2_with fail
 obtain ⟨n,hn⟩ : ∃ n,n = (Sp.left 0 s.data.toList).length:=⟨_,rfl⟩
 rw [← hn] at hlen hrow1 ⊢
 have Hn:=Lib.hid hn
 clear hn
 have hsw1:=hg1.size
 have bL:=(Boxed.new w1 137 (.slice (some ⟨w.heap.size,0,none⟩) 0 n)).alloc (.cells #[.string s] 9)
 have bT:=Boxed.new (w1.alloc (.cells #[.slice (some ⟨w.heap.size,0,none⟩) 0 n] 137)) 9 (.string s)
 simp only [World.size_alloc] at bT
 have hrow:=(hrow1.alloc (.cells #[.slice (some ⟨w.heap.size,0,none⟩) 0 n] 137)).alloc (.cells #[.string s] 9)
 have hB0 : Below w.heap.size w ((w1.alloc (.cells #[.slice (some ⟨w.heap.size,0,none⟩) 0 n] 137)).alloc (.cells #[.string s] 9)):=(((Below.refl _ w).grown hg1 (Nat.le_refl _) (fun _ e => by cases e)).alloc hsw1 _).alloc (by simp; omega) _
 have hsz : ((w1.alloc (.cells #[.slice (some ⟨w.heap.size,0,none⟩) 0 n] 137)).alloc (.cells #[.string s] 9)).heap.size = w1.heap.size + 2:=by simp
 obtain ⟨W0,hW0⟩ : ∃ W0,(w1.alloc (.cells #[.slice (some ⟨w.heap.size,0,none⟩) 0 n] 137)).alloc (.cells #[.string s] 9) = W0:=⟨_,rfl⟩
 rw [hW0] at bL bT hrow hB0 hsz ⊢
 clear hW0
 refine wpIn_rangeFunc_ownH rfl h1 (gf:=141) (lb:=#[.pointer (some ⟨w1.heap.size + 1,0,none⟩)]) rfl trivial (enters_of Tryz.func141 (by kernel_rfl) rfl)
  (left_stops (m - 1) (by omega) (w1.heap.size + 1) s hs W0 (by omega) bT.cell) KeepB.trans (KeepB.put (by omega)) (Below.refl _ _) (fun _ => rfl)
  (fun pre W => ((∃ v,Boxed W w1.heap.size 137 v ∧ W.ownsRow w.heap.size 143 2 v pre.length (cellsC pre) ∧ True) ∧ Boxed W (w1.heap.size + 1) 9 (.string s)) ∧ Below w.heap.size w W)
  (fun _ _ _ => False)
  (OwnFrom.and (OwnFrom.and (Own.from (holdsRow_own w.heap.size w1.heap.size 137 143 2 (fun pre => pre.length) (fun pre => cellsC pre) (fun _ _ => True)) _) (Own.from (boxed_own _ _ (fun _ => Value.string s)) _)) (ownFrom_below (Nat.le_refl _) (by omega)))
  (fun _ _ _ _ _ hs _ _ => hs)
  ⟨⟨⟨_,bL,hrow,trivial⟩,bT⟩,hB0⟩
  (fun x a' W => ∃ Bx,w1.heap.size + 1 < Bx ∧ BoxedC W Bx x ∧ a' = { tmps:=#[.string s,undef, .slice none 0 0, .pointer (some ⟨w1.heap.size,0,none⟩), .pointer (some ⟨Bx,0,none⟩), .string s, .int .i64 n, .slice (some ⟨w.heap.size,0,none⟩) 0 n, .string s, .func (.func 141) #[] #[.pointer (some ⟨w1.heap.size + 1,0,none⟩)], .agg #[.int .u8 x.1.toNat, .int .i64 x.2],undef,undef,undef,undef,undef],defers:=[] })
  (fun x a' _ X Y row hs hg hr => by obtain ⟨Bx,h1,h2,h3⟩:=hs; exact ⟨Bx,h1,boxedC_own Bx x () X Y row h2 hg (fun r e => (hr r e).2),h3⟩)
  ?assign ?body ?done ?stop
 case assign =>
  rintro l pre x W K ⟨⟨⟨v,bL1,hrow',_⟩,bT1⟩,hB1⟩ hK
  dsimp only [chV]
  gi_wp2
  exact hK _ _ ((KeepsOthers.alloc _ _).from _) (Eq.trans (bT1.alloc _) (Eq.symm bT1)) ⟨⟨⟨v,bL1.alloc _,hrow'.alloc _,trivial⟩,bT1.alloc _⟩,hB1.alloc hB1.size _⟩ ⟨W.heap.size,bT1.lt,BoxedC.new W x,rfl⟩
 case body =>
  rintro l pre x a' W hl _ ⟨⟨⟨v,bL1,hrow',_⟩,bT1⟩,hB1⟩ ⟨Bx,hBx,bX,rfl⟩ hlt
  have cX0:=bX.cell0
  have cX1:=bX.cell1
  have cL:=bL1.cell
  rw [← Hn.out] at hlt
  gi_wp2_with (gi_at_builtin; refine wpListIn_append_own _ rfl _ _ 137 rfl w.heap.size 143 i0 (.agg #[.int .u8 0, .int .i64 0]) 2 16 Tryz.underlying137 hi hz0 hz1 hz2 rfl (by decide) _ _ _ rfl (hrow'.alloc _) ⟨W.heap.size,0,none⟩ 1 1 [.int .u8 x.1.toNat, .int .i64 x.2] rfl rfl (cell_two_new _ _ _ _) (by simp [Value.oneCell']) (by unfold maxLen; omega) (by omega) (by have:=hB1.size; simp; omega) ?_; intro v' w2 hown' hgrow _; obtain ⟨g',cap',rfl⟩:=ownsRow_succ hown'; obtain ⟨hv1,hv2,hr2,hk2,hb2⟩:=bL1.appended (by decide) hrow' hB1.size (by omega) hown' hgrow; have hc1:=hv1.cell; have hf1:=hv1.frozen)
  have bT2:=((bT1.alloc (.cells #[.int .u8 x.1.toNat, .int .i64 x.2] 143)).kept hgrow (bT1.not_row (by decide) hrow')).other (B':=w1.heap.size) (by omega) (.slice (some ⟨g',0,none⟩) (pre.length + 1) cap')
  refine ⟨hk2.from _,Eq.trans bT2 (Eq.symm bT1),⟨⟨_,hv2,?_,trivial⟩,bT2⟩,hB1.trans hb2⟩
  rw [List.length_append,cellsC_append]
  exact hr2
 case done =>
  rintro D ys W hD rfl ⟨⟨⟨v,bL1,hrow',_⟩,bT1⟩,hB1⟩ hK
  have cL:=bL1.cell
  gi_wp2
  refine ⟨by simp, .inl ⟨_,_,rfl,run_takeDeferred hK,?_⟩⟩
  exact ⟨_,results_tmp rfl _ _ _,v,rfl,ownsRow_putObj hrow' _ hK rfl,hB1.trans (belowK_b (w:=w) (Nat.le_refl _) W D _ _ (by omega) hK rfl rfl)⟩
 case stop =>
  rintro D c pre W _ _ h _
  exact h.elim
def JoinPost (w : World) (t : List UInt8) (e : Ending) (w' : World) : Prop:=∃ v,e = .returned v ∧ Chars w' v (Sp.left 0 t) ∧ Below w.heap.size w w'
theorem join_any (s : ByteArray) (hs : s.size ≤ 4000000000) (w : World) (hG : Glob w) : Calls Tryz.prog 57 #[.string s] w (JoinPost w s.data.toList) :=
 (callsIn_wide.1 (join_in 3 (by omega) s hs w hG)).mono fun _ _ ⟨v,h1,h2,h3⟩ => ⟨v,h1,Chars.of_row h2,h3⟩
end
section
open Go.RowKit Go.Shelf
def Bld (b : Nat) (acc : List UInt8) (w : World) : Prop:=Lib.IsBuilderF 206 5 b b (Lib.byteCells acc) w
theorem Bld.new (w : World) : Bld w.heap.size [] (w.alloc (.cells #[.pointer none, .slice none 0 0] 206)):=Lib.IsBuilderF.of (Lib.fresh_isBuilder 206 5 w)
theorem Bld.alloc {b : Nat} {acc : List UInt8} {w : World} (h : Bld b acc w) (o : Obj) : Bld b acc (w.alloc o):=Lib.IsBuilderF.alloc h o
theorem Bld.lt {b : Nat} {acc : List UInt8} {w : World} (h : Bld b acc w) : b < w.heap.size:=by
 rcases h with h | h
 ·exact h.lt
 ·exact h.lt
theorem size45 : (Tryz.prog.info? 206).map (·.size) = some 2:=by kernel_rfl
theorem lies45 : liesAt Tryz.prog Tryz.prog.depth 206 (2 / Tryz.prog.cellsOf 206) 0 206 1 = true:=by kernel_rfl
theorem info5 : (Tryz.prog.info? 5).map (fun i => (i.zero,i.size,i.bytes)) = some (some (.int .u8 0),1,1):=by kernel_rfl
theorem check_fresh (b : Nat) (w : World) (h0 : w.cell? ⟨b,0,none⟩ = some (.pointer none)) (hsh : w.shape? b = some (206,2)) (hfz : w.frozen? ⟨b,0,none⟩ = false) :
  Calls Tryz.prog 143 #[.pointer (some ⟨b,0,none⟩)] w fun e w' => e = .returned (.tuple #[]) ∧ w' = w.setCell ⟨b,0,none⟩ (.pointer (some ⟨b,0,none⟩)):=by
 obtain ⟨j,hj,hjs⟩:=Option.map_eq_some_iff.1 size45
 go_enter Tryz.func143,Tryz.ntmps143
 go_wp2
 rw [Lib.run_to_unsafe w ⟨b,0,none⟩ Tryz.underlying203 Tryz.underlying171 hj (by rw [hjs]; decide) hsh (Nat.zero_lt_succ 1)]
 simp only [Result.andThen]
 rw [Oper.upon_value]
 go_wp2
 rw [run_callFunc_extern Tryz.func179 (by kernel_rfl) (by kernel_rfl) (by kernel_rfl) (e:=Extern.AbiNoEscape.same) (by kernel_rfl),Lib.run_noEscape]
 simp only [Result.andThen]
 rw [Oper.upon_value]
 go_wp2
 rw [Lib.run_from_unsafe w ⟨b,0,none⟩ Tryz.underlying171 Tryz.underlying203 hj hsh lies45]
 simp only [Result.andThen]
 rw [Oper.upon_value]
 go_wp2
 go_end0
 exact ⟨rfl,rfl⟩
theorem check_used (b : Nat) (w : World) (h0 : w.cell? ⟨b,0,none⟩ = some (.pointer (some ⟨b,0,none⟩))) :
  Calls Tryz.prog 143 #[.pointer (some ⟨b,0,none⟩)] w fun e w' => e = .returned (.tuple #[]) ∧ w' = w:=by
 obtain ⟨j,hj,_⟩:=Option.map_eq_some_iff.1 (show (Tryz.prog.info? 206).map (·.size) = some 2 from size45)
 go_enter Tryz.func143,Tryz.ntmps143
 go_wp2
 rw [Lib.run_neq_ptr_same w _ Tryz.underlying203 hj]
 go_wp2
 go_end0
 exact ⟨rfl,rfl⟩
theorem check_any (b : Nat) (acc : List UInt8) (w : World) (h : Bld b acc w) :
  Calls Tryz.prog 143 #[.pointer (some ⟨b,0,none⟩)] w fun e w' => e = .returned (.tuple #[]) ∧ Lib.BuilderAtF 206 5 b b (.pointer (some ⟨b,0,none⟩)) (Lib.byteCells acc) w' ∧ Below b w w':=by
 rcases h with h | h
 ·refine (check_fresh b w h.cell0 h.shape h.frozen0).mono ?_
  rintro e w' ⟨rfl,rfl⟩
  exact ⟨rfl,h.used _,(Below.refl b w).setCell (p:=⟨b,0,none⟩) (Nat.le_refl _) _⟩
 ·refine (check_used b w h.cell0).mono ?_
  rintro e w' ⟨rfl,rfl⟩
  exact ⟨rfl,h,Below.refl b _⟩
theorem lt_of_heap {w : World} {b : Nat} {o : Obj} (h : w.heap[b]? = some o) : b < w.heap.size:=(Array.getElem?_eq_some_iff.1 h).1
theorem wbyte_any (b : Nat) (acc : List UInt8) (c : UInt8) (w : World) (h : Bld b acc w) (hlen : acc.length ≤ 100000000000) :
  Calls Tryz.prog 99 #[.pointer (some ⟨b,0,none⟩), .int .u8 c.toNat] w fun e w' => e = .returned .nilIface ∧ Bld b (acc ++ [c]) w' ∧ Below b w w':=by
 obtain ⟨i0,hi,hz0,hz1,hz2⟩:=info_parts info5
 have hbw:=h.lt
 go_enter Tryz.func99,Tryz.ntmps99
 go_wp2_with fail
 refine (check_any b acc _ h).mono ?_
 rintro e w1 ⟨rfl,h1,hb1⟩
 obtain ⟨hB,v,hbk,hown,hne⟩:=h1
 have c0 : w1.cell? ⟨b,0,none⟩ = some (.pointer (some ⟨b,0,none⟩)):=by rw [Lib.cell_of_heap hbk]; rfl
 have c1 : w1.cell? ⟨b,1,none⟩ = some v:=by rw [Lib.cell_of_heap hbk]; rfl
 have hlt:=lt_of_heap hbk
 go_wp2_with (at_builtin; refine wpList_append_ownF _ rfl _ _ 204 rfl b 5 i0 (.int .u8 0) 1 1 Tryz.underlying204 hi hz0 hz1 hz2 rfl (by decide) _ _ _ rfl (hown.alloc _) ⟨w1.heap.size,0,none⟩ 1 1 [.int .u8 c.toNat] rfl rfl (cell_one_new _ _ _) (by simp [Value.oneCell']) (by rw [Lib.byteCells_length]; unfold maxLen; omega) (by rw [Lib.byteCells_length]; omega) (by simp; omega) ?_)
 intro v' w2 hown' hgrow _
 have hb2 : w2.heap[b]? = some (.cells #[.pointer (some ⟨b,0,none⟩),v] 206 (0,0)):=by
  rw [hgrow.block b (by simp; omega) (fun e => hne e.symm),Lib.alloc_old w1 _ b hlt]
  exact hbk
 have d0 : w2.cell? ⟨b,0,none⟩ = some (.pointer (some ⟨b,0,none⟩)):=by rw [Lib.cell_of_heap hb2]; rfl
 have d1 : w2.cell? ⟨b,1,none⟩ = some v:=by rw [Lib.cell_of_heap hb2]; rfl
 have f1 : w2.frozen? ⟨b,1,none⟩ = false:=Lib.frozen_of_heap hb2 1
 obtain ⟨g,cap,rfl⟩ : ∃ g cap,v' = .slice (some ⟨g,0,none⟩) ((Lib.byteCells acc).length + 1) cap:=by
  rcases hown'.2 with ⟨_,h0⟩ | ⟨g,cap,cur,fz,hv,_⟩
  ·omega
  ·exact ⟨g,cap,hv⟩
 go_wp2
 go_ret
 refine ⟨rfl,Or.inr ?_,?_⟩
 ·rw [Lib.byteCells_append]
  exact Lib.BuilderAtF.put (T:=206) (e:=5) hB hb2 (by simpa [Lib.byteCells] using hown') (by decide)
 ·exact ((hb1.alloc (by omega) _).grown hgrow (by simp; omega) (fun k hk => (hown.lt k hk).1)).setCell (p:=⟨b,1,none⟩) hB _
end
section
open Go.RowKit Go.Shelf
theorem Chars.cells {W : World} {ad : Option Addr} {n cap : Nat} {l : List Sp.Ch} (h : Chars W (.slice ad n cap) l) (hl : 0 < l.length) :
  ∃ g o,ad = some ⟨g,o,none⟩ ∧ n = l.length ∧ l.length ≤ cap ∧ cap ≤ maxLen ∧ g < W.heap.size ∧ ∀ i x,l[i]? = some x → W.cell? ⟨g,o + i * 2,none⟩ = some (.int .u8 x.1.toNat) ∧ W.cell? ⟨g,o + i * 2 + 1,none⟩ = some (.int .i64 x.2):=by
 obtain ⟨ad',cap',e,h1,h2,h3⟩:=h
 injection e with e1 e2 e3
 subst e1 e2 e3
 obtain ⟨g,o,rfl,c0,_⟩:=h3 0 _ (List.getElem?_eq_getElem hl)
 refine ⟨g,o,rfl,rfl,h1,h2,lt_of_cell c0,fun i x hx => ?_⟩
 obtain ⟨g',o',e,d0,d1⟩:=h3 i x hx
 injection e with e
 injection e with e4 e5
 subst e4 e5
 exact ⟨d0,d1⟩
theorem text_any (v : Value) (l : List Sp.Ch) (w : World) (hv : Chars w v l) (hl : l.length ≤ 4000000000) :
  Calls Tryz.prog 58 #[v] w fun e w' => e = .returned (.string ⟨(l.map Prod.fst).toArray⟩) ∧ Below w.heap.size w w':=by
 obtain ⟨ad,cap,rfl, -⟩:=id hv
 rcases Nat.eq_zero_or_pos l.length with h0 | hpos
 ·obtain rfl : l = []:=List.length_eq_zero_iff.1 h0
  clear hv
  go_enter Tryz.func58,Tryz.ntmps58
  go_wp2_with fail
  go_loopw [8] (fun i wr => i = .int .i64 0 ∧ Bld w.heap.size [] wr ∧ Below w.heap.size w wr) (fun _ _ => 0)
  case atStart => exact ⟨rfl,Bld.new w,(Below.refl _ w).alloc (Nat.le_refl _) _⟩
  case round =>
   obtain ⟨rfl,hb,hB⟩:=hrel
   go_wp2_with fail
   refine (bstring_any w.heap.size w.heap.size [] _ hb hB.size).mono ?_
   rintro e W1 ⟨rfl,b1⟩
   go_wp2_with fail
   go_ret
   exact ⟨rfl,hB.trans b1⟩
 ·obtain ⟨g,o,rfl,_,hcap,hmax,hg,hc⟩:=hv.cells hpos
  unfold maxLen at hmax
  obtain ⟨n,hn⟩ : ∃ n,n = l.length:=⟨_,rfl⟩
  rw [← hn] at hl hcap hpos
  rw [← hn]
  have Hn:=Lib.hid hn
  have HC:=Lib.hid hc
  clear hn hc hv
  go_enter Tryz.func58,Tryz.ntmps58
  go_wp2_with fail
  go_loopw [8] (fun i wr => ∃ k : Nat,i = .int .i64 k ∧ k ≤ n ∧ Bld w.heap.size ((l.map Prod.fst).take k) wr ∧ Below w.heap.size w wr) (fun i _ => n - (intOf i).toNat)
  case atStart => exact ⟨0,rfl,Nat.zero_le _,Bld.new w,(Below.refl _ w).alloc (Nat.le_refl _) _⟩
  case round =>
   obtain ⟨k,rfl,hk,hb,hB⟩:=hrel
   have hsB:=hB.size
   by_cases hlt : k < n
   ·obtain ⟨x,hx⟩ : ∃ x,l[k]? = some x:=⟨_,List.getElem?_eq_getElem (by rw [← Hn.out]; exact hlt)⟩
    obtain ⟨c0,c1⟩:=HC.out k x hx
    have d0 : wr.cell? ⟨g,o + k * 2,none⟩ = some (.int .u8 x.1.toNat):=(hB.cell (p:=⟨g,o + k * 2,none⟩) hg).trans c0
    have d1 : wr.cell? ⟨g,o + k * 2 + 1,none⟩ = some (.int .i64 x.2):=(hB.cell (p:=⟨g,o + k * 2 + 1,none⟩) hg).trans c1
    have hlen : ((l.map Prod.fst).take k).length ≤ 4000000000:=by simp; omega
    have ht : (l.map Prod.fst).take k ++ [x.1] = (l.map Prod.fst).take (k + 1):=by
     have hx' : (l.map Prod.fst)[k]? = some x.1:=by rw [List.getElem?_map,hx]; rfl
     obtain ⟨hk2,hx2⟩:=List.getElem?_eq_some_iff.1 hx'
     rw [List.take_succ_eq_append_getElem hk2,hx2]
    have HT:=Lib.hid ht
    have HX:=Lib.hid hx
    clear ht hx c0 c1
    have hz : w.heap.size < wr.heap.size:=hb.lt
    go_wp2_with fail
    refine (wbyte_any w.heap.size _ x.1 _ (hb.alloc _) (by omega)).mono ?_
    rintro e W1 ⟨rfl,b1,hB1⟩
    go_wp2_with fail
    go_roundw
    case rel => exact ⟨k + 1,by go_num,by omega,by rw [← HT.out]; exact b1,(hB.alloc hsB _).trans hB1⟩
    case measure => simp [intOf]; omega
   ·go_wp2_with fail
    refine (bstring_any w.heap.size w.heap.size _ _ hb hB.size).mono ?_
    rintro e W1 ⟨rfl,b1⟩
    go_wp2_with fail
    go_ret
    refine ⟨?_,hB.trans b1⟩
    rw [List.take_of_length_le (by rw [List.length_map,← Hn.out]; omega)]
    rfl
end
section
open Go.RowKit Go.Shelf
theorem byte_at (s : ByteArray) (k : Nat) (h : k < s.size) : s.data.toList[k]'(by rw [size_list]; exact h) = s[k]:=rfl
theorem pair_at (s : ByteArray) (k : Nat) (h : k + 1 < s.size) : Lib.hasPrefix (s.data.toList.drop k) [92,10] = true ↔ s[k] = 92 ∧ s[k + 1] = 10:=by
 have h1 : k < s.data.toList.length:=by rw [size_list]; omega
 have h2 : k + 1 < s.data.toList.length:=by rw [size_list]; omega
 rw [List.drop_eq_getElem_cons h1,List.drop_eq_getElem_cons h2,Sp.pair_iff]
 exact Iff.rfl
theorem toNat_eq (a : UInt8) (n : Nat) (hn : n < 256) : ((a.toNat : Int) == (n : Int)) = decide (a = UInt8.ofNat n):=by
 rw [Bool.eq_iff_iff]
 simp only [beq_iff_eq,decide_eq_true_iff]
 constructor
 ·intro h
  have h' : a.toNat = n:=by omega
  rw [← h']; simp
 ·intro h
  rw [h]
  simp
  omega
end
section
open Go.RowKit Go.Shelf
theorem ret_bool {a b : Bool} (h : a = b) : Ending.returned (.bool a) = .returned (.bool b):=by rw [h]
theorem ret_int {k : IntKind} {a b : Int} (h : a = b) : Ending.returned (.int k a) = .returned (.int k b):=by rw [h]
theorem u8_le (a b : UInt8) : (a ≤ b) ↔ (a.toNat : Int) ≤ b.toNat:=by rw [UInt8.le_iff_toNat_le]; omega
theorem u8_beq (a b : UInt8) : (a == b) = ((a.toNat : Int) == (b.toNat : Int)):=by
 rw [Bool.eq_iff_iff]
 simp only [beq_iff_eq]
 constructor
 ·intro h; rw [h]
 ·intro h; exact UInt8.toNat_inj.1 (by omega)
theorem letter_int (c : UInt8) : Lx.letter c = ((decide (97 ≤ (c.toNat : Int)) && decide ((c.toNat : Int) ≤ 122)) || (decide (65 ≤ (c.toNat : Int)) && decide ((c.toNat : Int) ≤ 90)) || ((c.toNat : Int) == 95)):=by
 unfold Lx.letter
 rw [u8_beq]
 simp only [u8_le]
 rfl
theorem digit_int (c : UInt8) : Lx.digit c = (decide (48 ≤ (c.toNat : Int)) && decide ((c.toNat : Int) ≤ 57)):=by
 unfold Lx.digit
 simp only [u8_le]
 rfl
theorem letter_any (c : UInt8) (w : World) : Calls Tryz.prog 102 #[.int .u8 c.toNat] w fun e w' => e = .returned (.bool (Lx.letter c)) ∧ w = w':=by
 have hl:=letter_int c
 obtain ⟨b,hb⟩ : ∃ b,b = Lx.letter c:=⟨_,rfl⟩
 rw [← hb] at hl ⊢
 obtain ⟨n,hn⟩ : ∃ n : Int,n = c.toNat:=⟨_,rfl⟩
 rw [← hn] at hl ⊢
 have HL:=Lib.hid hl
 clear hl hn hb
 go_enter Tryz.func102,Tryz.ntmps102
 go_wp2_with fail
 all_goals
  go_ret
  refine ⟨ret_bool ?_,rfl⟩
  rw [HL.out,Bool.eq_iff_iff]
  simp
  try omega
theorem digit_any (c : UInt8) (w : World) : Calls Tryz.prog 104 #[.int .u8 c.toNat] w fun e w' => e = .returned (.bool (Lx.digit c)) ∧ w = w':=by
 have hl:=digit_int c
 obtain ⟨b,hb⟩ : ∃ b,b = Lx.digit c:=⟨_,rfl⟩
 rw [← hb] at hl ⊢
 obtain ⟨n,hn⟩ : ∃ n : Int,n = c.toNat:=⟨_,rfl⟩
 rw [← hn] at hl ⊢
 have HL:=Lib.hid hl
 clear hl hn hb
 go_enter Tryz.func104,Tryz.ntmps104
 go_wp2_with fail
 all_goals
  go_ret
  refine ⟨ret_bool ?_,rfl⟩
  rw [HL.out,Bool.eq_iff_iff]
  simp
  try omega
theorem drop_at (s : ByteArray) (k : Nat) (h : k < s.size) : s.data.toList.drop k = s[k] :: s.data.toList.drop (k + 1):=by
 rw [List.drop_eq_getElem_cons (by rw [size_list]; exact h)]; rfl
theorem drop_end (s : ByteArray) (k : Nat) (h : s.size ≤ k) : s.data.toList.drop k = []:=List.drop_eq_nil_of_le (by rw [size_list]; exact h)
theorem word_yes (c : UInt8) (r : List UInt8) (h : Lx.alnum c = true) : Lx.wordLen (c :: r) = 1 + Lx.wordLen r:=by
 unfold Lx.wordLen; rw [List.takeWhile_cons,if_pos h,List.length_cons]; omega
theorem word_no (c : UInt8) (r : List UInt8) (h : Lx.alnum c = false) : Lx.wordLen (c :: r) = 0:=by
 unfold Lx.wordLen; rw [List.takeWhile_cons,if_neg (by rw [h]; simp)]; rfl
theorem name_any (s : ByteArray) (hs : s.size ≤ 4000000000) (w : World) : Calls Tryz.prog 103 #[.string s] w fun e w' => e = .returned (.int .i64 (Lx.wordLen s.data.toList)) ∧ w = w':=by
 go_enter Tryz.func103,Tryz.ntmps103
 go_wp2_with fail
 go_loop [3] (fun n => ∃ k : Nat,n = .int .i64 k ∧ k ≤ s.size ∧ Lx.wordLen s.data.toList = k + Lx.wordLen (s.data.toList.drop k)) (fun n => s.size - (intOf n).toNat)
 case atStart => exact ⟨0,rfl,Nat.zero_le _,by simp⟩
 case round =>
  obtain ⟨k,rfl,hk,he⟩:=hrel
  have HE:=Lib.hid he
  clear he
  by_cases hlt : k < s.size
  ·have hd:=Lib.hid (drop_at s k hlt)
   cases hL : Lx.letter s[k] with
   | true =>
    go_wp2_with (go_at_call 102; refine (letter_any _ _).mono ?_; rintro e w' ⟨rfl,rfl⟩)
    go_round
    case rel => exact ⟨k + 1,by go_num,by omega,by rw [HE.out,hd.out,word_yes _ _ (by simp [Lx.alnum,hL])]; omega⟩
    case measure => simp [intOf]; omega
   | false =>
    cases hD : Lx.digit s[k] with
    | true =>
     go_wp2_with (first | (go_at_call 102; refine (letter_any _ _).mono ?_; rintro e w' ⟨rfl,rfl⟩) | (go_at_call 104; refine (digit_any _ _).mono ?_; rintro e w' ⟨rfl,rfl⟩))
     go_round
     case rel => exact ⟨k + 1,by go_num,by omega,by rw [HE.out,hd.out,word_yes _ _ (by simp [Lx.alnum,hD])]; omega⟩
     case measure => simp [intOf]; omega
    | false =>
     go_wp2_with (first | (go_at_call 102; refine (letter_any _ _).mono ?_; rintro e w' ⟨rfl,rfl⟩) | (go_at_call 104; refine (digit_any _ _).mono ?_; rintro e w' ⟨rfl,rfl⟩))
     go_ret
     refine ⟨ret_int ?_,rfl⟩
     rw [HE.out,hd.out,word_no _ _ (by simp [Lx.alnum,hL,hD])]; simp
  ·go_wp2_with fail
   go_ret
   refine ⟨ret_int ?_,rfl⟩
   rw [HE.out,drop_end s k (by omega)]; simp [Lx.wordLen]
def expo : List UInt8 → Bool
 | c :: d :: _ => Lx.isE c && Lx.isSg d
 | _ => false
theorem expo_at (s : ByteArray) (h : 1 < s.size) : expo s.data.toList = (Lx.isE s[0] && Lx.isSg s[1]):=by
 have h0:=drop_at s 0 (by omega)
 have h1:=drop_at s 1 (by omega)
 rw [List.drop_zero,h1] at h0
 rw [h0]; rfl
theorem expo_short (s : ByteArray) (h : s.size < 2) : expo s.data.toList = false:=by
 have hl : s.data.toList.length < 2:=by rw [size_list]; exact h
 match s.data.toList,hl with
 | [],_ => rfl
 | [c],_ => rfl
theorem isE_int (c : UInt8) : Lx.isE c = (((c.toNat : Int) == 101) || ((c.toNat : Int) == 69) || ((c.toNat : Int) == 112) || ((c.toNat : Int) == 80)):=by
 unfold Lx.isE
 simp only [u8_beq]
 rfl
theorem isSg_int (c : UInt8) : Lx.isSg c = (((c.toNat : Int) == 43) || ((c.toNat : Int) == 45)):=by
 unfold Lx.isSg
 simp only [u8_beq]
 rfl
theorem exponent_any (s : ByteArray) (w : World) : Calls Tryz.prog 146 #[.string s] w fun e w' => e = .returned (.bool (expo s.data.toList)) ∧ w = w':=by
 by_cases h : 1 < s.size
 ·have hx:=expo_at s h
  rw [isE_int,isSg_int] at hx
  obtain ⟨b,hb⟩ : ∃ b,b = expo s.data.toList:=⟨_,rfl⟩
  rw [← hb] at hx ⊢
  have HL:=Lib.hid hx
  have z0 : 0 < s.size:=by omega
  clear hx hb
  go_enter Tryz.func146,Tryz.ntmps146
  go_wp2_with fail
  all_goals
   go_ret
   refine ⟨ret_bool ?_,rfl⟩
   rw [HL.out,Bool.eq_iff_iff]
   first | (simp [*]; done) | (simp; omega) | (simp_all; done) | (simp_all; omega)
 ·have hx:=expo_short s (by omega)
  have HL:=Lib.hid hx
  clear hx
  go_enter Tryz.func146,Tryz.ntmps146
  go_wp2_with fail
  go_ret
  exact ⟨ret_bool HL.out.symm,rfl⟩
theorem numc_parts (c : UInt8) : Lx.numc c = (Lx.letter c || Lx.digit c || ((c.toNat : Int) == 46)):=by
 unfold Lx.numc
 rw [u8_beq]; rfl
theorem num_two (l : List UInt8) (h : expo l = true) : 2 ≤ l.length ∧ Lx.numRest l = 2 + Lx.numRest (l.drop 2):=by
 match l,h with
 | c :: d :: r,h =>
  have e : Lx.numRest (c :: d :: r) = if Lx.isE c && Lx.isSg d then 2 + Lx.numRest r else if Lx.numc c then 1 + Lx.numRest (d :: r) else 0:=rfl
  rw [e,if_pos (show (Lx.isE c && Lx.isSg d) = true from h)]
  exact ⟨by simp,rfl⟩
theorem num_one (c : UInt8) (r : List UInt8) (h : expo (c :: r) = false) (hc : Lx.numc c = true) : Lx.numRest (c :: r) = 1 + Lx.numRest r:=by
 match r,h with
 | [],_ =>
  have e : Lx.numRest [c] = if Lx.numc c then 1 else 0:=rfl
  rw [e,if_pos hc]; rfl
 | d :: r,h =>
  have e : Lx.numRest (c :: d :: r) = if Lx.isE c && Lx.isSg d then 2 + Lx.numRest r else if Lx.numc c then 1 + Lx.numRest (d :: r) else 0:=rfl
  rw [e,if_neg (by rw [show (Lx.isE c && Lx.isSg d) = false from h]; simp),if_pos hc]
theorem num_no (c : UInt8) (r : List UInt8) (h : expo (c :: r) = false) (hc : Lx.numc c = false) : Lx.numRest (c :: r) = 0:=by
 match r,h with
 | [],_ =>
  have e : Lx.numRest [c] = if Lx.numc c then 1 else 0:=rfl
  rw [e,if_neg (by rw [hc]; simp)]
 | d :: r,h =>
  have e : Lx.numRest (c :: d :: r) = if Lx.isE c && Lx.isSg d then 2 + Lx.numRest r else if Lx.numc c then 1 + Lx.numRest (d :: r) else 0:=rfl
  rw [e,if_neg (by rw [show (Lx.isE c && Lx.isSg d) = false from h]; simp),if_neg (by rw [hc]; simp)]
theorem number_any (s : ByteArray) (hs : s.size ≤ 4000000000) (h0 : 0 < s.size) (w : World) : Calls Tryz.prog 105 #[.string s] w fun e w' => e = .returned (.int .i64 ((1 + Lx.numRest (s.data.toList.drop 1) : Nat) : Int)) ∧ w = w':=by
 obtain ⟨R,hR⟩ : ∃ R,R = 1 + Lx.numRest (s.data.toList.drop 1):=⟨_,rfl⟩
 rw [← hR]
 have HR:=Lib.hid hR
 clear hR
 go_enter Tryz.func105,Tryz.ntmps105
 go_wp2_with fail
 go_loop [3] (fun n => ∃ k : Nat,n = .int .i64 k ∧ 1 ≤ k ∧ k ≤ s.size ∧ R = k + Lx.numRest (s.data.toList.drop k)) (fun n => s.size - (intOf n).toNat)
 case atStart => exact ⟨1,rfl,Nat.le_refl _,h0,HR.out⟩
 case round =>
  obtain ⟨k,rfl,hk1,hk,he⟩:=hrel
  have HE:=Lib.hid he
  clear he
  by_cases hlt : k < s.size
  ·have hd:=Lib.hid (drop_at s k hlt)
   cases hX : expo (s.data.toList.drop k) with
   | true =>
    obtain ⟨h2,hn⟩:=num_two _ hX
    rw [List.length_drop,size_list] at h2
    rw [List.drop_drop] at hn
    have HN:=Lib.hid hn
    have HX:=Lib.hid hX
    clear hn hX
    go_wp2_with fail
    refine (exponent_any _ _).mono ?_
    rintro e w' ⟨rfl,rfl⟩
    rw [Lib.extract_to_end,HX.out]
    go_wp2_with fail
    go_round
    case rel => exact ⟨k + 2,by go_num,by omega,by omega,by rw [HE.out,HN.out]; omega⟩
    case measure => simp [intOf]; omega
   | false =>
    have hX':=hX
    rw [hd.out] at hX'
    have HX':=Lib.hid hX'
    have HX:=Lib.hid hX
    clear hX hX'
    have hnc:=numc_parts s[k]
    cases hc : Lx.numc s[k] with
    | true =>
     rw [hc] at hnc
     have hcase : Lx.letter s[k] = true ∨ (Lx.letter s[k] = false ∧ Lx.digit s[k] = true) ∨ (Lx.letter s[k] = false ∧ Lx.digit s[k] = false ∧ ((s[k].toNat : Int) == 46) = true):=by
      cases h1 : Lx.letter s[k] with
      | true => exact .inl rfl
      | false =>
       cases h2 : Lx.digit s[k] with
       | true => exact .inr (.inl ⟨rfl,rfl⟩)
       | false => rw [h1,h2] at hnc; exact .inr (.inr ⟨rfl,rfl,by simpa using hnc.symm⟩)
     have HC:=Lib.hid hc
     clear hnc hc
     rcases hcase with h1 | ⟨h1,h2⟩ | ⟨h1,h2,h3⟩
     all_goals
      go_wp2_with fail
      refine (exponent_any _ _).mono ?_
      rintro e w' ⟨rfl,rfl⟩
      rw [Lib.extract_to_end,HX.out]
      go_wp2_with (first | (go_at_call 102; refine (letter_any _ _).mono ?_; rintro e w' ⟨rfl,rfl⟩) | (go_at_call 104; refine (digit_any _ _).mono ?_; rintro e w' ⟨rfl,rfl⟩))
      go_round
      case rel => exact ⟨k + 1,by go_num,by omega,by omega,by rw [HE.out,hd.out,num_one _ _ HX'.out HC.out]; omega⟩
      case measure => simp [intOf]; omega
    | false =>
     rw [hc] at hnc
     have h1 : Lx.letter s[k] = false:=by cases h : Lx.letter s[k] with | false => rfl | true => rw [h] at hnc; simp at hnc
     have h2 : Lx.digit s[k] = false:=by cases h : Lx.digit s[k] with | false => rfl | true => rw [h] at hnc; simp at hnc
     have h3 : ((s[k].toNat : Int) == 46) = false:=by rw [h1,h2] at hnc; simpa using hnc.symm
     have HC:=Lib.hid hc
     clear hnc hc
     go_wp2_with fail
     refine (exponent_any _ _).mono ?_
     rintro e w' ⟨rfl,rfl⟩
     rw [Lib.extract_to_end,HX.out]
     go_wp2_with (first | (go_at_call 102; refine (letter_any _ _).mono ?_; rintro e w' ⟨rfl,rfl⟩) | (go_at_call 104; refine (digit_any _ _).mono ?_; rintro e w' ⟨rfl,rfl⟩))
     go_ret
     refine ⟨ret_int ?_,rfl⟩
     rw [HE.out,hd.out,num_no _ _ HX'.out HC.out]; simp
  ·go_wp2_with fail
   go_ret
   refine ⟨ret_int ?_,rfl⟩
   rw [HE.out,drop_end s k (by omega)]; simp [Lx.numRest]
theorem qr_nl (q : UInt8) (r : List UInt8) : Lx.qr q (10 :: r) = none:=by
 cases r with
 | nil => rfl
 | cons d r =>
  have e : Lx.qr q (10 :: d :: r) = if (10 : UInt8) = 10 then none else if (10 : UInt8) = q then some 1 else if (10 : UInt8) = 92 then (if d = 10 then none else (Lx.qr q r).map (· + 2)) else (Lx.qr q (d :: r)).map (· + 1):=rfl
  rw [e,if_pos rfl]
theorem qr_hit (q : UInt8) (r : List UInt8) (h : q ≠ 10) : Lx.qr q (q :: r) = some 1:=by
 cases r with
 | nil => simp [Lx.qr,h]
 | cons d r => simp [Lx.qr,h]
theorem qr_esc (q d : UInt8) (r : List UInt8) (hq : q ≠ 92) (hd : d ≠ 10) : Lx.qr q (92 :: d :: r) = (Lx.qr q r).map (· + 2):=by
 have e : Lx.qr q (92 :: d :: r) = if (92 : UInt8) = 10 then none else if (92 : UInt8) = q then some 1 else if (92 : UInt8) = 92 then (if d = 10 then none else (Lx.qr q r).map (· + 2)) else (Lx.qr q (d :: r)).map (· + 1):=rfl
 rw [e,if_neg (by decide),if_neg (fun h => hq h.symm),if_pos rfl,if_neg hd]
theorem qr_esc_nl (q : UInt8) (r : List UInt8) (hq : q ≠ 92) : Lx.qr q (92 :: 10 :: r) = none:=by
 have e : Lx.qr q (92 :: 10 :: r) = if (92 : UInt8) = 10 then none else if (92 : UInt8) = q then some 1 else if (92 : UInt8) = 92 then (if (10 : UInt8) = 10 then none else (Lx.qr q r).map (· + 2)) else (Lx.qr q (10 :: r)).map (· + 1):=rfl
 rw [e,if_neg (by decide),if_neg (fun h => hq h.symm),if_pos rfl,if_pos rfl]
theorem qr_esc_end (q : UInt8) (hq : q ≠ 92) : Lx.qr q [92] = none:=by
 have h : ¬ (92 : UInt8) = q:=fun h => hq h.symm
 simp [Lx.qr,h]
theorem qr_on (q c : UInt8) (r : List UInt8) (h1 : c ≠ 10) (h2 : c ≠ q) (h3 : c ≠ 92) : Lx.qr q (c :: r) = (Lx.qr q r).map (· + 1):=by
 cases r with
 | nil => simp [Lx.qr,h1,h2]
 | cons d r => simp [Lx.qr,h1,h2,h3]
theorem upto_map (k j : Nat) (o : Option Nat) : Lx.upto k (o.map (· + j)) = Lx.upto (k + j) o:=by
 cases o with
 | none => rfl
 | some m => simp [Lx.upto]; omega
theorem u8_ne {a b : UInt8} (h : a ≠ b) : ((a.toNat : Int) == (b.toNat : Int)) = false:=by
 rw [← u8_beq]; simpa using h
theorem u8_eq {a b : UInt8} (h : a = b) : ((a.toNat : Int) == (b.toNat : Int)) = true:=by
 rw [h]; simp
theorem closed_any (s : ByteArray) (hs : s.size ≤ 4000000000) (h0 : 0 < s.size) (q : UInt8) (hq1 : q ≠ 10) (hq2 : q ≠ 92) (w : World) :
  Calls Tryz.prog 106 #[.string s, .int .u8 q.toNat] w fun e w' => e = .returned (.int .i64 (Lx.closedLen q s.data.toList)) ∧ w = w':=by
 have hd0:=drop_at s 0 h0
 rw [List.drop_zero] at hd0
 by_cases hq : s[0] = q
 ·have hcl : Lx.closedLen q s.data.toList = Lx.upto 1 (Lx.qr q (s.data.toList.drop 1)):=by
   conv => lhs; rw [hd0]
   rw [Lx.closedLen_cons,if_pos hq]
  obtain ⟨R,hR⟩ : ∃ R,R = Lx.closedLen q s.data.toList:=⟨_,rfl⟩
  rw [← hR] at hcl ⊢
  have HR:=Lib.hid hcl
  clear hR
  have t0 : ((s[0].toNat : Int) == (q.toNat : Int)) = true:=u8_eq hq
  have t0' : ((s[0].toNat : Int) != (q.toNat : Int)) = false:=by simp [bne,t0]
  clear hcl hd0 hq
  go_enter Tryz.func106,Tryz.ntmps106
  go_wp2_with fail
  go_loop [5] (fun n => ∃ k : Nat,n = .int .i64 k ∧ 1 ≤ k ∧ k ≤ s.size ∧ R = Lx.upto k (Lx.qr q (s.data.toList.drop k))) (fun n => s.size - (intOf n).toNat)
  case atStart => exact ⟨1,rfl,Nat.le_refl _,h0,HR.out⟩
  case round =>
   obtain ⟨k,rfl,hk1,hk,he⟩:=hrel
   have HE:=Lib.hid he
   clear he t0 t0'
   by_cases hlt : k < s.size
   ·have hd:=Lib.hid (drop_at s k hlt)
    by_cases hnl : s[k] = 10
    ·have t1 : ((s[k].toNat : Int) == 10) = true:=u8_eq hnl
     have t2 : ((s[k].toNat : Int) != 10) = false:=by simp [bne,t1]
     have HN:=Lib.hid hnl
     clear hnl
     go_wp2_with fail
     go_ret
     refine ⟨ret_int ?_,rfl⟩
     rw [HE.out,hd.out,HN.out,qr_nl]; rfl
    ·have t1 : ((s[k].toNat : Int) == 10) = false:=u8_ne hnl
     have t2 : ((s[k].toNat : Int) != 10) = true:=by simp [bne,t1]
     by_cases hqq : s[k] = q
     ·have t3 : ((s[k].toNat : Int) == (q.toNat : Int)) = true:=u8_eq hqq
      have HN:=Lib.hid hqq
      clear hnl hqq
      go_wp2_with fail
      go_ret
      refine ⟨ret_int ?_,rfl⟩
      rw [HE.out,hd.out,HN.out,qr_hit q _ hq1]; simp [Lx.upto]
     ·have t3 : ((s[k].toNat : Int) == (q.toNat : Int)) = false:=u8_ne hqq
      by_cases hbs : s[k] = 92
      ·have t4 : ((s[k].toNat : Int) == 92) = true:=u8_eq hbs
       have HB:=Lib.hid hbs
       clear hbs hnl hqq
       by_cases hl2 : k + 1 < s.size
       ·have hd2:=Lib.hid (drop_at s (k + 1) hl2)
        by_cases hn2 : s[k + 1] = 10
        ·have t5 : ((s[k + 1].toNat : Int) == 10) = true:=u8_eq hn2
         have t6 : ((s[k + 1].toNat : Int) != 10) = false:=by simp [bne,t5]
         have HN2:=Lib.hid hn2
         clear hn2
         go_wp2_with fail
         go_round
         case rel => exact ⟨k + 1,by go_num,by omega,by omega,by rw [HE.out,hd.out,HB.out,hd2.out,HN2.out,qr_esc_nl q _ hq2,qr_nl]; rfl⟩
         case measure => simp [intOf]; omega
        ·have t5 : ((s[k + 1].toNat : Int) == 10) = false:=u8_ne hn2
         have t6 : ((s[k + 1].toNat : Int) != 10) = true:=by simp [bne,t5]
         have HN2:=Lib.hid hn2
         clear hn2
         go_wp2_with fail
         go_round
         case rel => exact ⟨k + 2,by go_num,by omega,by omega,by rw [HE.out,hd.out,HB.out,hd2.out,qr_esc q _ _ hq2 HN2.out,upto_map]⟩
         case measure => simp [intOf]; omega
       ·have hd2:=Lib.hid (drop_end s (k + 1) (by omega))
        go_wp2_with fail
        go_round
        case rel => exact ⟨k + 1,by go_num,by omega,by omega,by rw [HE.out,hd.out,HB.out,hd2.out,qr_esc_end q hq2]; rfl⟩
        case measure => simp [intOf]; omega
      ·have t4 : ((s[k].toNat : Int) == 92) = false:=u8_ne hbs
       have HN:=Lib.hid (And.intro hnl (And.intro hqq hbs))
       clear hnl hqq hbs
       go_wp2_with fail
       go_round
       case rel => exact ⟨k + 1,by go_num,by omega,by omega,by rw [HE.out,hd.out,qr_on q _ _ HN.out.1 HN.out.2.1 HN.out.2.2,upto_map]⟩
       case measure => simp [intOf]; omega
   ·go_wp2_with fail
    go_ret
    refine ⟨ret_int ?_,rfl⟩
    rw [HE.out,drop_end s k (by omega)]; rfl
 ·have hcl : Lx.closedLen q s.data.toList = 0:=by rw [hd0,Lx.closedLen_cons,if_neg hq]
  rw [hcl]
  have t0 : ((s[0].toNat : Int) == (q.toNat : Int)) = false:=u8_ne hq
  have t0' : ((s[0].toNat : Int) != (q.toNat : Int)) = true:=by simp [bne,t0]
  clear hcl hd0 hq
  go_enter Tryz.func106,Tryz.ntmps106
  go_wp2_with fail
  go_ret
  exact ⟨rfl,rfl⟩
end
section
open Go.RowKit Go.Shelf
theorem conv_one (c : UInt8) (w : World) : (convert 204 9 (.slice (some ⟨w.heap.size,0,none⟩) 1 1)).run Tryz.prog (w.alloc (.cells #[.int .u8 c.toNat] 5)) = .ok (.string ⟨#[c]⟩) (w.alloc (.cells #[.int .u8 c.toNat] 5)):=by
 refine run_convert_bytes_back _ 204 9 5 ⟨w.heap.size,0,none⟩ 1 [c] Tryz.underlying204 Tryz.underlying5 Tryz.underlying9 ?_
 intro j hj
 obtain rfl : j = 0:=by simp at hj; omega
 simp [Addr.add]
theorem mk_size (l : List UInt8) : (⟨l.toArray⟩ : ByteArray).size = l.length:=by simp [ByteArray.size]
theorem add_run (a b : List UInt8) (h : a.length + b.length ≤ 100000000000) (w : World) : (Op.stringOp .add ⟨a.toArray⟩ ⟨b.toArray⟩).run Tryz.prog w = .ok (.string ⟨(a ++ b).toArray⟩) w:=by
 rw [run_string_add_sum w _ _ (by rw [mk_size,mk_size]; omega),ByteArray.mk_append_mk]
end
section
open Go.RowKit Go.Shelf
theorem tab_at (k : Nat) (h : k < 48) : ∃ s : List UInt8,Lx.signTab[k]? = some s ∧ signCells[k]? = some (.string ⟨s.toArray⟩) ∧ 1 ≤ s.length ∧ s.length ≤ 3:=by
 have h' : k < Lx.signTab.length:=h
 refine ⟨Lx.signTab[k],List.getElem?_eq_getElem h',?_,?_⟩
 ·unfold signCells
  rw [List.getElem?_toArray,List.getElem?_map,List.getElem?_eq_getElem h']; rfl
 ·have : ∀ s ∈ Lx.signTab,1 ≤ s.length ∧ s.length ≤ 3:=by decide
  exact this _ (List.getElem_mem h')
def longest (l : List UInt8) (k : Nat) : Nat:=(Lx.signTab.take k).foldl (Lx.signStep l) 0
theorem longest_succ (l : List UInt8) (k : Nat) (s : List UInt8) (h : Lx.signTab[k]? = some s) : longest l (k + 1) = Lx.signStep l (longest l k) s:=by
 unfold longest
 obtain ⟨hk,e⟩:=List.getElem?_eq_some_iff.1 h
 rw [List.take_succ_eq_append_getElem hk,List.foldl_append,e]; rfl
theorem longest_all (l : List UInt8) : longest l 48 = Lx.signLen l:=rfl
theorem longest_le (l : List UInt8) (k : Nat) : longest l k ≤ 3:=by
 unfold longest
 have : ∀ (L : List (List UInt8)) (a : Nat),(∀ s ∈ L,s.length ≤ 3) → a ≤ 3 → L.foldl (Lx.signStep l) a ≤ 3:=by
  intro L
  induction L with
  | nil => intro a _ h; exact h
  | cons s L ih =>
   intro a hL ha
   refine ih _ (fun s' hs' => hL s' (List.mem_cons_of_mem _ hs')) ?_
   unfold Lx.signStep
   split
   ·exact hL s (by simp)
   ·exact ha
 refine this _ _ (fun s hs => ?_) (by omega)
 have h3 : ∀ s ∈ Lx.signTab,s.length ≤ 3:=by decide
 exact h3 s (List.mem_of_mem_take hs)
theorem idx_sign (A : Array Value) (v : Value) (k : Nat) (hA : A[k]? = some v) (hk : (k : Int) < 48) (W : World) : (Instr.index 263 (.agg A) (.int .i64 k)).run Tryz.prog W = .ok v W:=by
 simp [Instr.index,run_underlying Tryz.underlying263,asIntOf,part,Tryz.isAgg9,Tryz.sizeOf9,hA,go_sem]
 intro h
 omega
theorem pre_no (sk l : List UInt8) (h : l.length < sk.length) : sk.isPrefixOf l = false:=by
 cases h' : sk.isPrefixOf l with
 | false => rfl
 | true => have:=(List.isPrefixOf_iff_prefix.1 h').length_le; omega
theorem step_keep (l : List UInt8) (L : Nat) (sk : List UInt8) (h : sk.length ≤ L ∨ sk.isPrefixOf l = false) : Lx.signStep l L sk = L:=by
 unfold Lx.signStep
 rw [if_neg]
 rintro ⟨h1,h2⟩
 rcases h with h | h
 ·omega
 ·rw [h2] at h; cases h
theorem step_take (l : List UInt8) (L : Nat) (sk : List UInt8) (h : L < sk.length) (h2 : sk.isPrefixOf l = true) : Lx.signStep l L sk = sk.length:=by
 unfold Lx.signStep
 rw [if_pos ⟨h,h2⟩]
theorem pre_ne (sk l : List UInt8) (j : Nat) (h1 : j < sk.length) (h2 : j < l.length) (h : sk[j] ≠ l[j]) : sk.isPrefixOf l = false:=by
 cases h' : sk.isPrefixOf l with
 | false => rfl
 | true =>
  obtain ⟨r,hr⟩:=List.isPrefixOf_iff_prefix.1 h'
  refine absurd ?_ h
  have : l[j]? = sk[j]?:=by rw [← hr,List.getElem?_append_left h1]
  rw [List.getElem?_eq_getElem h1,List.getElem?_eq_getElem h2] at this
  exact (Option.some.inj this).symm
theorem pre_yes (sk l : List UInt8) (h : sk.take sk.length = l.take sk.length) : sk.isPrefixOf l = true:=by
 rw [List.isPrefixOf_iff_prefix,List.prefix_iff_eq_take]
 rwa [List.take_length] at h
theorem sign_any (s : ByteArray) (hs : s.size ≤ 4000000000) (w : World) (hG : Glob w) : Calls Tryz.prog 107 #[.string s] w fun e w' => e = .returned (.int .i64 (Lx.signLen s.data.toList)) ∧ Below w.heap.size w w':=by
 obtain ⟨_,⟨tt,fz,hblk⟩,_⟩:=hG
 obtain ⟨R,hR⟩ : ∃ R,R = Lx.signLen s.data.toList:=⟨_,rfl⟩
 rw [← hR]
 have HR:=Lib.hid hR
 have HT:=Lib.hid tab_at
 have hsz : (Tryz.prog.info? 263).map (·.size) = some signCells.size:=by kernel_rfl
 obtain ⟨A,hA⟩ : ∃ A,A = signCells:=⟨_,rfl⟩
 rw [← hA] at hblk hsz
 have HA:=Lib.hid hA
 clear hR hA
 go_enter Tryz.func107,Tryz.ntmps107
 go_wp2
 go_step3
 go_wp2
 go_step3
 go_wp2_with (with_reducible refine wpList_load_row rfl 263 _ rfl 2 rfl tt A fz (.array 48 9) hblk Tryz.underlying263 rfl hsz ?_)
 go_loopg [3,8] 48 (fun g s3 s8 wx => ∃ k L : Nat,k + g = 48 ∧ s8 = .int .i64 k ∧ s3 = .int .i64 L ∧ L = longest s.data.toList k ∧ Below w.heap.size w wx)
 case atStart => exact ⟨0,0,by omega,rfl,rfl,rfl,Below.refl _ _⟩
 case round =>
  obtain ⟨k,L,hkg,rfl,rfl,hL,hB⟩:=hrel
  have hL3:=longest_le s.data.toList k
  rw [← hL] at hL3
  have HL:=Lib.hid hL
  clear hL hblk hsz
  cases gk with
  | zero =>
   have hk : k = 48:=by omega
   subst hk
   go_wp2_with fail
   go_ret
   exact ⟨ret_int (by rw [HR.out,HL.out,longest_all]),hB⟩
  | succ g =>
   have hk : k < 48:=by omega
   obtain ⟨sk,hsk,hck,hl1,hl3⟩:=HT.out k hk
   have hstep:=longest_succ s.data.toList k sk hsk
   rw [← HL.out] at hstep
   obtain ⟨S,hS⟩ : ∃ S : ByteArray,S = ⟨sk.toArray⟩:=⟨_,rfl⟩
   have hSl : sk = S.data.toList:=by rw [hS]
   have hSz : S.size = sk.length:=by rw [hS]; exact mk_size sk
   rw [← hS,← HA.out] at hck
   rw [← hSz] at hl1 hl3
   have HS:=Lib.hid hSl
   have HZ:=Lib.hid hSz
   have HSt:=Lib.hid hstep
   clear hS hSl hSz hstep hsk
   have hkz : (k : Int) < 48:=by omega
   have hidx:=idx_sign A (.string S) k hck hkz
   have HI:=Lib.hid (size_list s)
   have HJ:=Lib.hid (size_list S)
   clear hck
   by_cases hc1 : S.size ≤ L
   ·go_wp2_with fail
    go_roundg g
    case measure => omega
    case rel => exact ⟨k + 1,L,by omega,by go_num,rfl,by rw [HSt.out,step_keep _ _ _ (.inl (by rw [← HZ.out]; exact hc1))],hB⟩
   ·by_cases hc2 : s.size < S.size
    ·go_wp2_with fail
     go_roundg g
     case measure => omega
     case rel => exact ⟨k + 1,L,by omega,by go_num,rfl,by rw [HSt.out,step_keep _ _ _ (.inr (pre_no _ _ (by rw [← HZ.out,HI.out]; exact hc2)))],hB⟩
    ·have hc3 : L < S.size:=by omega
     go_wp2_with fail
     obtain ⟨U,rfl⟩ : ∃ U,U = wr:=⟨_,rfl⟩
     have HB:=Lib.hid hB
     clear hB hidx
     go_loopg [24] S.size (fun g2 s24 wx => ∃ j : Nat,j + g2 = S.size ∧ s24 = .int .i64 j ∧ S.data.toList.take j = s.data.toList.take j ∧ Below w.heap.size w wx)
     case atStart => exact ⟨0,by omega,rfl,rfl,HB.out⟩
     case round =>
      obtain ⟨j,hjg,rfl,hpre,hB⟩:=hrel
      have HP:=Lib.hid hpre
      clear hpre
      cases gk with
      | zero =>
       have hj : j = S.size:=by omega
       subst hj
       go_wp2_with fail
       go_roundg g
       case measure => omega
       case rel =>
        refine ⟨k + 1,S.size,by omega,by go_num,rfl,?_,hB⟩
        have h1:=HP.out
        have h2:=HS.out
        have h3:=HZ.out
        rw [HSt.out,step_take _ _ _ (by omega) (pre_yes _ _ (by rw [← h3,h2]; exact h1)),h3]
      | succ g2 =>
       have hj : j < S.size:=by omega
       have hj2 : j < s.size:=by omega
       have z1 : (0 : Int) ≤ j:=by omega
       have z2 : (j : Int) < S.size:=by omega
       have z3 : (j : Int) < s.size:=by omega
       by_cases hne : S[j] = s[j]
       ·have t1 : ((S[j].toNat : Int) == (s[j].toNat : Int)) = true:=u8_eq hne
        have t2 : ((S[j].toNat : Int) != (s[j].toNat : Int)) = false:=by simp [bne,t1]
        have HN:=Lib.hid hne
        clear hne
        go_wp2_with fail
        go_quiet (fail)
        go_wp2_with fail
        go_roundg g2
        case measure => omega
        case rel =>
         refine ⟨j + 1,by omega,by go_num,?_,below_drewN hB _⟩
         rw [List.take_succ_eq_append_getElem (by rw [HJ.out]; exact hj),List.take_succ_eq_append_getElem (by rw [HI.out]; exact hj2),HP.out]
         congr 2
       ·have t1 : ((S[j].toNat : Int) == (s[j].toNat : Int)) = false:=u8_ne hne
        have t2 : ((S[j].toNat : Int) != (s[j].toNat : Int)) = true:=by simp [bne,t1]
        have HN:=Lib.hid hne
        clear hne
        go_wp2_with fail
        go_quiet (fail)
        go_wp2_with fail
        go_roundg g
        case measure => omega
        case rel =>
         refine ⟨k + 1,L,by omega,by go_num,rfl,?_,below_drewN hB _⟩
         have h2:=HS.out
         rw [HSt.out,step_keep _ _ _ (.inr (by rw [h2]; exact pre_ne _ _ j (by rw [HJ.out]; exact hj) (by rw [HI.out]; exact hj2) HN.out))]
end
section
open Go.RowKit Go.Shelf
theorem indexByte_line (l : List UInt8) : (Lib.indexByte l 10 = -1 ∧ Lx.lineLen l = l.length) ∨ Lib.indexByte l 10 = (Lx.lineLen l : Nat):=by
 induction l with
 | nil => exact .inl ⟨rfl,rfl⟩
 | cons c r ih =>
  have e : Lib.indexByte (c :: r) 10 = if c == 10 then 0 else if Lib.indexByte r 10 == -1 then -1 else Lib.indexByte r 10 + 1:=rfl
  by_cases hc : c = 10
  ·subst hc
   exact .inr (by rw [e]; simp [Lx.lineLen])
  ·have hl : Lx.lineLen (c :: r) = Lx.lineLen r + 1:=by
    unfold Lx.lineLen
    rw [List.takeWhile_cons,if_pos (by simpa using hc)]; simp
   rw [e,if_neg (by simpa using hc),hl]
   rcases ih with ⟨h1,h2⟩ | h
   ·exact .inl ⟨by rw [h1]; rfl,by rw [h2]; simp⟩
   ·refine .inr ?_
    rw [h,if_neg (by simp)]
    omega
theorem index_clos : ∀ (l : List UInt8),(Lib.index l [42,47] = -1 ∧ Lx.clos l = none) ∨ ∃ m : Nat,Lib.index l [42,47] = m ∧ Lx.clos l = some m
 | [] => .inl ⟨rfl,rfl⟩
 | [c] => .inl ⟨by
   have e : Lib.index [c] [42,47] = if [42,47].isPrefixOf [c] then 0 else if Lib.index [] [42,47] == -1 then -1 else Lib.index [] [42,47] + 1:=rfl
   rw [e,if_neg (by simp [List.isPrefixOf])]; rfl,rfl⟩
 | c :: d :: r => by
  have ih:=index_clos (d :: r)
  have e : Lib.index (c :: d :: r) [42,47] = if [42,47].isPrefixOf (c :: d :: r) then 0 else if Lib.index (d :: r) [42,47] == -1 then -1 else Lib.index (d :: r) [42,47] + 1:=rfl
  have e2 : Lx.clos (c :: d :: r) = if c = 42 ∧ d = 47 then some 0 else (Lx.clos (d :: r)).map (· + 1):=rfl
  have e3 : [42,47].isPrefixOf (c :: d :: r) = decide (c = 42 ∧ d = 47):=by
   rw [Bool.eq_iff_iff]
   simp only [List.isPrefixOf,Bool.and_true,Bool.and_eq_true,beq_iff_eq,decide_eq_true_iff]
   exact ⟨fun h => ⟨h.1.symm,h.2.symm⟩,fun h => ⟨h.1.symm,h.2.symm⟩⟩
  rw [e,e2,e3]
  by_cases hc : c = 42 ∧ d = 47
  ·exact .inr ⟨0,by simp [hc],by simp [hc]⟩
  ·rw [if_neg (by simpa using hc),if_neg hc]
   rcases ih with ⟨h1,h2⟩ | ⟨m,h1,h2⟩
   ·exact .inl ⟨by rw [h1]; rfl,by rw [h2]; rfl⟩
   ·exact .inr ⟨m + 1,by rw [h1,if_neg (by simp)]; rfl,by rw [h2]; rfl⟩
theorem pre2 (a b c d : UInt8) (r : List UInt8) : Lib.hasPrefix (c :: d :: r) [a,b] = decide (c = a ∧ d = b):=by
 show List.isPrefixOf [a,b] (c :: d :: r) = _
 rw [Bool.eq_iff_iff]
 simp only [List.isPrefixOf,Bool.and_true,Bool.and_eq_true,beq_iff_eq,decide_eq_true_iff]
 exact ⟨fun h => ⟨h.1.symm,h.2.symm⟩,fun h => ⟨h.1.symm,h.2.symm⟩⟩
theorem pre1 (a b c : UInt8) : Lib.hasPrefix [c] [a,b] = false:=by simp [Lib.hasPrefix,List.isPrefixOf]
theorem comment_cases (l : List UInt8) :
  (Lib.hasPrefix l [47,47] = true ∧ 2 ≤ l.length ∧ ((Lib.indexByte l 10 = -1 ∧ Lx.commentLen l = l.length) ∨ Lib.indexByte l 10 = (Lx.commentLen l : Nat))) ∨
  (Lib.hasPrefix l [47,47] = false ∧ Lib.hasPrefix l [47,42] = true ∧ 2 ≤ l.length ∧ ((Lib.index (l.drop 2) [42,47] = -1 ∧ Lx.commentLen l = 0) ∨ ∃ m : Nat,Lib.index (l.drop 2) [42,47] = m ∧ Lx.commentLen l = m + 4 ∧ m + 4 ≤ l.length)) ∨
  (Lib.hasPrefix l [47,47] = false ∧ Lib.hasPrefix l [47,42] = false ∧ Lx.commentLen l = 0):=by
 match l with
 | [] => exact .inr (.inr ⟨rfl,rfl,rfl⟩)
 | [c] => exact .inr (.inr ⟨pre1 _ _ _,pre1 _ _ _,rfl⟩)
 | c :: d :: r =>
  rw [pre2,pre2,Lx.commentLen_cons]
  by_cases h1 : c = 47 ∧ d = 47
  ·refine .inl ⟨by simp [h1],by simp,?_⟩
   rw [if_pos h1]
   exact indexByte_line _
  ·by_cases h2 : c = 47 ∧ d = 42
   ·refine .inr (.inl ⟨by simpa using h1,by simp [h2],by simp,?_⟩)
    rw [if_neg h1,if_pos h2,List.drop_succ_cons,List.drop_succ_cons,List.drop_zero]
    rcases index_clos r with ⟨h3,h4⟩ | ⟨m,h3,h4⟩
    ·exact .inl ⟨h3,by rw [h4]; rfl⟩
    ·have:=Lx.clos_le r m h4
     exact .inr ⟨m,h3,by rw [h4]; simp [Lx.upto]; omega,by simp; omega⟩
   ·exact .inr (.inr ⟨by simpa using h1,by simpa using h2,by rw [if_neg h1,if_neg h2]⟩)
theorem comment_any (s : ByteArray) (hs : s.size ≤ 4000000000) (w : World) (hG : Glob w) : Calls Tryz.prog 101 #[.string s] w fun e w' => e = .returned (.int .i64 (Lx.commentLen s.data.toList)) ∧ w = w':=by
 have hcs:=comment_cases s.data.toList
 have hle:=Lx.commentLen_le s.data.toList
 rw [size_list] at hcs hle
 obtain ⟨R,hR⟩ : ∃ R,R = Lx.commentLen s.data.toList:=⟨_,rfl⟩
 rw [← hR] at hcs hle ⊢
 clear hR
 have HG:=Lib.hid hG
 clear hG
 rcases hcs with ⟨h1,h2,h3⟩ | ⟨h1,h2,h3,h4⟩ | ⟨h1,h2,h3⟩
 ·have H1:=Lib.hid h1
  rcases h3 with ⟨h3,h4⟩ | h3
  ·have H3:=Lib.hid h3
   subst h4
   clear h1 h3
   go_enter Tryz.func101,Tryz.ntmps101
   go_wp2_with fail
   refine (prefix_any s ⟨#[47,47]⟩ _).mono ?_
   rintro e w' ⟨rfl,rfl⟩
   rw [show (⟨#[47,47]⟩ : ByteArray).data.toList = [47,47] from rfl,H1.out]
   go_wp2_with fail
   refine (indexbyte_any s _).mono ?_
   rintro e w' ⟨rfl,rfl⟩
   rw [H3.out]
   go_wp2_with fail
   go_ret
   exact ⟨rfl,rfl⟩
  ·have H3:=Lib.hid h3
   clear h1 h3
   go_enter Tryz.func101,Tryz.ntmps101
   go_wp2_with fail
   refine (prefix_any s ⟨#[47,47]⟩ _).mono ?_
   rintro e w' ⟨rfl,rfl⟩
   rw [show (⟨#[47,47]⟩ : ByteArray).data.toList = [47,47] from rfl,H1.out]
   go_wp2_with fail
   refine (indexbyte_any s _).mono ?_
   rintro e w' ⟨rfl,rfl⟩
   rw [H3.out]
   go_wp2_with fail
   go_ret
   exact ⟨rfl,rfl⟩
 ·have H1:=Lib.hid h1
  have H2:=Lib.hid h2
  have z2 : 2 ≤ s.size:=h3
  rcases h4 with ⟨h4,h5⟩ | ⟨m,h4,h5,h6⟩
  ·have H4:=Lib.hid h4
   subst h5
   clear h1 h2 h4
   go_enter Tryz.func101,Tryz.ntmps101
   go_wp2_with fail
   refine (prefix_any s ⟨#[47,47]⟩ _).mono ?_
   rintro e w' ⟨rfl,rfl⟩
   rw [show (⟨#[47,47]⟩ : ByteArray).data.toList = [47,47] from rfl,H1.out]
   go_wp2_with fail
   refine (prefix_any s ⟨#[47,42]⟩ _).mono ?_
   rintro e w' ⟨rfl,rfl⟩
   rw [show (⟨#[47,42]⟩ : ByteArray).data.toList = [47,42] from rfl,H2.out]
   go_wp2_with fail
   refine (index_any _ _ HG.out (by simp; omega)).mono ?_
   rintro e w' ⟨rfl,rfl⟩
   rw [Lib.extract_to_end,H4.out]
   go_wp2_with fail
   go_ret
   exact ⟨rfl,rfl⟩
  ·have H4:=Lib.hid h4
   have H5:=Lib.hid h5
   clear h1 h2 h4 h5
   go_enter Tryz.func101,Tryz.ntmps101
   go_wp2_with fail
   refine (prefix_any s ⟨#[47,47]⟩ _).mono ?_
   rintro e w' ⟨rfl,rfl⟩
   rw [show (⟨#[47,47]⟩ : ByteArray).data.toList = [47,47] from rfl,H1.out]
   go_wp2_with fail
   refine (prefix_any s ⟨#[47,42]⟩ _).mono ?_
   rintro e w' ⟨rfl,rfl⟩
   rw [show (⟨#[47,42]⟩ : ByteArray).data.toList = [47,42] from rfl,H2.out]
   go_wp2_with fail
   refine (index_any _ _ HG.out (by simp; omega)).mono ?_
   rintro e w' ⟨rfl,rfl⟩
   rw [Lib.extract_to_end,H4.out]
   go_wp2_with fail
   go_ret
   exact ⟨ret_int (by rw [H5.out]; omega),rfl⟩
 ·have H1:=Lib.hid h1
  have H2:=Lib.hid h2
  subst h3
  clear h1 h2
  go_enter Tryz.func101,Tryz.ntmps101
  go_wp2_with fail
  refine (prefix_any s ⟨#[47,47]⟩ _).mono ?_
  rintro e w' ⟨rfl,rfl⟩
  rw [show (⟨#[47,47]⟩ : ByteArray).data.toList = [47,47] from rfl,H1.out]
  go_wp2_with fail
  refine (prefix_any s ⟨#[47,42]⟩ _).mono ?_
  rintro e w' ⟨rfl,rfl⟩
  rw [show (⟨#[47,42]⟩ : ByteArray).data.toList = [47,42] from rfl,H2.out]
  go_wp2_with fail
  go_ret
  exact ⟨rfl,rfl⟩
theorem isBl_int (c : UInt8) : Lx.isBl c = (((c.toNat : Int) == 32) || ((c.toNat : Int) == 9) || ((c.toNat : Int) == 11) || ((c.toNat : Int) == 12) || ((c.toNat : Int) == 13)):=by
 unfold Lx.isBl
 simp only [u8_beq]
 rfl
theorem blank_any (s : ByteArray) (hs : s.size ≤ 4000000000) (h0 : 0 < s.size) (w : World) (hG : Glob w) : Calls Tryz.prog 59 #[.string s] w fun e w' => e = .returned (.int .i64 (Lx.blankLen s.data.toList)) ∧ w = w':=by
 have hd0:=drop_at s 0 h0
 rw [List.drop_zero] at hd0
 have hbl : Lx.blankLen s.data.toList = if Lx.isBl s[0] then 1 else Lx.commentLen s.data.toList:=by
  conv => lhs; rw [hd0]
  rw [Lx.blankLen_cons,← hd0]
 obtain ⟨R,hR⟩ : ∃ R,R = Lx.blankLen s.data.toList:=⟨_,rfl⟩
 rw [← hR] at hbl ⊢
 clear hR hd0
 have HG:=Lib.hid hG
 clear hG
 have hi:=isBl_int s[0]
 cases hB : Lx.isBl s[0] with
 | true =>
  rw [hB] at hi hbl
  rw [if_pos rfl] at hbl
  subst hbl
  have hcase : ((s[0].toNat : Int) == 32) = true ∨ (((s[0].toNat : Int) == 32) = false ∧ ((s[0].toNat : Int) == 9) = true) ∨ (((s[0].toNat : Int) == 32) = false ∧ ((s[0].toNat : Int) == 9) = false ∧ ((s[0].toNat : Int) == 11) = true) ∨
    (((s[0].toNat : Int) == 32) = false ∧ ((s[0].toNat : Int) == 9) = false ∧ ((s[0].toNat : Int) == 11) = false ∧ ((s[0].toNat : Int) == 12) = true) ∨
    (((s[0].toNat : Int) == 32) = false ∧ ((s[0].toNat : Int) == 9) = false ∧ ((s[0].toNat : Int) == 11) = false ∧ ((s[0].toNat : Int) == 12) = false ∧ ((s[0].toNat : Int) == 13) = true):=by
   revert hi
   cases ((s[0].toNat : Int) == 32) <;> cases ((s[0].toNat : Int) == 9) <;> cases ((s[0].toNat : Int) == 11) <;> cases ((s[0].toNat : Int) == 12) <;> cases ((s[0].toNat : Int) == 13) <;> simp
  clear hi hB
  rcases hcase with h1 | ⟨h1,h2⟩ | ⟨h1,h2,h3⟩ | ⟨h1,h2,h3,h4⟩ | ⟨h1,h2,h3,h4,h5⟩
  all_goals
   go_enter Tryz.func59,Tryz.ntmps59
   go_wp2_with fail
   go_ret
   exact ⟨rfl,rfl⟩
 | false =>
  rw [hB] at hi hbl
  rw [if_neg (by simp)] at hbl
  have hall : ((s[0].toNat : Int) == 32) = false ∧ ((s[0].toNat : Int) == 9) = false ∧ ((s[0].toNat : Int) == 11) = false ∧ ((s[0].toNat : Int) == 12) = false ∧ ((s[0].toNat : Int) == 13) = false:=by
   revert hi
   cases ((s[0].toNat : Int) == 32) <;> cases ((s[0].toNat : Int) == 9) <;> cases ((s[0].toNat : Int) == 11) <;> cases ((s[0].toNat : Int) == 12) <;> cases ((s[0].toNat : Int) == 13) <;> simp
  obtain ⟨h1,h2,h3,h4,h5⟩:=hall
  have HR:=Lib.hid hbl
  clear hi hB hbl
  go_enter Tryz.func59,Tryz.ntmps59
  go_wp2_with fail
  refine (comment_any s hs _ HG.out).mono ?_
  rintro e w' ⟨rfl,rfl⟩
  rw [← HR.out]
  go_wp2_with fail
  go_ret
  exact ⟨rfl,rfl⟩
end
end Go.Proofs.YthekfpgegiffoaaGreatDoor
