/- Plain facts: a number's digits and suffix, as the program parts them, and as the document says. (and what stands with it) -/
import Derived.Test.YthekfpgegiffoaaGreatDoorQo
import Derived.Shelf.Small.Wraps
import Derived.Test.YthekfpgegiffoaaGreatDoorQp
import Derived.Test.YthekfpgegiffoaaGreatDoorQq
import Derived.Test.YthekfpgegiffoaaGreatDoorQr
import Derived.Test.YthekfpgegiffoaaGreatDoorQn
import Derived.Test.YthekfpgegiffoaaGreatDoorQm
import Derived.Test.YthekfpgegiffoaaGreatDoorQl
set_option linter.unusedSimpArgs false
set_option linter.unusedVariables false
set_option maxHeartbeats 16000000
set_option maxRecDepth 100000
namespace Go.Proofs.YthekfpgegiffoaaGreatDoor
section
namespace Ie
def dU : List UInt8 → Option (List UInt8)
 | [] => none
 | c :: t => if c = 117 then some t else if c = 85 then some t else none
def dL : List UInt8 → List UInt8
 | [] => []
 | [c] => if c = 108 then [] else if c = 76 then [] else [c]
 | c :: d :: t => if c = 108 ∧ d = 108 then t else if c = 76 ∧ d = 76 then t else if c = 108 then d :: t else if c = 76 then d :: t else c :: d :: t
def rb (r : List UInt8) : List UInt8 :=
 match dU r with
 | some t => dL t
 | none => (dU (dL r)).getD (dL r)
def bare (l : List UInt8) : List UInt8:=(rb l.reverse).reverse
def isUL (c : UInt8) : Bool:=c == 117 || (c == 85 || (c == 108 || c == 76))
def plainHead : List UInt8 → Bool
 | [] => true
 | c :: _ => !isUL c
theorem dU_plain {q : List UInt8} (h : plainHead q = true) : dU q = none:=by
 cases q with
 | nil => rfl
 | cons c t =>
  simp only [plainHead,isUL,Bool.not_eq_true',Bool.or_eq_false_iff,beq_eq_false_iff_ne] at h
  show (if c = 117 then _ else _) = _
  rw [if_neg h.1,if_neg h.2.1]
theorem dL_plain {q : List UInt8} (h : plainHead q = true) : dL q = q:=by
 cases q with
 | nil => rfl
 | cons c t =>
  simp only [plainHead,isUL,Bool.not_eq_true',Bool.or_eq_false_iff,beq_eq_false_iff_ne] at h
  obtain ⟨_,_,h3,h4⟩:=h
  cases t with
  | nil => show (if c = 108 then _ else _) = _; rw [if_neg h3,if_neg h4]
  | cons d t => show (if c = 108 ∧ d = 108 then _ else _) = _; rw [if_neg (fun h => h3 h.1),if_neg (fun h => h4 h.1),if_neg h3,if_neg h4]
theorem dL_one {q : List UInt8} (h : plainHead q = true) (c : UInt8) (hc : c = 108 ∨ c = 76) : dL (c :: q) = q:=by
 cases q with
 | nil => rcases hc with rfl | rfl <;> rfl
 | cons d t =>
  simp only [plainHead,isUL,Bool.not_eq_true',Bool.or_eq_false_iff,beq_eq_false_iff_ne] at h
  obtain ⟨_,_,h3,h4⟩:=h
  show (if c = 108 ∧ d = 108 then _ else _) = _
  rw [if_neg (fun h => h3 h.2),if_neg (fun h => h4 h.2)]
  rcases hc with rfl | rfl <;> rfl
theorem dL_two (q : List UInt8) (c : UInt8) (hc : c = 108 ∨ c = 76) : dL (c :: c :: q) = q:=by
 rcases hc with rfl | rfl <;> rfl
theorem dL_u (q : List UInt8) (c : UInt8) (hc : c = 117 ∨ c = 85) : dL (c :: q) = c :: q:=by
 cases q with
 | nil => rcases hc with rfl | rfl <;> rfl
 | cons d t => rcases hc with rfl | rfl <;> rfl
theorem dU_u (q : List UInt8) (c : UInt8) (hc : c = 117 ∨ c = 85) : dU (c :: q) = some q:=by rcases hc with rfl | rfl <;> rfl
theorem dU_l (q : List UInt8) (c : UInt8) (hc : c = 108 ∨ c = 76) : dU (c :: q) = none:=by rcases hc with rfl | rfl <;> rfl
theorem sfx_forms {s : List UInt8} (h : isSfx s = true) : s.reverse = [] ∨ (∃ u,(u = 117 ∨ u = 85) ∧ s.reverse = [u]) ∨ (∃ l,(l = 108 ∨ l = 76) ∧ (s.reverse = [l] ∨ s.reverse = [l,l])) ∨
  (∃ u l,(u = 117 ∨ u = 85) ∧ (l = 108 ∨ l = 76) ∧ (s.reverse = [u,l] ∨ s.reverse = [u,l,l] ∨ s.reverse = [l,u] ∨ s.reverse = [l,l,u])):=by
 have hm : s ∈ sfxs:=by simpa [isSfx] using h
 simp only [sfxs,List.mem_cons,List.not_mem_nil,or_false] at hm
 rcases hm with rfl | rfl | rfl | rfl | rfl | rfl | rfl | rfl | rfl | rfl | rfl | rfl | rfl | rfl | rfl | rfl | rfl | rfl | rfl | rfl | rfl | rfl | rfl
 ·exact .inl rfl
 ·exact .inr (.inl ⟨117,(.inl rfl),rfl⟩)
 ·exact .inr (.inl ⟨85,(.inr rfl),rfl⟩)
 ·exact .inr (.inr (.inl ⟨108,(.inl rfl), .inl rfl⟩))
 ·exact .inr (.inr (.inl ⟨76,(.inr rfl), .inl rfl⟩))
 ·exact .inr (.inr (.inl ⟨108,(.inl rfl), .inr rfl⟩))
 ·exact .inr (.inr (.inl ⟨76,(.inr rfl), .inr rfl⟩))
 ·exact .inr (.inr (.inr ⟨117,108,(.inl rfl),(.inl rfl), .inr (.inr (.inl rfl))⟩))
 ·exact .inr (.inr (.inr ⟨117,76,(.inl rfl),(.inr rfl), .inr (.inr (.inl rfl))⟩))
 ·exact .inr (.inr (.inr ⟨117,108,(.inl rfl),(.inl rfl), .inr (.inr (.inr rfl))⟩))
 ·exact .inr (.inr (.inr ⟨117,76,(.inl rfl),(.inr rfl), .inr (.inr (.inr rfl))⟩))
 ·exact .inr (.inr (.inr ⟨85,108,(.inr rfl),(.inl rfl), .inr (.inr (.inl rfl))⟩))
 ·exact .inr (.inr (.inr ⟨85,76,(.inr rfl),(.inr rfl), .inr (.inr (.inl rfl))⟩))
 ·exact .inr (.inr (.inr ⟨85,108,(.inr rfl),(.inl rfl), .inr (.inr (.inr rfl))⟩))
 ·exact .inr (.inr (.inr ⟨85,76,(.inr rfl),(.inr rfl), .inr (.inr (.inr rfl))⟩))
 ·exact .inr (.inr (.inr ⟨117,108,(.inl rfl),(.inl rfl), .inl rfl⟩))
 ·exact .inr (.inr (.inr ⟨85,108,(.inr rfl),(.inl rfl), .inl rfl⟩))
 ·exact .inr (.inr (.inr ⟨117,76,(.inl rfl),(.inr rfl), .inl rfl⟩))
 ·exact .inr (.inr (.inr ⟨85,76,(.inr rfl),(.inr rfl), .inl rfl⟩))
 ·exact .inr (.inr (.inr ⟨117,108,(.inl rfl),(.inl rfl), .inr (.inl rfl)⟩))
 ·exact .inr (.inr (.inr ⟨85,108,(.inr rfl),(.inl rfl), .inr (.inl rfl)⟩))
 ·exact .inr (.inr (.inr ⟨117,76,(.inl rfl),(.inr rfl), .inr (.inl rfl)⟩))
 ·exact .inr (.inr (.inr ⟨85,76,(.inr rfl),(.inr rfl), .inr (.inl rfl)⟩))
theorem rb_of {s q : List UInt8} (h : isSfx s = true) (hq : plainHead q = true) : rb (s.reverse ++ q) = q:=by
 unfold rb
 rcases sfx_forms h with e | ⟨u,hu,e⟩ | ⟨l,hl,e | e⟩ | ⟨u,l,hu,hl,e | e | e | e⟩ <;> rw [e]
 ·rw [List.nil_append,dU_plain hq]; dsimp only; rw [dL_plain hq,dU_plain hq]; rfl
 ·rw [List.singleton_append,dU_u q u hu]; exact dL_plain hq
 ·rw [List.singleton_append,dU_l q l hl]; dsimp only; rw [dL_one hq l hl,dU_plain hq]; rfl
 ·show (match dU (l :: l :: q) with | some t => dL t | none => (dU (dL (l :: l :: q))).getD (dL (l :: l :: q))) = q
  rw [dU_l _ l hl]; dsimp only; rw [dL_two q l hl,dU_plain hq]; rfl
 ·show (match dU (u :: l :: q) with | some t => dL t | none => (dU (dL (u :: l :: q))).getD (dL (u :: l :: q))) = q
  rw [dU_u _ u hu]; exact dL_one hq l hl
 ·show (match dU (u :: l :: l :: q) with | some t => dL t | none => (dU (dL (u :: l :: l :: q))).getD (dL (u :: l :: l :: q))) = q
  rw [dU_u _ u hu]; exact dL_two q l hl
 ·show (match dU (l :: u :: q) with | some t => dL t | none => (dU (dL (l :: u :: q))).getD (dL (l :: u :: q))) = q
  rw [dU_l _ l hl]; dsimp only
  have e1 : dL (l :: u :: q) = u :: q:=by rcases hl with rfl | rfl <;> rcases hu with rfl | rfl <;> rfl
  rw [e1,dU_u q u hu]; rfl
 ·show (match dU (l :: l :: u :: q) with | some t => dL t | none => (dU (dL (l :: l :: u :: q))).getD (dL (l :: l :: u :: q))) = q
  rw [dU_l _ l hl]; dsimp only; rw [dL_two (u :: q) l hl,dU_u q u hu]; rfl
theorem dL_parts (r : List UInt8) : ∃ s,r = s ++ dL r ∧ (s = [] ∨ ∃ l,(l = 108 ∨ l = 76) ∧ (s = [l] ∨ s = [l,l])):=by
 by_cases hp : plainHead r = true
 ·exact ⟨[],by rw [dL_plain hp]; rfl, .inl rfl⟩
 match r with
 | [] => exact absurd rfl hp
 | c :: t =>
  by_cases hc : c = 108 ∨ c = 76
  ·cases t with
   | nil => exact ⟨[c],by rcases hc with rfl | rfl <;> rfl, .inr ⟨c,hc, .inl rfl⟩⟩
   | cons d t =>
    by_cases hd : d = c
    ·subst hd
     exact ⟨[d,d],by rw [dL_two t d hc]; rfl, .inr ⟨d,hc, .inr rfl⟩⟩
    ·have e : dL (c :: d :: t) = d :: t:=by
      rcases hc with rfl | rfl
      ·show (if (108 : UInt8) = 108 ∧ d = 108 then t else _) = _
       rw [if_neg (fun h => hd h.2)]; rfl
      ·show (if (76 : UInt8) = 108 ∧ d = 108 then t else if (76 : UInt8) = 76 ∧ d = 76 then t else _) = _
       rw [if_neg (fun h => absurd h.1 (by decide)),if_neg (fun h => hd h.2)]; rfl
     exact ⟨[c],by rw [e]; rfl, .inr ⟨c,hc, .inl rfl⟩⟩
  ·have hu : c = 117 ∨ c = 85:=by
    have h1 : isUL c = true:=by
     cases h : isUL c with
     | true => rfl
     | false => exact absurd (show (!isUL c) = true by rw [h]; rfl) hp
    simp only [isUL,Bool.or_eq_true,beq_iff_eq] at h1
    rcases h1 with h | h | h | h
    ·exact .inl h
    ·exact .inr h
    ·exact absurd (.inl h) hc
    ·exact absurd (.inr h) hc
   exact ⟨[],by rw [dL_u t c hu]; rfl, .inl rfl⟩
theorem dU_parts {r t : List UInt8} (h : dU r = some t) : ∃ u,(u = 117 ∨ u = 85) ∧ r = u :: t:=by
 cases r with
 | nil => cases h
 | cons c r =>
  have h' : (if c = 117 then some r else if c = 85 then some r else none) = some t:=h
  by_cases h1 : c = 117
  ·rw [if_pos h1] at h'
   exact ⟨c, .inl h1,by rw [Option.some.inj h']⟩
  ·rw [if_neg h1] at h'
   by_cases h2 : c = 85
   ·rw [if_pos h2] at h'
    exact ⟨c, .inr h2,by rw [Option.some.inj h']⟩
   ·rw [if_neg h2] at h'
    cases h'
theorem rb_parts (r : List UInt8) : ∃ s,r = s ++ rb r ∧ isSfx s.reverse = true:=by
 unfold rb
 cases hu : dU r with
 | some t =>
  obtain ⟨u,h1,rfl⟩:=dU_parts hu
  obtain ⟨s,hs,hf⟩:=dL_parts t
  refine ⟨u :: s,by dsimp only; rw [List.cons_append,← hs],?_⟩
  rcases hf with rfl | ⟨l,hl,rfl | rfl⟩
  ·rcases h1 with rfl | rfl <;> decide
  ·rcases h1 with rfl | rfl <;> rcases hl with rfl | rfl <;> decide
  ·rcases h1 with rfl | rfl <;> rcases hl with rfl | rfl <;> decide
 | none =>
  obtain ⟨s,hs,hf⟩:=dL_parts r
  dsimp only
  cases hv : dU (dL r) with
  | none =>
   refine ⟨s,hs,?_⟩
   rcases hf with rfl | ⟨l,hl,rfl | rfl⟩
   ·decide
   ·rcases hl with rfl | rfl <;> decide
   ·rcases hl with rfl | rfl <;> decide
  | some t =>
   obtain ⟨u,h1,h2⟩:=dU_parts hv
   refine ⟨s ++ [u],?_,?_⟩
   ·show r = (s ++ [u]) ++ t
    rw [List.append_assoc,List.singleton_append,← h2]
    exact hs
   ·rcases hf with rfl | ⟨l,hl,rfl | rfl⟩
    ·rcases h1 with rfl | rfl <;> decide
    ·rcases h1 with rfl | rfl <;> rcases hl with rfl | rfl <;> decide
    ·rcases h1 with rfl | rfl <;> rcases hl with rfl | rfl <;> decide
theorem bare_parts (l : List UInt8) : ∃ s,l = bare l ++ s ∧ isSfx s = true:=by
 obtain ⟨s,h1,h2⟩:=rb_parts l.reverse
 refine ⟨s.reverse,?_,h2⟩
 have:=congrArg List.reverse h1
 rw [List.reverse_reverse,List.reverse_append] at this
 exact this
theorem bare_of {p s : List UInt8} (h : isSfx s = true) (hp : ∀ c,p.getLast? = some c → isUL c = false) : bare (p ++ s) = p:=by
 unfold bare
 rw [List.reverse_append,rb_of h,List.reverse_reverse]
 cases hq : p.reverse with
 | nil => rfl
 | cons c t =>
  have : p.getLast? = some c:=by rw [List.getLast?_eq_head?_reverse,hq]; rfl
  show (!isUL c) = true
  rw [hp c this]; rfl
def vf (b : Nat) (acc : Nat) (l : List UInt8) : Nat:=l.foldl (fun n c => n * b + dig c) acc
theorem vf_ge (b : Nat) (hb : 1 ≤ b) : ∀ (l : List UInt8) (acc : Nat),acc ≤ vf b acc l
 | [],_ => Nat.le_refl _
 | c :: r,acc => by
  have h:=vf_ge b hb r (acc * b + dig c)
  have : acc * 1 ≤ acc * b:=Nat.mul_le_mul_left acc hb
  show acc ≤ vf b (acc * b + dig c) r
  omega
theorem pu_some (b : Nat) (hb : 1 ≤ b) : ∀ (l : List UInt8) (acc : Nat),(∀ c ∈ l,dig c < b) → vf b acc l ≤ most → pu b acc l = .ok (vf b acc l)
 | [],_,_,_ => rfl
 | c :: r,acc,h,hm => by
  have h1:=vf_ge b hb r (acc * b + dig c)
  have hm' : vf b (acc * b + dig c) r ≤ most:=hm
  show (if dig c < b then (if most < acc * b + dig c then PR.rng else pu b (acc * b + dig c) r) else .syn) = _
  rw [if_pos (h c List.mem_cons_self),if_neg (by omega)]
  exact pu_some b hb r _ (fun x hx => h x (List.mem_cons_of_mem _ hx)) hm'
theorem pu_ok (b : Nat) : ∀ (l : List UInt8) (acc n : Nat),acc ≤ most → pu b acc l = .ok n → (∀ c ∈ l,dig c < b) ∧ vf b acc l = n ∧ n ≤ most
 | [],acc,n,ha,h => by
  have : acc = n:=by injection h
  exact ⟨fun c hc => by simp at hc,this,by omega⟩
 | c :: r,acc,n,ha,h => by
  have h' : (if dig c < b then (if most < acc * b + dig c then PR.rng else pu b (acc * b + dig c) r) else .syn) = .ok n:=h
  split at h'
  ·rename_i hd
   split at h'
   ·cases h'
   ·rename_i hm
    obtain ⟨h1,h2,h3⟩:=pu_ok b r _ n (by omega) h'
    refine ⟨fun x hx => ?_,h2,h3⟩
    rcases List.mem_cons.1 hx with rfl | hx
    ·exact hd
    ·exact h1 x hx
  ·cases h'
def puTop (b : Nat) (l : List UInt8) : PR:=if l = [] then .syn else pu b 0 l
def prO : PR → Option Nat
 | .ok n => some n
 | _ => none
def numP (l : List UInt8) : Option Nat:=prO (puTop (start (bare l)).2 ((bare l).drop (start (bare l)).1))
theorem start_base (l : List UInt8) : ((start l).2 = 10 ∨ (start l).2 = 8 ∨ (start l).2 = 16) ∧ (start l).1 ≤ l.length:=by
 unfold start
 split
 ·exact ⟨.inl rfl,Nat.zero_le _⟩
 ·split
  ·exact ⟨.inr (.inl rfl),Nat.zero_le _⟩
  ·exact ⟨.inl rfl,Nat.zero_le _⟩
 ·split
  ·split
   ·exact ⟨.inr (.inr rfl),by simp⟩
   ·exact ⟨.inr (.inl rfl),Nat.zero_le _⟩
  ·exact ⟨.inl rfl,Nat.zero_le _⟩
theorem sfx_head {s : List UInt8} (h : isSfx s = true) : ∀ c r,s = c :: r → isUL c = true:=by
 have hm : s ∈ sfxs:=by simpa [isSfx] using h
 have key : ∀ s ∈ sfxs,∀ c r,s = c :: r → isUL c = true:=by
  intro s hs c r e
  subst e
  simp only [sfxs,List.mem_cons,List.not_mem_nil,or_false,List.cons.injEq,reduceCtorEq,false_or] at hs
  rcases hs with h | h | h | h | h | h | h | h | h | h | h | h | h | h | h | h | h | h | h | h | h | h <;> rw [h.1] <;> decide
 exact key s hm
theorem ul_dig {c : UInt8} (h : isUL c = true) : dig c = 99:=by
 simp only [isUL,Bool.or_eq_true,beq_iff_eq] at h
 rcases h with rfl | rfl | rfl | rfl <;> rfl
theorem dig_ul {c : UInt8} (h : dig c < 16) : isUL c = false:=by
 cases hc : isUL c with
 | false => rfl
 | true => have:=ul_dig hc; omega
theorem start_app {p s : List UInt8} (hp : p ≠ []) (hs : isSfx s = true) : start (p ++ s) = start p:=by
 match p,hp with
 | [c],_ =>
  cases s with
  | nil => rfl
  | cons d s =>
   have hd:=sfx_head hs d s rfl
   show (if c = 48 then (if d = 120 ∨ d = 88 then (2,16) else (0,8)) else (0,10)) = if c = 48 then (0,8) else (0,10)
   rw [if_neg (c:=d = 120 ∨ d = 88)]
   rintro (rfl | rfl)
   ·exact absurd hd (by decide)
   ·exact absurd hd (by decide)
 | c :: d :: t,_ => rfl
theorem takeWhile_app (q : UInt8 → Bool) : ∀ (D s : List UInt8),(∀ c ∈ D,q c = true) → (∀ c r,s = c :: r → q c = false) → (D ++ s).takeWhile q = D
 | [],[],_,_ => rfl
 | [],c :: s,_,h => by
  rw [List.nil_append,List.takeWhile_cons,if_neg (by rw [h c s rfl]; decide)]
 | c :: D,s,h,h' => by
  rw [List.cons_append,List.takeWhile_cons,if_pos (h c List.mem_cons_self)]
  exact congrArg (c :: ·) (takeWhile_app q D s (fun x hx => h x (List.mem_cons_of_mem _ hx)) h')
theorem mem_tw (q : UInt8 → Bool) : ∀ (l : List UInt8),∀ c ∈ l.takeWhile q,q c = true
 | [],c,h => by cases h
 | a :: l,c,h => by
  rw [List.takeWhile_cons] at h
  split at h
  ·rename_i ha
   rcases List.mem_cons.1 h with rfl | h
   ·exact ha
   ·exact mem_tw q l c h
  ·cases h
theorem num_of {l : List UInt8} {n : Nat} (h : numP l = some n) : number l = some n:=by
 obtain ⟨s,hl,hs⟩:=bare_parts l
 unfold numP at h
 obtain ⟨p,hp⟩ : ∃ p,p = bare l:=⟨_,rfl⟩
 rw [← hp] at h hl
 obtain ⟨hb,hk⟩:=start_base p
 obtain ⟨D,hD⟩ : ∃ D,D = p.drop (start p).1:=⟨_,rfl⟩
 rw [← hD] at h
 have hD0 : D ≠ []:=fun e => by rw [e] at h; cases h
 have hp0 : p ≠ []:=fun e => by rw [e] at hD; exact hD0 (by rw [hD]; rfl)
 have h1 : pu (start p).2 0 D = .ok n:=by
  unfold puTop at h
  rw [if_neg hD0] at h
  cases hq : pu (start p).2 0 D with
  | ok m => rw [hq] at h; injection h with h; rw [h]
  | syn => rw [hq] at h; cases h
  | rng => rw [hq] at h; cases h
 obtain ⟨h2,h3,h4⟩:=pu_ok _ D 0 n (Nat.zero_le _) h1
 have hst : start l = start p:=by rw [hl]; exact start_app hp0 hs
 have hr : l.drop (start p).1 = D ++ s:=by rw [hl,List.drop_append_of_le_length hk,← hD]
 have hds : digs (start p).2 (D ++ s) = D:=takeWhile_app _ D s (fun c hc => decide_eq_true (h2 c hc)) fun c r e => by
  have:=ul_dig (sfx_head hs c r e)
  rw [this]
  rcases hb with e | e | e <;> rw [e] <;> rfl
 unfold number
 rw [hst]
 dsimp only
 rw [hr,hds,if_neg hD0,List.drop_left,hs]
 have hv : val (start p).2 D = n:=h3
 rw [hv,if_neg (by decide),if_neg (by omega)]
theorem num_to {l : List UInt8} {n : Nat} (h : number l = some n) : numP l = some n:=by
 unfold number at h
 obtain ⟨hb,hk⟩:=start_base l
 obtain ⟨b,hbb⟩ : ∃ b,b = (start l).2:=⟨_,rfl⟩
 obtain ⟨k,hkk⟩ : ∃ k,k = (start l).1:=⟨_,rfl⟩
 rw [← hbb] at hb h
 rw [← hkk] at hk h
 dsimp only at h
 obtain ⟨D,hD⟩ : ∃ D,D = digs b (l.drop k):=⟨_,rfl⟩
 rw [← hD] at h
 split at h
 ·cases h
 rename_i hD0
 split at h
 ·cases h
 rename_i hs
 split at h
 ·cases h
 rename_i hm
 injection h with h
 obtain ⟨s,hss⟩ : ∃ s,s = (l.drop k).drop D.length:=⟨_,rfl⟩
 rw [← hss] at hs
 have hs' : isSfx s = true:=by simpa using hs
 have hr : l.drop k = D ++ s:=by
  have h1 : D = (l.drop k).take D.length:=by
   rw [hD]
   unfold digs
   exact List.prefix_iff_eq_take.1 (List.takeWhile_prefix _)
  calc l.drop k = (l.drop k).take D.length ++ (l.drop k).drop D.length:=(List.take_append_drop _ _).symm
   _ = D ++ s:=by rw [← h1,← hss]
 have hdig : ∀ c ∈ D,dig c < b:=fun c hc => by
  have:=mem_tw _ _ c (by rw [hD] at hc; exact hc)
  simpa using this
 have hl : l = (l.take k ++ D) ++ s:=by rw [List.append_assoc,← hr,List.take_append_drop]
 have hbare : bare l = l.take k ++ D:=by
  have e2 : bare ((l.take k ++ D) ++ s) = l.take k ++ D:=?_
  ·rw [← hl] at e2
   exact e2
  refine bare_of hs' ?_
  intro c hc
  refine dig_ul ?_
  have hcD : c ∈ D:=by
   rw [List.getLast?_append] at hc
   cases hx : D.getLast? with
   | none => exact absurd (List.getLast?_eq_none_iff.1 hx) hD0
   | some d =>
    rw [hx] at hc
    have : d = c:=by simpa using hc
    rw [← this]
    exact List.mem_of_getLast? hx
  have:=hdig c hcD
  rcases hb with e | e | e <;> omega
 have hp0 : l.take k ++ D ≠ []:=fun e => hD0 (List.append_eq_nil_iff.1 e).2
 have hst : start (l.take k ++ D) = start l:=by
  have:=start_app hp0 hs'
  rw [← hl] at this
  exact this.symm
 unfold numP
 rw [hbare,hst,← hbb,← hkk]
 have hdr : (l.take k ++ D).drop k = D:=by
  have e : (l.take k).length = k:=by rw [List.length_take]; omega
  rw [List.drop_append,e,Nat.sub_self,List.drop_zero,List.drop_eq_nil_of_le (by omega),List.nil_append]
 rw [hdr]
 unfold puTop
 rw [if_neg hD0]
 have hv : vf b 0 D = n:=h
 have h1:=pu_some b (by rcases hb with e | e | e <;> omega) D 0 hdig (by rw [hv]; rw [h] at hm; omega)
 rw [h1,hv]
 rfl
theorem num_eq (l : List UInt8) : numP l = number l:=by
 cases h : number l with
 | some n => exact num_to h
 | none =>
  cases h' : numP l with
  | none => rfl
  | some n => rw [num_of h'] at h; cases h
end Ie
end
section
open Go.RowKit Go.Shelf
theorem has_rev (l : List UInt8) (c : UInt8) : Lib.hasSuffix l [c] = match l.reverse with | [] => false | d :: _ => c == d:=by
 show ([c] : List UInt8).reverse.isPrefixOf l.reverse = _
 cases l.reverse with
 | nil => rfl
 | cons d t => show ((c == d) && List.isPrefixOf [] t) = _; simp
theorem has_rev2 (l : List UInt8) (c : UInt8) : Lib.hasSuffix l [c,c] = match l.reverse with | d :: e :: _ => c == d && c == e | _ => false:=by
 show ([c,c] : List UInt8).reverse.isPrefixOf l.reverse = _
 match l.reverse with
 | [] => rfl
 | [d] => show ((c == d) && List.isPrefixOf [c] []) = _; simp
 | d :: e :: t => show ((c == d) && ((c == e) && List.isPrefixOf [] t)) = _; simp
theorem trim_rev (l s : List UInt8) (h : Lib.hasSuffix l s = true) : Lib.trimSuffix l s = (l.reverse.drop s.length).reverse:=by
 unfold Lib.trimSuffix
 rw [if_pos h,List.drop_reverse,List.reverse_reverse]
theorem trim_no (l s : List UInt8) (h : Lib.hasSuffix l s = false) : Lib.trimSuffix l s = l:=by
 unfold Lib.trimSuffix
 rw [if_neg (by rw [h]; decide)]
namespace Ie
def wU (l : List UInt8) : List UInt8 × Bool:=if Lib.hasSuffix l [117] then (Lib.trimSuffix l [117],true) else (Lib.trimSuffix l [85],Lib.hasSuffix l [85])
def wL (l : List UInt8) : List UInt8 :=
 if Lib.hasSuffix l [108,108] then Lib.trimSuffix l [108,108] else if Lib.hasSuffix l [76,76] then Lib.trimSuffix l [76,76]
 else if Lib.hasSuffix l [108] then Lib.trimSuffix l [108] else if Lib.hasSuffix l [76] then Lib.trimSuffix l [76] else l
theorem wU_eq (l : List UInt8) : wU l = match dU l.reverse with | some t => (t.reverse,true) | none => (l,false):=by
 unfold wU
 have h1:=has_rev l 117
 have h2:=has_rev l 85
 have t1:=trim_rev l [117]
 have t2:=trim_rev l [85]
 have t3:=trim_no l [85]
 cases hr : l.reverse with
 | nil =>
  rw [hr] at h1 h2
  rw [if_neg (by rw [h1]; decide),h2,t3 h2]
  rfl
 | cons d t =>
  rw [hr] at h1 h2 t1 t2
  by_cases hd : d = 117
  ·have h1' : Lib.hasSuffix l [117] = true:=by rw [h1,hd]; rfl
   rw [if_pos h1',t1 h1',hd]
   rfl
  ·have h1' : Lib.hasSuffix l [117] = false:=by rw [h1]; exact beq_eq_false_iff_ne.2 (Ne.symm hd)
   rw [if_neg (by rw [h1']; decide)]
   by_cases hd2 : d = 85
   ·have h2' : Lib.hasSuffix l [85] = true:=by rw [h2,hd2]; rfl
    rw [t2 h2',h2',hd2]
    rfl
   ·have h2' : Lib.hasSuffix l [85] = false:=by rw [h2]; exact beq_eq_false_iff_ne.2 (Ne.symm hd2)
    rw [t3 h2',h2']
    have e : dU (d :: t) = none:=by
     show (if d = 117 then some t else if d = 85 then some t else none) = none
     rw [if_neg hd,if_neg hd2]
    rw [e]
theorem wL_eq (l : List UInt8) : wL l = (dL l.reverse).reverse:=by
 unfold wL
 have h1:=has_rev2 l 108
 have h2:=has_rev2 l 76
 have h3:=has_rev l 108
 have h4:=has_rev l 76
 have t1:=trim_rev l [108,108]
 have t2:=trim_rev l [76,76]
 have t3:=trim_rev l [108]
 have t4:=trim_rev l [76]
 have e0 : l = l.reverse.reverse:=l.reverse_reverse.symm
 match hr : l.reverse with
 | [] =>
  rw [hr] at h1 h2 h3 h4 e0
  rw [if_neg (by rw [h1]; decide),if_neg (by rw [h2]; decide),if_neg (by rw [h3]; decide),if_neg (by rw [h4]; decide)]
  exact e0
 | [c] =>
  rw [hr] at h1 h2 h3 h4 t3 t4 e0
  rw [if_neg (by rw [h1]; simp),if_neg (by rw [h2]; simp)]
  show _ = (if c = 108 then [] else if c = 76 then [] else [c]).reverse
  by_cases hc : c = 108
  ·have h : Lib.hasSuffix l [108] = true:=by rw [h3,hc]; rfl
   rw [if_pos h,t3 h,if_pos hc]; rfl
  ·rw [if_neg (by rw [h3]; simpa using Ne.symm hc)]
   by_cases hc2 : c = 76
   ·have h : Lib.hasSuffix l [76] = true:=by rw [h4,hc2]; rfl
    rw [if_pos h,t4 h,if_neg hc,if_pos hc2]; rfl
   ·rw [if_neg (by rw [h4]; simpa using Ne.symm hc2),if_neg hc,if_neg hc2]
    exact e0
 | c :: d :: t =>
  rw [hr] at h1 h2 h3 h4 t1 t2 t3 t4 e0
  show _ = (if c = 108 ∧ d = 108 then t else if c = 76 ∧ d = 76 then t else if c = 108 then d :: t else if c = 76 then d :: t else c :: d :: t).reverse
  by_cases a1 : c = 108 ∧ d = 108
  ·have h : Lib.hasSuffix l [108,108] = true:=by rw [h1,a1.1,a1.2]; rfl
   rw [if_pos h,t1 h,if_pos a1]; rfl
  ·rw [if_neg (by rw [h1]; simp only [Bool.and_eq_true,beq_iff_eq]; exact fun h => a1 ⟨h.1.symm,h.2.symm⟩),if_neg a1]
   by_cases a2 : c = 76 ∧ d = 76
   ·have h : Lib.hasSuffix l [76,76] = true:=by rw [h2,a2.1,a2.2]; rfl
    rw [if_pos h,t2 h,if_pos a2]; rfl
   ·rw [if_neg (by rw [h2]; simp only [Bool.and_eq_true,beq_iff_eq]; exact fun h => a2 ⟨h.1.symm,h.2.symm⟩),if_neg a2]
    by_cases hc : c = 108
    ·have h : Lib.hasSuffix l [108] = true:=by rw [h3,hc]; rfl
     rw [if_pos h,t3 h,if_pos hc]; rfl
    ·rw [if_neg (by rw [h3]; simpa using Ne.symm hc)]
     by_cases hc2 : c = 76
     ·have h : Lib.hasSuffix l [76] = true:=by rw [h4,hc2]; rfl
      rw [if_pos h,t4 h,if_neg hc,if_pos hc2]; rfl
     ·rw [if_neg (by rw [h4]; simpa using Ne.symm hc2),if_neg hc,if_neg hc2]
      exact e0
theorem bare_eq (l : List UInt8) : bare l = if (wU l).2 then wL (wU l).1 else (wU (wL l)).1:=by
 rw [wU_eq,wU_eq,wL_eq,wL_eq,List.reverse_reverse]
 unfold bare rb
 cases h : dU l.reverse with
 | some t =>
  dsimp only
  rw [if_pos rfl,List.reverse_reverse]
 | none =>
  dsimp only
  rw [if_neg (by decide)]
  cases h2 : dU (dL l.reverse) with
  | some t => rfl
  | none => rfl
end Ie
def ba (l : List UInt8) : ByteArray:=⟨l.toArray⟩
theorem ba_list (l : List UInt8) : (ba l).data.toList = l:=rfl
theorem ba_size (l : List UInt8) : (ba l).size = l.length:=rfl
theorem cut_any (s p : ByteArray) (w : World) (hs : s.size ≤ 1000000) :
  Calls Tryz.prog 266 #[.string s, .string p] w fun e w' => e = .returned (.tuple #[.string (ba (Lib.trimSuffix s.data.toList p.data.toList)), .bool (Lib.hasSuffix s.data.toList p.data.toList)]) ∧ w' = w :=
 Any.strings_CutSuffix lays104 s p w (by omega)
theorem woU_any (s : ByteArray) (w : World) (hs : s.size ≤ 1000000) :
  Calls Tryz.prog 308 #[.string s] w fun e w' => e = .returned (.tuple #[.string (ba (Ie.wU s.data.toList).1), .bool (Ie.wU s.data.toList).2]) ∧ w' = w:=by
 have K1:=Lib.hid (cut_any s ⟨#[117]⟩ w hs)
 have K2:=Lib.hid (cut_any s ⟨#[85]⟩ w hs)
 have e1 : Ie.wU s.data.toList = if Lib.hasSuffix s.data.toList (⟨#[117]⟩ : ByteArray).data.toList then (Lib.trimSuffix s.data.toList (⟨#[117]⟩ : ByteArray).data.toList,true) else (Lib.trimSuffix s.data.toList (⟨#[85]⟩ : ByteArray).data.toList,Lib.hasSuffix s.data.toList (⟨#[85]⟩ : ByteArray).data.toList):=rfl
 obtain ⟨a,ha⟩ : ∃ a,a = Lib.hasSuffix s.data.toList (⟨#[117]⟩ : ByteArray).data.toList:=⟨_,rfl⟩
 obtain ⟨b,hb⟩ : ∃ b,b = Lib.hasSuffix s.data.toList (⟨#[85]⟩ : ByteArray).data.toList:=⟨_,rfl⟩
 obtain ⟨x,hx⟩ : ∃ x,x = Lib.trimSuffix s.data.toList (⟨#[117]⟩ : ByteArray).data.toList:=⟨_,rfl⟩
 obtain ⟨y,hy⟩ : ∃ y,y = Lib.trimSuffix s.data.toList (⟨#[85]⟩ : ByteArray).data.toList:=⟨_,rfl⟩
 rw [← ha,← hb,← hx,← hy] at e1
 rw [← ha,← hx] at K1
 rw [← hb,← hy] at K2
 rw [e1]
 clear ha hb hx hy e1
 go_enter Tryz.func308,Tryz.ntmps308
 go_wp2_with fail
 refine K1.out.mono ?_
 rintro e w' ⟨rfl,rfl⟩
 cases a with
 | true =>
  go_wp2_with fail
  go_ret2
  exact ⟨rfl,rfl⟩
 | false =>
  go_wp2_with fail
  refine K2.out.mono ?_
  rintro e w' ⟨rfl,rfl⟩
  go_wp2_with fail
  go_ret2
  exact ⟨rfl,rfl⟩
theorem idx_sfx (k : Nat) (v : Value) (h : (#[.string ⟨#[108,108]⟩, .string ⟨#[76,76]⟩, .string ⟨#[108]⟩, .string ⟨#[76]⟩] : Array Value)[k]? = some v) (hk : (k : Int) < 4) (W : World) :
  (Instr.index 456 (.agg #[.string ⟨#[108,108]⟩, .string ⟨#[76,76]⟩, .string ⟨#[108]⟩, .string ⟨#[76]⟩]) (.int .i64 k)).run Tryz.prog W = .ok v W:=by
 obtain ⟨A,hA⟩ : ∃ A,A = (#[.string ⟨#[108,108]⟩, .string ⟨#[76,76]⟩, .string ⟨#[108]⟩, .string ⟨#[76]⟩] : Array Value):=⟨_,rfl⟩
 rw [← hA] at h ⊢
 clear hA
 simp [Instr.index,run_underlying Tryz.underlying456,asIntOf,part,Tryz.isAgg9,Tryz.sizeOf9,h,go_sem]
 intro h
 omega
theorem woL_any (s : ByteArray) (w : World) (hs : s.size ≤ 1000000) :
  Calls Tryz.prog 309 #[.string s] w fun e w' => e = .returned (.string (ba (Ie.wL s.data.toList))) ∧ w' = w:=by
 have K1:=Lib.hid (cut_any s ⟨#[108,108]⟩ w hs)
 have K2:=Lib.hid (cut_any s ⟨#[76,76]⟩ w hs)
 have K3:=Lib.hid (cut_any s ⟨#[108]⟩ w hs)
 have K4:=Lib.hid (cut_any s ⟨#[76]⟩ w hs)
 obtain ⟨l,hl⟩ : ∃ l,l = s.data.toList:=⟨_,rfl⟩
 rw [← hl] at K1 K2 K3 K4
 have hba : s = ba l:=by rw [hl]; rfl
 have e1 : Ie.wL l = if Lib.hasSuffix l (⟨#[108,108]⟩ : ByteArray).data.toList then Lib.trimSuffix l (⟨#[108,108]⟩ : ByteArray).data.toList else if Lib.hasSuffix l (⟨#[76,76]⟩ : ByteArray).data.toList then Lib.trimSuffix l (⟨#[76,76]⟩ : ByteArray).data.toList
  else if Lib.hasSuffix l (⟨#[108]⟩ : ByteArray).data.toList then Lib.trimSuffix l (⟨#[108]⟩ : ByteArray).data.toList else if Lib.hasSuffix l (⟨#[76]⟩ : ByteArray).data.toList then Lib.trimSuffix l (⟨#[76]⟩ : ByteArray).data.toList else l:=rfl
 rw [← hl]
 obtain ⟨a1,h1⟩ : ∃ a,a = Lib.hasSuffix l (⟨#[108,108]⟩ : ByteArray).data.toList:=⟨_,rfl⟩
 obtain ⟨a2,h2⟩ : ∃ a,a = Lib.hasSuffix l (⟨#[76,76]⟩ : ByteArray).data.toList:=⟨_,rfl⟩
 obtain ⟨a3,h3⟩ : ∃ a,a = Lib.hasSuffix l (⟨#[108]⟩ : ByteArray).data.toList:=⟨_,rfl⟩
 obtain ⟨a4,h4⟩ : ∃ a,a = Lib.hasSuffix l (⟨#[76]⟩ : ByteArray).data.toList:=⟨_,rfl⟩
 obtain ⟨x1,y1⟩ : ∃ a,a = Lib.trimSuffix l (⟨#[108,108]⟩ : ByteArray).data.toList:=⟨_,rfl⟩
 obtain ⟨x2,y2⟩ : ∃ a,a = Lib.trimSuffix l (⟨#[76,76]⟩ : ByteArray).data.toList:=⟨_,rfl⟩
 obtain ⟨x3,y3⟩ : ∃ a,a = Lib.trimSuffix l (⟨#[108]⟩ : ByteArray).data.toList:=⟨_,rfl⟩
 obtain ⟨x4,y4⟩ : ∃ a,a = Lib.trimSuffix l (⟨#[76]⟩ : ByteArray).data.toList:=⟨_,rfl⟩
 rw [← h1,← h2,← h3,← h4,← y1,← y2,← y3,← y4] at e1
 rw [← h1,← y1] at K1
 rw [← h2,← y2] at K2
 rw [← h3,← y3] at K3
 rw [← h4,← y4] at K4
 rw [e1]
 have HBA:=Lib.hid hba
 have ix0 : ∀ W,(Instr.index 456 (.agg #[.string ⟨#[108,108]⟩, .string ⟨#[76,76]⟩, .string ⟨#[108]⟩, .string ⟨#[76]⟩]) (.int .i64 0)).run Tryz.prog W = .ok (.string ⟨#[108,108]⟩) W:=idx_sfx 0 _ rfl (by decide)
 have ix1 : ∀ W,(Instr.index 456 (.agg #[.string ⟨#[108,108]⟩, .string ⟨#[76,76]⟩, .string ⟨#[108]⟩, .string ⟨#[76]⟩]) (.int .i64 1)).run Tryz.prog W = .ok (.string ⟨#[76,76]⟩) W:=idx_sfx 1 _ rfl (by decide)
 have ix2 : ∀ W,(Instr.index 456 (.agg #[.string ⟨#[108,108]⟩, .string ⟨#[76,76]⟩, .string ⟨#[108]⟩, .string ⟨#[76]⟩]) (.int .i64 2)).run Tryz.prog W = .ok (.string ⟨#[108]⟩) W:=idx_sfx 2 _ rfl (by decide)
 have ix3 : ∀ W,(Instr.index 456 (.agg #[.string ⟨#[108,108]⟩, .string ⟨#[76,76]⟩, .string ⟨#[108]⟩, .string ⟨#[76]⟩]) (.int .i64 3)).run Tryz.prog W = .ok (.string ⟨#[76]⟩) W:=idx_sfx 3 _ rfl (by decide)
 clear h1 h2 h3 h4 y1 y2 y3 y4 e1 hl hba
 go_enter Tryz.func309,Tryz.ntmps309
 go_wp2_with fail
 go_loop [8] (fun i => (i = .int .i64 0) ∨ (i = .int .i64 1 ∧ a1 = false) ∨ (i = .int .i64 2 ∧ a1 = false ∧ a2 = false) ∨ (i = .int .i64 3 ∧ a1 = false ∧ a2 = false ∧ a3 = false) ∨ (i = .int .i64 4 ∧ a1 = false ∧ a2 = false ∧ a3 = false ∧ a4 = false)) (fun i => 4 - (intOf i).toNat)
 case atStart => exact .inl rfl
 case round =>
  rcases hrel with rfl | ⟨rfl,rfl⟩ | ⟨rfl,rfl,rfl⟩ | ⟨rfl,rfl,rfl,rfl⟩ | ⟨rfl,rfl,rfl,rfl,rfl⟩
  ·go_wp2_with fail
   refine K1.out.mono ?_
   rintro e w' ⟨rfl,rfl⟩
   cases a1 with
   | true => go_wp2_with fail; go_ret; exact ⟨rfl,rfl⟩
   | false =>
    go_wp2_with fail
    go_round
    case rel => simp
    case measure => simp [intOf]
  ·go_wp2_with fail
   refine K2.out.mono ?_
   rintro e w' ⟨rfl,rfl⟩
   cases a2 with
   | true => go_wp2_with fail; go_ret; exact ⟨rfl,rfl⟩
   | false =>
    go_wp2_with fail
    go_round
    case rel => simp
    case measure => simp [intOf]
  ·go_wp2_with fail
   refine K3.out.mono ?_
   rintro e w' ⟨rfl,rfl⟩
   cases a3 with
   | true => go_wp2_with fail; go_ret; exact ⟨rfl,rfl⟩
   | false =>
    go_wp2_with fail
    go_round
    case rel => simp
    case measure => simp [intOf]
  ·go_wp2_with fail
   refine K4.out.mono ?_
   rintro e w' ⟨rfl,rfl⟩
   cases a4 with
   | true => go_wp2_with fail; go_ret; exact ⟨rfl,rfl⟩
   | false =>
    go_wp2_with fail
    go_round
    case rel => simp
    case measure => simp [intOf]
  ·go_wp2_with fail
   go_ret
   refine ⟨?_,rfl⟩
   rw [HBA.out]
   rfl
end
section
open Go.RowKit Go.Shelf
theorem len_trim (l s : List UInt8) : (Lib.trimSuffix l s).length ≤ l.length:=by
 unfold Lib.trimSuffix
 split
 ·rw [List.length_take]; omega
 ·exact Nat.le_refl _
theorem len_wU (l : List UInt8) : (Ie.wU l).1.length ≤ l.length:=by
 unfold Ie.wU
 split
 ·exact len_trim _ _
 ·exact len_trim _ _
theorem len_wL (l : List UInt8) : (Ie.wL l).length ≤ l.length:=by
 unfold Ie.wL
 repeat' split
 all_goals first | exact len_trim _ _ | exact Nat.le_refl _
theorem len_bare (l : List UInt8) : (Ie.bare l).length ≤ l.length:=by
 rw [Ie.bare_eq]
 split
 ·exact Nat.le_trans (len_wL _) (len_wU _)
 ·exact Nat.le_trans (len_wU _) (len_wL _)
theorem bare_any (s : ByteArray) (w : World) (hs : s.size ≤ 1000000) : Calls Tryz.prog 299 #[.string s] w fun e w' => e = .returned (.string (ba (Ie.bare s.data.toList))) ∧ w' = w:=by
 have hsz : s.size = s.data.toList.length:=Lib.size_eq s
 have K1:=Lib.hid (woU_any s w hs)
 have K2:=Lib.hid (woL_any (ba (Ie.wU s.data.toList).1) w (by rw [ba_size]; have:=len_wU s.data.toList; omega))
 have K3:=Lib.hid (woL_any s w hs)
 have K4:=Lib.hid (woU_any (ba (Ie.wL s.data.toList)) w (by rw [ba_size]; have:=len_wL s.data.toList; omega))
 rw [ba_list] at K2 K4
 rw [Ie.bare_eq]
 obtain ⟨x,hx⟩ : ∃ x,x = (Ie.wU s.data.toList).1:=⟨_,rfl⟩
 obtain ⟨a,ha⟩ : ∃ a,a = (Ie.wU s.data.toList).2:=⟨_,rfl⟩
 obtain ⟨y,hy⟩ : ∃ y,y = Ie.wL s.data.toList:=⟨_,rfl⟩
 obtain ⟨z,hz⟩ : ∃ z,z = Ie.wL x:=⟨_,rfl⟩
 obtain ⟨u,hu⟩ : ∃ u,u = (Ie.wU y).1:=⟨_,rfl⟩
 rw [← hx,← ha] at K1
 rw [← hx,← hz] at K2
 rw [← hy] at K3 K4
 rw [← hu] at K4
 rw [← hx,← ha,← hy,← hz,← hu]
 obtain ⟨bx,hbx⟩ : ∃ bx,bx = ba x:=⟨_,rfl⟩
 obtain ⟨by',hby⟩ : ∃ bx,bx = ba y:=⟨_,rfl⟩
 obtain ⟨bz,hbz⟩ : ∃ bx,bx = ba z:=⟨_,rfl⟩
 obtain ⟨bu,hbu⟩ : ∃ bx,bx = ba u:=⟨_,rfl⟩
 rw [← hbx] at K1 K2
 rw [← hbz] at K2
 rw [← hby] at K3 K4
 rw [← hbu] at K4
 have HBZ:=Lib.hid hbz
 have HBU:=Lib.hid hbu
 clear hx ha hy hz hu hbx hby hbz hbu hs hsz
 go_enter Tryz.func299,Tryz.ntmps299
 go_wp2_with fail
 refine K1.out.mono ?_
 rintro e w' ⟨rfl,rfl⟩
 cases a with
 | true =>
  go_wp2_with fail
  refine K2.out.mono ?_
  rintro e w' ⟨rfl,rfl⟩
  go_wp2_with fail
  go_ret
  exact ⟨by rw [HBZ.out]; rfl,rfl⟩
 | false =>
  go_wp2_with fail
  refine K3.out.mono ?_
  rintro e w' ⟨rfl,rfl⟩
  go_wp2_with fail
  refine K4.out.mono ?_
  rintro e w' ⟨rfl,rfl⟩
  go_wp2_with fail
  go_ret
  exact ⟨by rw [HBU.out]; rfl,rfl⟩
theorem byte9b {s : ByteArray} {i : Nat} {c : UInt8} (h : s.data.toList[i]? = some c) (hi : i < s.size) : ((s[i]'hi).toNat : Int) = c.toNat:=by
 obtain ⟨h1,h2⟩:=List.getElem?_eq_some_iff.1 h
 have : s[i]'hi = c:=by rw [← h2]; rfl
 rw [this]
theorem u8_int {c : UInt8} {k : Nat} (hk : k < 256) : c = UInt8.ofNat k ↔ (c.toNat : Int) = k:=by
 constructor
 ·intro h
  rw [h,UInt8.toNat_ofNat']
  have : k % 2 ^ 8 = k:=Nat.mod_eq_of_lt hk
  omega
 ·intro h
  apply UInt8.toNat_inj.1
  rw [UInt8.toNat_ofNat']
  have : k % 2 ^ 8 = k:=Nat.mod_eq_of_lt hk
  omega
theorem based_any (l : List UInt8) (hl : l.length ≤ 1000000) (w : World) : Calls Tryz.prog 298 #[.string (ba l)] w fun e w' => e = .returned (.tuple #[.string (ba (l.drop (Ie.start l).1)), .int .i64 ((Ie.start l).2 : Nat)]) ∧ w' = w:=by
 have K1:=prefix_any (ba l) ⟨#[48]⟩ w
 rw [ba_list,show (⟨#[48]⟩ : ByteArray).data.toList = [48] from rfl] at K1
 match l,hl with
 | [],_ =>
  have e1 : Lib.hasPrefix [] [48] = false:=rfl
  rw [e1] at K1
  have HK:=Lib.hid K1
  clear K1 e1
  show Calls Tryz.prog 298 #[.string (ba [])] w fun e w' => e = .returned (.tuple #[.string (ba []), .int .i64 10]) ∧ w' = w
  obtain ⟨b,hb⟩ : ∃ b,b = ba []:=⟨_,rfl⟩
  rw [← hb] at HK ⊢
  clear hb
  go_enter Tryz.func298,Tryz.ntmps298
  go_wp2_with fail
  refine HK.out.mono ?_
  rintro e w' ⟨rfl,rfl⟩
  go_wp2_with fail
  go_ret2
  exact ⟨rfl,rfl⟩
 | [c],_ =>
  have e1 : Lib.hasPrefix [c] [48] = (48 == c):=by show ((48 == c) && List.isPrefixOf [] []) = _; simp
  rw [e1] at K1
  have hsz : (ba [c]).size = 1:=rfl
  by_cases hc : c = 48
  ·have e2 : (48 == c) = true:=by rw [hc]; rfl
   have e3 : Ie.start [c] = (0,8):=if_pos hc
   rw [e2] at K1
   rw [e3,List.drop_zero]
   have HK:=Lib.hid K1
   obtain ⟨b,hb⟩ : ∃ b,b = ba [c]:=⟨_,rfl⟩
   rw [← hb] at HK hsz ⊢
   clear hb K1 e1 e2 e3 hc
   go_enter Tryz.func298,Tryz.ntmps298
   go_wp2_with fail
   refine HK.out.mono ?_
   rintro e w' ⟨rfl,rfl⟩
   go_wp2_with fail
   go_ret2
   exact ⟨rfl,rfl⟩
  ·have e2 : (48 == c) = false:=by simpa using Ne.symm hc
   have e3 : Ie.start [c] = (0,10):=if_neg hc
   rw [e2] at K1
   rw [e3,List.drop_zero]
   have HK:=Lib.hid K1
   obtain ⟨b,hb⟩ : ∃ b,b = ba [c]:=⟨_,rfl⟩
   rw [← hb] at HK hsz ⊢
   clear hb K1 e1 e2 e3 hc
   go_enter Tryz.func298,Tryz.ntmps298
   go_wp2_with fail
   refine HK.out.mono ?_
   rintro e w' ⟨rfl,rfl⟩
   go_wp2_with fail
   go_ret2
   exact ⟨rfl,rfl⟩
 | c :: d :: t,hl =>
  have e1 : Lib.hasPrefix (c :: d :: t) [48] = (48 == c):=by show ((48 == c) && List.isPrefixOf [] _) = _; simp
  rw [e1] at K1
  have hsz : (ba (c :: d :: t)).size = t.length + 2:=rfl
  have g1 : ∀ (b : ByteArray),b = ba (c :: d :: t) → ∀ hi : 1 < b.size,((b[1]'hi).toNat : Int) = d.toNat:=by
   rintro b rfl hi
   exact byte9b rfl hi
  have hex : (ba (c :: d :: t)).extract 2 (t.length + 2) = ba t:=by
   apply ByteArray.ext
   apply Array.toList_inj.1
   rw [Lib.extract_data]
   show ((c :: d :: t).drop 2).take (t.length + 2 - 2) = t
   rw [List.drop_succ_cons,List.drop_succ_cons,List.drop_zero,List.take_of_length_le (by omega)]
  simp only [List.length_cons] at hl
  obtain ⟨D,hD⟩ : ∃ D : Int,D = d.toNat:=⟨_,rfl⟩
  rw [← hD] at g1
  have hx : d = 120 ↔ D = 120:=by rw [hD]; exact u8_int (k:=120) (by decide)
  have hX : d = 88 ↔ D = 88:=by rw [hD]; exact u8_int (k:=88) (by decide)
  by_cases hc : c = 48
  ·have e2 : (48 == c) = true:=by rw [hc]; rfl
   rw [e2] at K1
   by_cases hd : d = 120 ∨ d = 88
   ·have e3 : Ie.start (c :: d :: t) = (2,16):=(if_pos hc).trans (if_pos hd)
    rw [e3]
    show Calls Tryz.prog 298 #[.string (ba (c :: d :: t))] w fun e w' => e = .returned (.tuple #[.string (ba t), .int .i64 16]) ∧ w' = w
    rw [hx,hX] at hd
    have HK:=Lib.hid K1
    have HEX:=Lib.hid hex
    obtain ⟨n,hn⟩ : ∃ n,n = t.length:=⟨_,rfl⟩
    rw [← hn] at hsz HEX hl
    obtain ⟨b,hb⟩ : ∃ b,b = ba (c :: d :: t):=⟨_,rfl⟩
    rw [← hb] at HK hsz HEX ⊢
    have hi1 : 1 < b.size:=by rw [hsz]; omega
    replace g1:=g1 b hb hi1
    obtain ⟨bt,hbt⟩ : ∃ bt,bt = ba t:=⟨_,rfl⟩
    rw [← hbt] at HEX ⊢
    clear hb hbt hn K1 e1 e2 e3 hc hx hX hD hex
    rcases hd with hd | hd
    all_goals
     go_enter Tryz.func298,Tryz.ntmps298
     go_wp2_with fail
     refine HK.out.mono ?_
     rintro e w' ⟨rfl,rfl⟩
     go_wp2_with fail
     go_ret2
     refine ⟨?_,rfl⟩
     rw [← HEX.out]
     rfl
   ·have e3 : Ie.start (c :: d :: t) = (0,8):=(if_pos hc).trans (if_neg hd)
    rw [e3,List.drop_zero]
    rw [hx,hX] at hd
    have d1 : (D == 120) = false:=beq_eq_false_iff_ne.2 fun h => hd (.inl h)
    have d2 : (D == 88) = false:=beq_eq_false_iff_ne.2 fun h => hd (.inr h)
    have HK:=Lib.hid K1
    obtain ⟨n,hn⟩ : ∃ n,n = t.length:=⟨_,rfl⟩
    rw [← hn] at hsz hl
    obtain ⟨b,hb⟩ : ∃ b,b = ba (c :: d :: t):=⟨_,rfl⟩
    rw [← hb] at HK hsz ⊢
    have hi1 : 1 < b.size:=by rw [hsz]; omega
    replace g1:=g1 b hb hi1
    clear hb hn K1 e1 e2 e3 hc hx hX hD hex hd
    go_enter Tryz.func298,Tryz.ntmps298
    go_wp2_with fail
    refine HK.out.mono ?_
    rintro e w' ⟨rfl,rfl⟩
    go_wp2_with fail
    go_ret2
    exact ⟨rfl,rfl⟩
  ·have e2 : (48 == c) = false:=by simpa using Ne.symm hc
   have e3 : Ie.start (c :: d :: t) = (0,10):=if_neg hc
   rw [e2] at K1
   rw [e3,List.drop_zero]
   have HK:=Lib.hid K1
   obtain ⟨b,hb⟩ : ∃ b,b = ba (c :: d :: t):=⟨_,rfl⟩
   rw [← hb] at HK ⊢
   clear hb K1 e1 e2 e3 hc hx hX hD hex g1 hsz
   go_enter Tryz.func298,Tryz.ntmps298
   go_wp2_with fail
   refine HK.out.mono ?_
   rintro e w' ⟨rfl,rfl⟩
   go_wp2_with fail
   go_ret2
   exact ⟨rfl,rfl⟩
theorem puTop_any (b : Nat) (hb : b = 10 ∨ b = 8 ∨ b = 16) (l : List UInt8) (hl : l.length ≤ 1000000) (w : World) : Calls Tryz.prog 310 #[.string (ba l), .int .i64 b, .int .i64 63] w (PuPost w (Ie.puTop b l)):=by
 unfold Ie.puTop
 by_cases h0 : l = []
 ·rw [if_pos h0,h0]
  exact pu_empty b w
 ·rw [if_neg h0]
  have hne : (ba l).size ≠ 0:=fun h => h0 (List.length_eq_zero_iff.1 (by rw [ba_size] at h; exact h))
  rcases hb with rfl | rfl | rfl
  ·exact pu_10 (ba l) hne hl w
  ·exact pu_8 (ba l) hne hl w
  ·exact pu_16 (ba l) hne hl w
theorem parse_any (b : Nat) (hb : b = 10 ∨ b = 8 ∨ b = 16) (l : List UInt8) (hl : l.length ≤ 1000000) (w : World) (hE : Errs w) :
  Calls Tryz.prog 300 #[.string (ba l), .int .i64 b, .int .i64 63] w fun e w' => (∃ v,e = .returned (.tuple #[.int .u64 (Ie.prV (Ie.puTop b l)),v]) ∧ (match Ie.puTop b l with | .ok _ => v = .nilIface | _ => ∃ t p,v = .iface t p)) ∧ Below w.heap.size w w':=by
 have K1:=Lib.hid (puTop_any b hb l hl w)
 obtain ⟨q,hq⟩ : ∃ q,q = Ie.puTop b l:=⟨_,rfl⟩
 rw [← hq] at K1 ⊢
 have HE:=Lib.hid hE
 have hsz : (ba l).size ≤ 1000000:=hl
 obtain ⟨s,hs⟩ : ∃ s,s = ba l:=⟨_,rfl⟩
 rw [← hs] at K1 hsz ⊢
 clear hq hE hs hl hb
 go_enter Tryz.func300,Tryz.ntmps300
 go_wp2_with fail
 refine K1.out.mono ?_
 rintro e w2 ⟨rfl,hB2⟩
 have HB2:=Lib.hid hB2
 have HE2:=Lib.hid (HE.out.later hB2)
 clear hB2
 cases q with
 | ok n =>
  unfold prE
  go_wp2_with fail
  go_ret2
  first | exact ⟨⟨_,rfl,rfl⟩,HB2.out⟩ | exact ⟨rfl,HB2.out⟩
 | syn =>
  unfold prE
  go_wp2_with fail
  refine (toerr_syntax _ _ _ _ _ hsz HE2.out).mono ?_
  rintro e w3 ⟨⟨t,p,rfl⟩,hB3⟩
  go_wp2_with fail
  go_ret2
  refine ⟨⟨.iface t p,rfl,?_⟩,Below.then HB2.out hB3⟩
  exact ⟨t,p,rfl⟩
 | rng =>
  unfold prE
  go_wp2_with fail
  refine (toerr_range _ _ _ _ _ hsz HE2.out).mono ?_
  rintro e w3 ⟨⟨t,p,rfl⟩,hB3⟩
  go_wp2_with fail
  go_ret2
  refine ⟨⟨.iface t p,rfl,?_⟩,Below.then HB2.out hB3⟩
  exact ⟨t,p,rfl⟩
theorem inumber_any : NumC 279 Ie.number:=by
 intro s w hG hs
 have hsz : s.size = s.data.toList.length:=Lib.size_eq s
 obtain ⟨p,hp⟩ : ∃ p,p = Ie.bare s.data.toList:=⟨_,rfl⟩
 have hlen : p.length ≤ 1000000:=by rw [hp]; have:=len_bare s.data.toList; omega
 have K1:=Lib.hid (bare_any s w hs)
 rw [← hp] at K1
 have K2:=Lib.hid (based_any p hlen w)
 have hb:=(Ie.start_base p).1
 have K3:=Lib.hid (parse_any (Ie.start p).2 hb (p.drop (Ie.start p).1) (by rw [List.length_drop]; omega) w hG.2)
 have hnum : Ie.number s.data.toList = Ie.prO (Ie.puTop (Ie.start p).2 (p.drop (Ie.start p).1)):=by rw [← Ie.num_eq]; unfold Ie.numP; rw [← hp]
 have hmost : ∀ n,Ie.puTop (Ie.start p).2 (p.drop (Ie.start p).1) = .ok n → n ≤ 9223372036854775807:=fun n h => by
  unfold Ie.puTop at h
  split at h
  ·cases h
  ·exact (Ie.pu_ok _ _ 0 n (Nat.zero_le _) h).2.2
 rw [hnum]
 obtain ⟨q,hq⟩ : ∃ q,q = Ie.puTop (Ie.start p).2 (p.drop (Ie.start p).1):=⟨_,rfl⟩
 rw [← hq] at K3 hmost ⊢
 obtain ⟨b,hbb⟩ : ∃ b,b = (Ie.start p).2:=⟨_,rfl⟩
 obtain ⟨x,hx⟩ : ∃ x,x = ba (p.drop (Ie.start p).1):=⟨_,rfl⟩
 obtain ⟨y,hy⟩ : ∃ y,y = ba p:=⟨_,rfl⟩
 obtain ⟨pv,hpv⟩ : ∃ pv,pv = Ie.prV q:=⟨_,rfl⟩
 rw [← hpv] at K3
 rw [← hx,← hbb] at K2 K3
 rw [← hy] at K1 K2
 clear hp hlen hb hnum hq hbb hx hy hsz hG hs
 go_enter Tryz.func279,Tryz.ntmps279
 go_wp2_with fail
 refine K1.out.mono ?_
 rintro e w' ⟨rfl,rfl⟩
 go_wp2_with fail
 refine K2.out.mono ?_
 rintro e w' ⟨rfl,rfl⟩
 go_wp2_with fail
 refine K3.out.mono ?_
 rintro e w2 ⟨⟨v,rfl,hv⟩,hB2⟩
 have HB2:=Lib.hid hB2
 clear hB2
 cases q with
 | ok n =>
  dsimp only at hv
  subst hv
  have hn:=hmost n rfl
  have hpv' : pv = (n : Int):=hpv
  subst hpv'
  have hn1 : (n : Int) ≤ 9223372036854775807:=by omega
  have hn0 : (0 : Int) ≤ n:=by omega
  clear hmost hn hpv
  go_wp2_with fail
  go_ret2
  exact ⟨rfl,HB2.out⟩
 | syn =>
  dsimp only at hv
  obtain ⟨t,p2,rfl⟩:=hv
  clear hmost hpv
  go_wp2_with fail
  go_ret2
  exact ⟨rfl,HB2.out⟩
 | rng =>
  dsimp only at hv
  obtain ⟨t,p2,rfl⟩:=hv
  clear hmost hpv
  go_wp2_with fail
  go_ret2
  exact ⟨rfl,HB2.out⟩
end
section
open Go.RowKit Go.Shelf
theorem byte9 {s : ByteArray} {i : Nat} {c : UInt8} (h : s.data.toList[i]? = some c) (hi : i < s.size) : ((s[i]'hi).toNat : Int) = c.toNat:=by
 obtain ⟨h1,h2⟩:=List.getElem?_eq_some_iff.1 h
 have : s[i]'hi = c:=by rw [← h2]; rfl
 rw [this]
theorem part_at {s : ByteArray} {a b i : Nat} {c : UInt8} (h : s.data.toList[a + i]? = some c) (hi : i < (s.extract a b).size) : (((s.extract a b)[i]'hi).toNat : Int) = c.toNat:=by
 refine byte9 ?_ hi
 have hs : (s.extract a b).size = min b s.size - a:=ByteArray.size_extract
 rw [hs] at hi
 rw [Lib.extract_data,List.getElem?_take,List.getElem?_drop,if_pos (by omega)]
 exact h
theorem u8_of {c : UInt8} {k : Nat} (h : (c.toNat : Int) = k) (hk : k < 256) : c = UInt8.ofNat k:=by
 apply UInt8.toNat_inj.1
 rw [UInt8.toNat_ofNat']
 have : k % 2 ^ 8 = k:=Nat.mod_eq_of_lt hk
 omega
theorem Ie.quote_none {l : List UInt8} (h3 : l.length ≠ 3) (h4 : l.length ≠ 4) : Ie.quote l = none:=by
 match l,h3,h4 with
 | [],_,_ => rfl
 | [_],_,_ => rfl
 | [_,_],_,_ => rfl
 | [_,_,_],h,_ => exact absurd rfl h
 | [_,_,_,_],_,h => exact absurd rfl h
 | _ :: _ :: _ :: _ :: _ :: _,_,_ => rfl
theorem Ie.esc_none {c : UInt8} (h0 : ¬ (c.toNat : Int) = 110) (h1 : ¬ (c.toNat : Int) = 116) (h2 : ¬ (c.toNat : Int) = 114) (h3 : ¬ (c.toNat : Int) = 48) (h4 : ¬ (c.toNat : Int) = 97) (h5 : ¬ (c.toNat : Int) = 98) (h6 : ¬ (c.toNat : Int) = 102) (h7 : ¬ (c.toNat : Int) = 118) (h8 : ¬ (c.toNat : Int) = 92) (h9 : ¬ (c.toNat : Int) = 39) (h10 : ¬ (c.toNat : Int) = 34) (h11 : ¬ (c.toNat : Int) = 63) : Ie.esc c = none:=by
 unfold Ie.esc
 rw [if_neg (fun h => h0 (by rw [h]; rfl)),if_neg (fun h => h1 (by rw [h]; rfl)),if_neg (fun h => h2 (by rw [h]; rfl)),if_neg (fun h => h3 (by rw [h]; rfl)),if_neg (fun h => h4 (by rw [h]; rfl)),if_neg (fun h => h5 (by rw [h]; rfl)),if_neg (fun h => h6 (by rw [h]; rfl)),if_neg (fun h => h7 (by rw [h]; rfl)),if_neg (fun h => h8 (by rw [h]; rfl)),if_neg (fun h => h9 (by rw [h]; rfl)),if_neg (fun h => h10 (by rw [h]; rfl)),if_neg (fun h => h11 (by rw [h]; rfl))]
theorem escaped_any (c : UInt8) (w : World) : Calls Tryz.prog 301 #[.int .u8 c.toNat] w fun e w' => e = .returned (.tuple #[.int .i64 (Ie.nv (Ie.esc c)), .int .i64 (Ie.ne (Ie.esc c))]) ∧ w' = w:=by
 by_cases h0 : (c.toNat : Int) = 110
 ·have he : Ie.esc c = some 10:=by rw [u8_of (k:=110) h0 (by decide)]; rfl
  rw [he,h0]
  clear he
  go_enter Tryz.func301,Tryz.ntmps301
  go_wp2_with fail
  go_ret2
  exact ⟨rfl,rfl⟩
 by_cases h1 : (c.toNat : Int) = 116
 ·have he : Ie.esc c = some 9:=by rw [u8_of (k:=116) h1 (by decide)]; rfl
  rw [he,h1]
  clear he
  go_enter Tryz.func301,Tryz.ntmps301
  go_wp2_with fail
  go_ret2
  exact ⟨rfl,rfl⟩
 by_cases h2 : (c.toNat : Int) = 114
 ·have he : Ie.esc c = some 13:=by rw [u8_of (k:=114) h2 (by decide)]; rfl
  rw [he,h2]
  clear he
  go_enter Tryz.func301,Tryz.ntmps301
  go_wp2_with fail
  go_ret2
  exact ⟨rfl,rfl⟩
 by_cases h3 : (c.toNat : Int) = 48
 ·have he : Ie.esc c = some 0:=by rw [u8_of (k:=48) h3 (by decide)]; rfl
  rw [he,h3]
  clear he
  go_enter Tryz.func301,Tryz.ntmps301
  go_wp2_with fail
  go_ret2
  exact ⟨rfl,rfl⟩
 by_cases h4 : (c.toNat : Int) = 97
 ·have he : Ie.esc c = some 7:=by rw [u8_of (k:=97) h4 (by decide)]; rfl
  rw [he,h4]
  clear he
  go_enter Tryz.func301,Tryz.ntmps301
  go_wp2_with fail
  go_ret2
  exact ⟨rfl,rfl⟩
 by_cases h5 : (c.toNat : Int) = 98
 ·have he : Ie.esc c = some 8:=by rw [u8_of (k:=98) h5 (by decide)]; rfl
  rw [he,h5]
  clear he
  go_enter Tryz.func301,Tryz.ntmps301
  go_wp2_with fail
  go_ret2
  exact ⟨rfl,rfl⟩
 by_cases h6 : (c.toNat : Int) = 102
 ·have he : Ie.esc c = some 12:=by rw [u8_of (k:=102) h6 (by decide)]; rfl
  rw [he,h6]
  clear he
  go_enter Tryz.func301,Tryz.ntmps301
  go_wp2_with fail
  go_ret2
  exact ⟨rfl,rfl⟩
 by_cases h7 : (c.toNat : Int) = 118
 ·have he : Ie.esc c = some 11:=by rw [u8_of (k:=118) h7 (by decide)]; rfl
  rw [he,h7]
  clear he
  go_enter Tryz.func301,Tryz.ntmps301
  go_wp2_with fail
  go_ret2
  exact ⟨rfl,rfl⟩
 by_cases h8 : (c.toNat : Int) = 92
 ·have he : Ie.esc c = some 92:=by rw [u8_of (k:=92) h8 (by decide)]; rfl
  rw [he,h8]
  clear he
  go_enter Tryz.func301,Tryz.ntmps301
  go_wp2_with fail
  go_ret2
  exact ⟨rfl,rfl⟩
 by_cases h9 : (c.toNat : Int) = 39
 ·have he : Ie.esc c = some 39:=by rw [u8_of (k:=39) h9 (by decide)]; rfl
  rw [he,h9]
  clear he
  go_enter Tryz.func301,Tryz.ntmps301
  go_wp2_with fail
  go_ret2
  exact ⟨rfl,rfl⟩
 by_cases h10 : (c.toNat : Int) = 34
 ·have he : Ie.esc c = some 34:=by rw [u8_of (k:=34) h10 (by decide)]; rfl
  rw [he,h10]
  clear he
  go_enter Tryz.func301,Tryz.ntmps301
  go_wp2_with fail
  go_ret2
  exact ⟨rfl,rfl⟩
 by_cases h11 : (c.toNat : Int) = 63
 ·have he : Ie.esc c = some 63:=by rw [u8_of (k:=63) h11 (by decide)]; rfl
  rw [he,h11]
  clear he
  go_enter Tryz.func301,Tryz.ntmps301
  go_wp2_with fail
  go_ret2
  exact ⟨rfl,rfl⟩
 rw [Ie.esc_none h0 h1 h2 h3 h4 h5 h6 h7 h8 h9 h10 h11]
 obtain ⟨C,hC⟩ : ∃ C : Int,C = c.toNat:=⟨_,rfl⟩
 rw [← hC] at h0 h1 h2 h3 h4 h5 h6 h7 h8 h9 h10 h11 ⊢
 clear hC
 go_enter Tryz.func301,Tryz.ntmps301
 go_wp2_with fail
 go_ret2
 exact ⟨rfl,rfl⟩
theorem list3 {s : ByteArray} (h : s.size = 3) : ∃ a b c,s.data.toList = [a,b,c]:=by
 have hl : s.data.toList.length = 3:=by rw [Array.length_toList]; exact h
 match hs : s.data.toList,hl with
 | [a,b,c],_ => exact ⟨a,b,c,rfl⟩
theorem list4 {s : ByteArray} (h : s.size = 4) : ∃ a b c d,s.data.toList = [a,b,c,d]:=by
 have hl : s.data.toList.length = 4:=by rw [Array.length_toList]; exact h
 match hs : s.data.toList,hl with
 | [a,b,c,d],_ => exact ⟨a,b,c,d,rfl⟩
theorem Ie.q3_yes {a b c : UInt8} (ha : (a.toNat : Int) = 39) (hc : (c.toNat : Int) = 39) (hb : ¬ (b.toNat : Int) = 92) : Ie.quote [a,b,c] = some b.toNat :=
 if_pos ⟨u8_of (k:=39) ha (by decide),u8_of (k:=39) hc (by decide),fun h => hb (by rw [h]; rfl)⟩
theorem Ie.q3_no {a b c : UInt8} (h : ¬ (a.toNat : Int) = 39 ∨ ¬ (c.toNat : Int) = 39 ∨ (b.toNat : Int) = 92) : Ie.quote [a,b,c] = none :=
 if_neg fun ⟨h1,h2,h3⟩ => by
  rcases h with h | h | h
  ·exact h (by rw [h1]; rfl)
  ·exact h (by rw [h2]; rfl)
  ·exact h3 (u8_of (k:=92) h (by decide))
theorem Ie.q4_yes {a b c d : UInt8} (ha : (a.toNat : Int) = 39) (hd : (d.toNat : Int) = 39) (hb : (b.toNat : Int) = 92) : Ie.quote [a,b,c,d] = Ie.esc c :=
 if_pos ⟨u8_of (k:=39) ha (by decide),u8_of (k:=39) hd (by decide),u8_of (k:=92) hb (by decide)⟩
theorem Ie.q4_no {a b c d : UInt8} (h : ¬ (a.toNat : Int) = 39 ∨ ¬ (d.toNat : Int) = 39 ∨ ¬ (b.toNat : Int) = 92) : Ie.quote [a,b,c,d] = none :=
 if_neg fun ⟨h1,h2,h3⟩ => by
  rcases h with h | h | h
  ·exact h (by rw [h1]; rfl)
  ·exact h (by rw [h2]; rfl)
  ·exact h (by rw [h3]; rfl)
theorem iquote_any : NumC 280 Ie.quote:=by
 intro s w hG hs
 clear hG
 by_cases h3 : s.size = 3
 ·obtain ⟨a,b,c,hl⟩:=list3 h3
  have g0:=byte9 (s:=s) (i:=0) (c:=a) (by rw [hl]; rfl) (by omega)
  have g2:=byte9 (s:=s) (i:=2) (c:=c) (by rw [hl]; rfl) (by omega)
  have gx:=part_at (s:=s) (a:=1) (b:=2) (i:=0) (c:=b) (by rw [hl]; rfl) (by rw [ByteArray.size_extract]; omega)
  have hbb:=b.toNat_lt
  rw [hl]
  have e1:=@Ie.q3_yes a b c
  have e2:=@Ie.q3_no a b c
  obtain ⟨A,hA⟩ : ∃ A : Int,A = a.toNat:=⟨_,rfl⟩
  obtain ⟨B,hB⟩ : ∃ B : Int,B = b.toNat:=⟨_,rfl⟩
  obtain ⟨C,hC⟩ : ∃ C : Int,C = c.toNat:=⟨_,rfl⟩
  have b1 : 0 ≤ B:=by omega
  have b2 : B ≤ 255:=by omega
  rw [← hA,← hB,← hC] at e1 e2
  rw [← hA] at g0
  rw [← hC] at g2
  rw [← hB] at gx
  obtain ⟨q,hq⟩ : ∃ q,q = Ie.quote [a,b,c]:=⟨_,rfl⟩
  rw [← hq] at e1 e2
  have HB:=Lib.hid hB
  rw [← hq]
  clear hl hA hB hC hq hbb
  by_cases ha : A = 39
  ·by_cases hc : C = 39
   ·by_cases hb : B = 92
    ·have hq:=e2 (.inr (.inr hb))
     subst hq
     clear e1 e2
     go_enter Tryz.func280,Tryz.ntmps280
     go_wp2_with fail
     go_ret2
     exact ⟨rfl,Below.refl _ _⟩
    ·have hq:=e1 ha hc hb
     subst hq
     have e3 : Ie.nv (some b.toNat) = B:=HB.out.symm
     rw [e3]
     clear e1 e2
     go_enter Tryz.func280,Tryz.ntmps280
     go_wp2_with fail
     go_ret2
     exact ⟨rfl,Below.refl _ _⟩
   ·have hq:=e2 (.inr (.inl hc))
    subst hq
    clear e1 e2
    go_enter Tryz.func280,Tryz.ntmps280
    go_wp2_with fail
    go_ret2
    exact ⟨rfl,Below.refl _ _⟩
  ·have hq:=e2 (.inl ha)
   subst hq
   clear e1 e2
   go_enter Tryz.func280,Tryz.ntmps280
   go_wp2_with fail
   go_ret2
   exact ⟨rfl,Below.refl _ _⟩
 by_cases h4 : s.size = 4
 ·obtain ⟨a,b,c,d,hl⟩:=list4 h4
  have g0:=byte9 (s:=s) (i:=0) (c:=a) (by rw [hl]; rfl) (by omega)
  have g3:=byte9 (s:=s) (i:=3) (c:=d) (by rw [hl]; rfl) (by omega)
  have gx:=part_at (s:=s) (a:=1) (b:=3) (i:=0) (c:=b) (by rw [hl]; rfl) (by rw [ByteArray.size_extract]; omega)
  have gy:=part_at (s:=s) (a:=1) (b:=3) (i:=1) (c:=c) (by rw [hl]; rfl) (by rw [ByteArray.size_extract]; omega)
  have K1:=Lib.hid (escaped_any c w)
  rw [hl]
  have e1:=@Ie.q4_yes a b c d
  have e2:=@Ie.q4_no a b c d
  obtain ⟨A,hA⟩ : ∃ A : Int,A = a.toNat:=⟨_,rfl⟩
  obtain ⟨B,hB⟩ : ∃ B : Int,B = b.toNat:=⟨_,rfl⟩
  obtain ⟨D,hD⟩ : ∃ D : Int,D = d.toNat:=⟨_,rfl⟩
  rw [← hA,← hB,← hD] at e1 e2
  rw [← hA] at g0
  rw [← hD] at g3
  rw [← hB] at gx
  obtain ⟨q,hq⟩ : ∃ q,q = Ie.quote [a,b,c,d]:=⟨_,rfl⟩
  rw [← hq] at e1 e2
  rw [← hq]
  clear hl hA hB hD hq
  by_cases ha : A = 39
  ·by_cases hd : D = 39
   ·by_cases hb : B = 92
    ·have hq:=e1 ha hd hb
     subst hq
     clear e1 e2
     go_enter Tryz.func280,Tryz.ntmps280
     go_wp2_with fail
     refine K1.out.mono ?_
     rintro e2 w2 ⟨rfl,rfl⟩
     go_wp2_with fail
     go_ret2
     exact ⟨rfl,Below.refl _ _⟩
    ·have hq:=e2 (.inr (.inr hb))
     subst hq
     clear e1 e2
     go_enter Tryz.func280,Tryz.ntmps280
     go_wp2_with fail
     go_ret2
     exact ⟨rfl,Below.refl _ _⟩
   ·have hq:=e2 (.inr (.inl hd))
    subst hq
    clear e1 e2
    go_enter Tryz.func280,Tryz.ntmps280
    go_wp2_with fail
    go_ret2
    exact ⟨rfl,Below.refl _ _⟩
  ·have hq:=e2 (.inl ha)
   subst hq
   clear e1 e2
   go_enter Tryz.func280,Tryz.ntmps280
   go_wp2_with fail
   go_ret2
   exact ⟨rfl,Below.refl _ _⟩
 ·have hq : Ie.quote s.data.toList = none:=Ie.quote_none (by rw [Array.length_toList]; exact h3) (by rw [Array.length_toList]; exact h4)
  rw [hq]
  clear hq
  rcases Nat.lt_or_ge s.size 2 with h2 | h2
  ·go_enter Tryz.func280,Tryz.ntmps280
   go_wp2_with fail
   go_ret2
   exact ⟨rfl,Below.refl _ _⟩
  ·have z1 : ¬ (((s.size : Int) - 1) < 1):=by omega
   have hse : (s.extract 1 (s.size - 1)).size = s.size - 2:=by rw [ByteArray.size_extract]; omega
   go_enter Tryz.func280,Tryz.ntmps280
   go_wp2_with fail
   all_goals
    go_ret2
    exact ⟨rfl,Below.refl _ _⟩
end
section
open Go.RowKit Go.Shelf
namespace Pm
theorem defd_len {ds : List ByteArray} : ∀ (f : Nat) (l m : List K),Ie.defd ds f l = some m → m.length ≤ l.length ∧ ∀ t ∈ m,(∃ u ∈ l,t.text.size ≤ u.text.size) ∨ t.text.size ≤ 1
 | 0,l,m,h => by injection h with h; subst h; exact ⟨Nat.zero_le _,fun t ht => by cases ht⟩
 | f + 1,[],m,h => by injection h with h; subst h; exact ⟨Nat.zero_le _,fun t ht => by cases ht⟩
 | f + 1,a :: r,m,h => by
  replace h : (if Ie.isDef a then (match Ie.asked r with | none => none | some (x,n) => (Ie.defd ds f (r.drop n)).map (Ie.told ds a x :: ·)) else (Ie.defd ds f r).map (a :: ·)) = some m:=h
  cases hd : Ie.isDef a with
  | false =>
   rw [hd,if_neg (by decide)] at h
   obtain ⟨m',hm,rfl⟩:=Option.map_eq_some_iff.1 h
   obtain ⟨h1,h2⟩:=defd_len f r m' hm
   refine ⟨by simp only [List.length_cons]; omega,fun t ht => ?_⟩
   rcases List.mem_cons.1 ht with rfl | ht
   ·exact .inl ⟨t,List.mem_cons_self,Nat.le_refl _⟩
   ·rcases h2 t ht with ⟨u,hu,e⟩ | e
    ·exact .inl ⟨u,List.mem_cons_of_mem _ hu,e⟩
    ·exact .inr e
  | true =>
   rw [hd,if_pos rfl] at h
   cases ha : Ie.asked r with
   | none => rw [ha] at h; cases h
   | some y =>
    obtain ⟨x,n⟩:=y
    rw [ha] at h
    dsimp only at h
    obtain ⟨m',hm,rfl⟩:=Option.map_eq_some_iff.1 h
    obtain ⟨h1,h2⟩:=defd_len f (r.drop n) m' hm
    rw [List.length_drop] at h1
    refine ⟨by simp only [List.length_cons]; omega,fun t ht => ?_⟩
    rcases List.mem_cons.1 ht with rfl | ht
    ·right
     unfold Ie.told
     cases Ie.has ds x
     ·exact (by decide : Ie.B0.size ≤ 1)
     ·exact (by decide : Ie.B1.size ≤ 1)
    ·rcases h2 t ht with ⟨u,hu,e⟩ | e
     ·exact .inl ⟨u,List.mem_cons_of_mem _ (List.mem_of_mem_drop hu),e⟩
     ·exact .inr e
theorem subL_len (ds : List ByteArray) (l : List K) : (subL ds l).length ≤ l.length ∧ ∀ t ∈ subL ds l,(∃ u ∈ l,t.text.size ≤ u.text.size) ∨ t.text.size ≤ 1:=by
 have h1:=lined_facts false l
 refine ⟨by simpa [subL,bareL] using h1.1,fun t ht => ?_⟩
 obtain ⟨z,hz,rfl⟩:=List.mem_map.1 ht
 obtain ⟨y,hy,rfl⟩:=List.mem_map.1 hz
 unfold sub1
 split
 ·exact .inr (show (⟨#[49]⟩ : ByteArray).size ≤ 1 by decide)
 ·obtain ⟨u,hu,e⟩:=(h1.2 y hy).2
  exact .inl ⟨u,hu,by rw [e]; exact Nat.le_refl _⟩
end Pm
structure NmL (ns : List ByteArray) : Prop where
 len : ns.length ≤ 8
 nd : ns.Nodup
 nm : ∀ x ∈ ns,Nm x
theorem NmL.def_not {ns : List ByteArray} (h : NmL ns) : Ie.DEF ∉ ns:=fun hm => (h.nm _ hm).df rfl
theorem NmL.defs {ns : List ByteArray} (h : NmL ns) {s : Nat} (hs : s < 2 ^ ns.length) : Wo.defsE ns (s : Int) = 0 ∧ Wo.defsL ns (s : Int) = Pm.names ns s:=by
 have hok : Wo.DefsOk ns (s : Int):=⟨h.len,by omega,by
  have : ((s : Nat) : Int) < ((2 ^ ns.length : Nat) : Int):=by omega
  simpa using this⟩
 unfold Wo.defsE Wo.defsL
 rw [if_pos hok,if_pos hok]
 exact ⟨rfl,by unfold Wo.dfs Pm.names; rw [Int.toNat_natCast]⟩
theorem NmL.sub {ns : List ByteArray} (h : NmL ns) (s : Nat) : (Pm.names ns s).length ≤ 8 ∧ (Pm.names ns s).Nodup ∧ ∀ x ∈ Pm.names ns s,Nm x:=by
 refine ⟨Nat.le_trans (Wo.dfsK_len ns s ns.length) h.len,?_,fun x hx => ?_⟩
 ·unfold Pm.names Wo.dfsK
  refine List.Pairwise.filterMap _ ?_ (List.nodup_range (n:=ns.length))
  intro i j hij x hx y hy e
  subst e
  cases h1 : s.testBit i with
  | false => simp [h1] at hx
  | true =>
   cases h2 : s.testBit j with
   | false => simp [h2] at hy
   | true =>
    simp [h1] at hx
    simp [h2] at hy
    obtain ⟨p1,q1⟩:=List.getElem?_eq_some_iff.1 hx
    obtain ⟨p2,q2⟩:=List.getElem?_eq_some_iff.1 hy
    exact hij ((List.getElem_inj h.nd).1 (q1.trans q2.symm))
 ·obtain ⟨i, -,hi⟩:=Pm.mem_names.1 hx
  exact h.nm x (List.mem_of_getElem? hi)
theorem Tb.of {l m : List K} (h : Tb l) (h1 : m.length ≤ l.length) (h2 : ∀ t ∈ m,(∃ u ∈ l,t.text.size ≤ u.text.size) ∨ t.text.size ≤ 1) : Tb m :=
 ⟨Nat.le_trans h1 h.1,fun t ht => by
  rcases h2 t ht with ⟨u,hu,e⟩ | e
  ·exact Nat.le_trans e (h.2 u hu)
  ·omega⟩
theorem subL_ok (ds : List ByteArray) (m : List K) (h : Tb m) : Tb (Pm.subL ds m):=h.of (Pm.subL_len ds m).1 (Pm.subL_len ds m).2
def questV (p : Nat) (nv tv : Value) (x : Nat) : Value:=.agg #[.pointer (some ⟨p,0,none⟩),nv,tv, .int .i64 (x : Int)]
theorem value_any (p x s : Nat) (nv tv : Value) (ns : List ByteArray) (l : List K) (w : World) (hn : Sts w nv ns) (ht : Ks w tv l) (hG : Gv w) (hN : NmL ns) (hs : s < 2 ^ ns.length) (hT : Tb l) (hl : l.length ≤ 1000) :
  Calls Tryz.prog 70 #[questV p nv tv x, .int .i64 (s : Int)] w fun e w' => e = .returned (.tuple #[.int .i64 (Pm.value (Pm.names ns s) l).1, .int .i64 (Pm.value (Pm.names ns s) l).2]) ∧ Below w.heap.size w w':=by
 obtain ⟨nad,ncap,rfl,nc1,nc2, -⟩:=id hn
 obtain ⟨tad,tcap,rfl,tc1,tc2, -⟩:=id ht
 have hD:=hN.defs hs
 obtain ⟨hS1,hS2,hS3⟩:=hN.sub s
 obtain ⟨R,hR⟩ : ∃ R,R = Pm.value (Pm.names ns s) l:=⟨_,rfl⟩
 rw [← hR]
 unfold Pm.value at hR
 generalize Pm.names ns s = ds at hD hS1 hS2 hS3 hR
 have hB0 : Below w.heap.size w (w.alloc (.cells #[.pointer (some ⟨p,0,none⟩), .slice nad ns.length ncap, .slice tad l.length tcap, .int .i64 (x : Int)] 86)):=(Below.refl _ w).alloc (Nat.le_refl _) _
 have KD:=Lib.hid (wdefs_any _ ns (s : Int) _ (hn.below hB0))
 rw [hD.1,hD.2] at KD
 have HK:=Lib.hid (ht.below hB0)
 have HG:=Lib.hid (hG.later hB0)
 have hbx:=heap_alloc_new w (.cells #[.pointer (some ⟨p,0,none⟩), .slice nad ns.length ncap, .slice tad l.length tcap, .int .i64 (x : Int)] 86)
 have HBX:=Lib.hid hbx
 have HB0:=Lib.hid hB0
 have HR:=Lib.hid hR
 have HS2:=Lib.hid hS2
 have HS3:=Lib.hid hS3
 have HT:=Lib.hid hT
 obtain ⟨N,hNN⟩ : ∃ N,N = ns.length:=⟨_,rfl⟩
 obtain ⟨L,hLL⟩ : ∃ L,L = l.length:=⟨_,rfl⟩
 have HLL:=Lib.hid hLL
 rw [← hNN] at KD HBX HB0 HK HG nc1 ⊢
 rw [← hLL] at KD HBX HB0 HK HG tc1 hl ⊢
 clear hn ht hG hN hs hT hD hR hB0 hbx hS2 hS3 hLL hNN
 unfold questV
 go_enter Tryz.func70,Tryz.ntmps70
 go_wp2_with fail
 refine KD.out.mono ?_
 rintro e w2 ⟨du,rfl,hdu,hB2⟩
 have hbx2:=(hB2.block _ (lt_of_heap HBX.out)).trans HBX.out
 have q2 : w2.cell? ⟨w.heap.size,2,none⟩ = some (.slice tad L tcap):=(Lib.cell_of_heap hbx2 2).trans rfl
 have KE:=Lib.hid (idef_any (.slice tad L tcap) du l ds w2 (HK.out.below hB2) HT.out hdu (by omega) (fun z hz => by have:=(HS3.out z hz).sz; unfold maxLen; omega))
 have HDU:=Lib.hid hdu
 have HB2:=Lib.hid (Below.then HB0.out hB2)
 have HG2:=Lib.hid (HG.out.later hB2)
 clear hdu hB2 hbx2
 go_wp2_with fail
 refine KE.out.mono ?_
 rintro e w3 ⟨lv,er,m,rfl,hm,hB3,hcase⟩
 have HB3:=Lib.hid (Below.then HB2.out hB3)
 have HG3:=Lib.hid (HG2.out.later hB3)
 have HM:=Lib.hid hm
 have HDU3:=Lib.hid (HDU.out.below hB3)
 clear hm hB3 q2
 rcases hcase with ⟨h1,rfl, -⟩ | ⟨h1,rfl⟩
 ·have hr:=HR.out
  rw [h1] at hr
  have HR2:=Lib.hid hr
  clear hr h1
  go_wp2_with fail
  rw [HR2.out]
  go_ret2
  exact ⟨rfl,HB3.out⟩
 ·have hr:=HR.out
  rw [h1] at hr
  have HR2:=Lib.hid hr
  obtain ⟨h2,h3⟩:=Pm.defd_len _ _ _ h1
  have hTm:=HT.out.of h2 h3
  have HTM:=Lib.hid hTm
  rw [← HLL.out] at h2
  have KF:=Lib.hid (ufirst_any du ds w3 HDU3.out HG3.out.1 hS1 HS2.out HS3.out)
  have HMS:=Lib.hid (subL_ok ds m hTm)
  have HM2:=Lib.hid h2
  obtain ⟨mad,mcap,rfl, -⟩:=id HM.out
  clear hr h1 h2 h3 hTm
  go_wp2_with fail
  refine KF.out.mono ?_
  rintro e w4 ⟨mv,rfl,hmv,hB4⟩
  have HB4:=Lib.hid (Below.then HB3.out hB4)
  have HG4:=Lib.hid (HG3.out.later hB4)
  have KX:=Lib.hid (esub_any mv _ ds m w4 hmv (HM.out.below hB4) HG4.out.1 (by omega) (by have:=HM2.out; omega) (fun t ht => (HTM.out.2 t ht)))
  clear hmv hB4
  go_wp2_with fail
  refine KX.out.mono ?_
  rintro e w5 ⟨xv,rfl,hxv,hB5⟩
  have HB5:=Lib.hid (Below.then HB4.out hB5)
  have KV:=Lib.hid (ieval_any inumber_any iquote_any xv _ w5 (HG4.out.later hB5) hxv HMS.out)
  clear hxv hB5
  go_wp2_with fail
  refine KV.out.mono ?_
  rintro e w6 ⟨rfl,hB6⟩
  have HB6:=Lib.hid (Below.then HB5.out hB6)
  clear hB6
  go_wp2_with fail
  rw [HR2.out]
  go_ret2
  exact ⟨rfl,HB6.out⟩
end
end Go.Proofs.YthekfpgegiffoaaGreatDoor
