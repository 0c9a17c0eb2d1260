/- Plain: a conditional with an Else: its lines, its tree; each set that reads it reads just one branch. (and what stands with it) -/
import Derived.Test.YthekfpgegiffoaaGreatDoorQw
import Derived.Test.YthekfpgegiffoaaGreatDoorQc
import Derived.Test.YthekfpgegiffoaaGreatDoorQza
import Derived.Test.YthekfpgegiffoaaGreatDoorQz
set_option linter.unusedSimpArgs false
set_option linter.unusedVariables false
set_option maxHeartbeats 16000000
set_option maxRecDepth 100000
namespace Go.Proofs.YthekfpgegiffoaaGreatDoor
section
namespace Pz
open Lx
abbrev A3:=Nat × List UInt8 × Bool
def begA : List A3 → Int
  | [] => 1
  | t :: r => if t.1 = 5 ∧ t.2.1 = [35] then (match r with
      | [] => 14
      | u :: _ => if u.1 = 1 ∧ Dx.kindOf ⟨u.2.1.toArray⟩ ≠ 0 then Dx.kindOf ⟨u.2.1.toArray⟩ else 15) else 1
theorem begA_cons (t : A3) (r : List A3) : begA (t :: r) = if t.1 = 5 ∧ t.2.1 = [35] then (match r with
      | [] => 14
      | u :: _ => if u.1 = 1 ∧ Dx.kindOf ⟨u.2.1.toArray⟩ ≠ 0 then Dx.kindOf ⟨u.2.1.toArray⟩ else 15) else 1:=rfl
theorem sign_al (f : Int) (t : Lx.T) : Dx.isSign (ofT f t) ⟨#[35]⟩ = decide (t.kind = 5 ∧ t.text = [35]):=by
  by_cases hk : t.kind = 5 ∧ t.text = [35]
  · rw [decide_eq_true hk]
    unfold Dx.isSign ofT
    simp [hk.1,hk.2]
  · rw [decide_eq_false hk]
    unfold Dx.isSign ofT
    rw [Bool.and_eq_false_iff]
    by_cases h5 : t.kind = 5
    · refine .inr (decide_eq_false fun e => hk ⟨h5,?_⟩)
      have:=congrArg (fun b : ByteArray => b.data.toList) e
      simpa using this
    · refine .inl (beq_eq_false_iff_ne.2 fun e => h5 ?_)
      have e : (t.kind : Int) = 5:=e
      omega
theorem beg_al (f : Int) (ts : List Lx.T) : (Dx.begins (ts.map (ofT f))).1 = begA (ts.map al):=by
  cases ts with
  | nil => rfl
  | cons t r =>
    have h:=sign_al f t
    rw [List.map_cons,List.map_cons]
    by_cases hk : t.kind = 5 ∧ t.text = [35]
    · rw [decide_eq_true hk] at h
      cases r with
      | nil =>
        rw [List.map_nil,Dx.begins_one _ h,begA_cons,if_pos (show (al t).1 = 5 ∧ (al t).2.1 = [35] from hk)]
        rfl
      | cons u r =>
        rw [List.map_cons,Dx.begins_two _ _ _ h,begA_cons,if_pos (show (al t).1 = 5 ∧ (al t).2.1 = [35] from hk),List.map_cons]
        show (if ((u.kind : Int) = 1 ∧ Dx.kindOf ⟨u.text.toArray⟩ ≠ 0) then _ else _ : Int × Nat).1 = if (u.kind = 1 ∧ Dx.kindOf ⟨u.text.toArray⟩ ≠ 0) then Dx.kindOf ⟨u.text.toArray⟩ else 15
        by_cases hu : u.kind = 1 ∧ Dx.kindOf ⟨u.text.toArray⟩ ≠ 0
        · rw [if_pos hu,if_pos ⟨by omega,hu.2⟩]
          rfl
        · rw [if_neg hu,if_neg (fun e => hu ⟨by have:=e.1; omega,e.2⟩)]
    · rw [decide_eq_false hk] at h
      rw [Dx.begins_no _ _ h,begA_cons,if_neg (show ¬ ((al t).1 = 5 ∧ (al t).2.1 = [35]) from hk)]
def lkA : List A3 → List A3 → List Int
  | acc,[] => if acc = [] then [] else [begA acc]
  | acc,t :: r => if t.1 = 7 then begA acc :: lkA [] r else lkA (acc ++ [t]) r
theorem lkA_nil (acc : List A3) : lkA acc [] = if acc = [] then [] else [begA acc]:=rfl
theorem lkA_cons (acc : List A3) (t : A3) (r : List A3) : lkA acc (t :: r) = if t.1 = 7 then begA acc :: lkA [] r else lkA (acc ++ [t]) r:=rfl
theorem lk_cuts (f : Int) (l : List Lx.T) : ∀ (r : List Lx.T) (b k : Nat),b ≤ k → k ≤ l.length → l.drop k = r → (Dx.cuts b k (r.map (ofT f))).map (fun c => (Dx.lnOf (l.map (ofT f)) c).kind) = lkA (((l.drop b).take (k - b)).map al) (r.map al):=by
  have hkind : ∀ c : Nat × Nat,(Dx.lnOf (l.map (ofT f)) c).kind = begA (((l.drop c.1).take c.2).map al):=by
    intro c
    show (Dx.begins (((l.map (ofT f)).drop c.1).take c.2)).1 = _
    rw [← List.map_drop,← List.map_take,beg_al]
  intro r
  induction r with
  | nil =>
    intro b k hb hk hd
    have hl : k = l.length:=by
      have:=congrArg List.length hd
      simp at this
      omega
    rw [List.map_nil,List.map_nil,lkA_nil]
    unfold Dx.cuts
    by_cases h : b < k
    · rw [if_pos h,if_neg (fun e => ?_),List.map_cons,List.map_nil,hkind]
      have:=congrArg List.length e
      simp at this
      omega
    · have e0 : k - b = 0:=by omega
      rw [if_neg h,if_pos (by rw [e0]; rfl)]
      rfl
  | cons t r ih =>
    intro b k hb hk hd
    have hlt : k < l.length:=by
      have:=congrArg List.length hd
      simp at this
      omega
    have hd2 : l.drop (k + 1) = r:=by
      rw [← List.tail_drop,hd]
      rfl
    have hat : l[k]? = some t:=by
      have:=congrArg (fun x => x[0]?) hd
      simpa using this
    rw [List.map_cons,List.map_cons,lkA_cons]
    unfold Dx.cuts
    by_cases h7 : t.kind = 7
    · rw [if_pos (show (ofT f t).kind = 7 from (by show (t.kind : Int) = 7; omega)),if_pos (show (al t).1 = 7 from h7),List.map_cons,hkind,ih (k + 1) (k + 1) (Nat.le_refl _) hlt hd2]
      rw [Nat.sub_self,List.take_zero,List.map_nil]
    · rw [if_neg (show ¬ (ofT f t).kind = 7 from (by show ¬ (t.kind : Int) = 7; omega)),if_neg (show ¬ (al t).1 = 7 from h7),ih b (k + 1) (by omega) hlt hd2]
      congr 1
      rw [show k + 1 - b = (k - b) + 1 by omega,List.take_add_one,List.getElem?_drop,show b + (k - b) = k by omega,hat]
      simp
theorem lk_app : ∀ (A acc : List A3) (x : List UInt8) (q : Bool) (R : List A3),(∀ t ∈ A,t.1 ≠ 7) → lkA acc (A ++ (7,x,q) :: R) = begA (acc ++ A) :: lkA [] R:=by
  intro A
  induction A with
  | nil =>
    intro acc x q R _
    rw [List.nil_append,List.append_nil]
    rw [lkA_cons,if_pos rfl]
  | cons t A ih =>
    intro acc x q R h
    rw [List.cons_append]
    rw [lkA_cons,if_neg (h t (by simp)),ih _ _ _ _ (fun u hu => h u (by simp [hu]))]
    rw [List.append_assoc]
    rfl
theorem no7 : ∀ (p : Bool) (u : List UInt8),10 ∉ u → ∀ t ∈ tb p u,t.1 ≠ 7:=by
  refine tbInd ?_ ?_ ?_
  · intro p _ t ht
    rw [tb_nil] at ht
    cases ht
  · intro p u hb ih hu
    rw [tb_blank p u hb]
    exact ih fun e => hu (List.mem_of_mem_drop e)
  · intro p u hne hb ih hu
    rw [tb_tok p u hne hb]
    intro t ht
    rcases List.mem_cons.1 ht with rfl | ht
    · show (first u).1 ≠ 7
      cases u with
      | nil => exact absurd rfl hne
      | cons c r =>
        have hc : ¬ c = 10:=fun e => hu (by simp [e])
        rw [first_cons,if_neg hc]
        repeat' split
        all_goals simp
    · exact ih (fun e => hu (List.mem_of_mem_drop e)) t ht
theorem line_one (u v : List UInt8) (k : Int) (h10 : 10 ∉ u) (h47 : ∀ c ∈ u,c ≠ 47) (hk : begA (tb false u) = k) : lkA [] (tb false (u ++ 10 :: v)) = k :: lkA [] (tb false v):=by
  obtain ⟨q,hq⟩:=tb_line v false u h47
  rw [hq,lk_app _ _ _ _ _ (no7 false u h10),List.nil_append,hk]
def wIf : List UInt8:=[35,105,102,32]
def wElif : List UInt8:=[35,101,108,105,102,32]
def tail : List UInt8:=[35,101,108,115,101,10,120,10,35,101,110,100,105,102,10]
def txt : Bool → List (List UInt8) → List UInt8
  | _,[] => tail
  | b,c :: r => (if b then wIf else wElif) ++ c ++ (10 :: 120 :: 10 :: txt false r)
def kn : Bool → Nat → List Int
  | _,0 => [6,1,7]
  | b,n + 1 => (if b then 2 else 5) :: 1 :: kn false n
theorem beg_if (c : List UInt8) : begA (tb false (wIf ++ c)) = 2:=by
  have b1 : blankLen (35 :: 105 :: 102 :: 32 :: c) = 0:=by rw [blank_noslash _ _ (by decide)]; decide
  have f1 : first (35 :: 105 :: 102 :: 32 :: c) = (5,1):=by kernel_rfl
  have b2 : blankLen (105 :: 102 :: 32 :: c) = 0:=by rw [blank_noslash _ _ (by decide)]; decide
  have f2 : first (105 :: 102 :: 32 :: c) = (1,2):=by kernel_rfl
  show begA (tb false (35 :: 105 :: 102 :: 32 :: c)) = 2
  rw [tb_tok false _ (by simp) b1,f1]
  show begA ((5,[35],false) :: tb false (105 :: 102 :: 32 :: c)) = 2
  rw [tb_tok false _ (by simp) b2,f2]
  show (if (1 : Nat) = 1 ∧ Dx.kindOf ⟨#[105,102]⟩ ≠ 0 then Dx.kindOf ⟨#[105,102]⟩ else 15) = 2
  have hk : Dx.kindOf ⟨#[105,102]⟩ = 2:=Dx.kind_hit 0 (by omega)
  rw [hk]
  rfl
theorem beg_elif (c : List UInt8) : begA (tb false (wElif ++ c)) = 5:=by
  have b1 : blankLen (35 :: 101 :: 108 :: 105 :: 102 :: 32 :: c) = 0:=by rw [blank_noslash _ _ (by decide)]; decide
  have f1 : first (35 :: 101 :: 108 :: 105 :: 102 :: 32 :: c) = (5,1):=by kernel_rfl
  have b2 : blankLen (101 :: 108 :: 105 :: 102 :: 32 :: c) = 0:=by rw [blank_noslash _ _ (by decide)]; decide
  have f2 : first (101 :: 108 :: 105 :: 102 :: 32 :: c) = (1,4):=by kernel_rfl
  show begA (tb false (35 :: 101 :: 108 :: 105 :: 102 :: 32 :: c)) = 5
  rw [tb_tok false _ (by simp) b1,f1]
  show begA ((5,[35],false) :: tb false (101 :: 108 :: 105 :: 102 :: 32 :: c)) = 5
  rw [tb_tok false _ (by simp) b2,f2]
  show (if (1 : Nat) = 1 ∧ Dx.kindOf ⟨#[101,108,105,102]⟩ ≠ 0 then Dx.kindOf ⟨#[101,108,105,102]⟩ else 15) = 5
  have hk : Dx.kindOf ⟨#[101,108,105,102]⟩ = 5:=Dx.kind_hit 3 (by omega)
  rw [hk]
  rfl
theorem beg_x : begA (tb false [120]) = 1:=by kernel_rfl
theorem beg_else : begA (tb false [35,101,108,115,101]) = 6:=by kernel_rfl
theorem beg_endif : begA (tb false [35,101,110,100,105,102]) = 7:=by kernel_rfl
def Fine (c : List UInt8) : Prop:=∀ b ∈ c,b ≠ 10 ∧ b ≠ 92 ∧ b ≠ 47
theorem kinds_txt : ∀ (cs : List (List UInt8)) (b : Bool),(∀ c ∈ cs,Fine c) → lkA [] (tb false (txt b cs)) = kn b cs.length
  | [],b,_ => by
    have e : txt b [] = [35,101,108,115,101] ++ 10 :: ([120] ++ 10 :: ([35,101,110,100,105,102] ++ 10 :: [])):=by
      cases b <;> decide
    rw [e,line_one [35,101,108,115,101] _ 6 (by decide) (by decide) beg_else,line_one [120] _ 1 (by decide) (by decide) beg_x,line_one [35,101,110,100,105,102] _ 7 (by decide) (by decide) beg_endif,tb_nil]
    rfl
  | c :: r,b,h => by
    have hc:=h c (by simp)
    have ih:=kinds_txt r false fun x hx => h x (by simp [hx])
    show lkA [] (tb false ((if b then wIf else wElif) ++ c ++ 10 :: ([120] ++ 10 :: txt false r))) = (if b then 2 else 5) :: 1 :: kn false r.length
    have m10 : 10 ∉ (if b then wIf else wElif) ++ c:=fun e => by
      rcases List.mem_append.1 e with e | e
      · cases b <;> exact absurd e (by decide)
      · exact (hc 10 e).1 rfl
    have m47 : ∀ x ∈ (if b then wIf else wElif) ++ c,x ≠ 47:=fun x e => by
      rcases List.mem_append.1 e with e | e
      · rintro rfl
        cases b <;> exact absurd e (by decide)
      · exact (hc x e).2.2
    rw [line_one _ _ (if b then 2 else 5) m10 m47 (by cases b with | true => exact beg_if c | false => exact beg_elif c),line_one _ _ 1 (by decide) (by decide) beg_x,ih]
theorem adj_mem92 : ∀ (w : List UInt8),adj w → 92 ∈ w
  | [],h => h.elim
  | [_],h => h.elim
  | c :: d :: r,h => by
    rcases h with h | h
    · rw [h.1]; simp
    · exact List.mem_cons_of_mem _ (adj_mem92 (d :: r) h)
theorem txt_mem : ∀ (cs : List (List UInt8)) (b : Bool),(∀ c ∈ cs,Fine c) → 92 ∉ txt b cs
  | [],b,_ => by
    show 92 ∉ tail
    decide
  | c :: r,b,h => by
    have ih:=txt_mem r false fun x hx => h x (by simp [hx])
    intro e
    unfold txt at e
    rcases List.mem_append.1 e with e | e
    · rcases List.mem_append.1 e with e | e
      · cases b <;> exact absurd e (by decide)
      · exact (h c (by simp) 92 e).2.1 rfl
    · rcases List.mem_cons.1 e with e | e
      · exact absurd e (by decide)
      · rcases List.mem_cons.1 e with e | e
        · exact absurd e (by decide)
        · rcases List.mem_cons.1 e with e | e
          · exact absurd e (by decide)
          · exact ih e
theorem kinds_lines (s : ByteArray) (cs : List (List UInt8)) (h : ∀ c ∈ cs,Fine c) (hs : s.data.toList = txt true cs) : (linesOf s).map (·.kind) = kn true cs.length:=by
  unfold linesOf Dx.lines toksOf
  rw [List.map_map]
  have h1:=lk_cuts 0 (tk false (Sp.left 0 s.data.toList)) _ 0 0 (Nat.le_refl _) (Nat.zero_le _) (List.drop_zero)
  refine h1.trans ?_
  rw [Nat.sub_self,List.take_zero,List.map_nil,tk_al,left_noadj _ (fun e => ?_),hs]
  · exact kinds_txt cs true h
  · rw [hs] at e
    exact txt_mem cs true h (adj_mem92 _ e)
theorem kn_length : ∀ (n : Nat) (b : Bool),(kn b n).length = 2 * n + 3
  | 0,_ => rfl
  | n + 1,b => by
    show (kn false n).length + 1 + 1 = _
    rw [kn_length n false]
    omega
theorem kn_part : ∀ (n : Nat) (b : Bool) (k : Nat),k < n → (kn b n)[2 * k]? = some 2 ∨ (kn b n)[2 * k]? = some 5
  | n + 1,b,0,_ => by cases b; exact .inr rfl; exact .inl rfl
  | n + 1,b,k + 1,h => by
    have:=kn_part n false k (by omega)
    rw [show 2 * (k + 1) = 2 * k + 1 + 1 by omega]
    exact this
theorem kn_else : ∀ (n : Nat) (b : Bool),(kn b n)[2 * n]? = some 6
  | 0,_ => rfl
  | n + 1,b => by
    rw [show 2 * (n + 1) = 2 * n + 1 + 1 by omega]
    exact kn_else n false
def pre : Bool → List (List UInt8) → List UInt8
  | _,[] => []
  | b,c :: r => (if b then wIf else wElif) ++ c ++ [10,120,10] ++ pre false r
theorem pre_snoc : ∀ (l : List (List UInt8)) (b : Bool) (c : List UInt8),pre b (l ++ [c]) = pre b l ++ (if b && l.isEmpty then wIf else wElif) ++ c ++ [10,120,10]
  | [],b,c => by cases b <;> simp [pre]
  | x :: r,b,c => by
    show (if b then wIf else wElif) ++ x ++ [10,120,10] ++ pre false (r ++ [c]) = (if b then wIf else wElif) ++ x ++ [10,120,10] ++ pre false r ++ (if b && false then wIf else wElif) ++ c ++ [10,120,10]
    rw [pre_snoc r false c]
    simp
theorem pre_tail : ∀ (l : List (List UInt8)) (b : Bool),pre b l ++ tail = txt b l
  | [],_ => rfl
  | c :: r,b => by
    have:=pre_tail r false
    show ((if b then wIf else wElif) ++ c ++ [10,120,10] ++ pre false r) ++ tail = (if b then wIf else wElif) ++ c ++ (10 :: 120 :: 10 :: txt false r)
    rw [← this]
    simp
theorem pre_length : ∀ (l : List (List UInt8)) (b : Bool),(∀ c ∈ l,c.length ≤ 60) → (pre b l).length ≤ 69 * l.length
  | [],_,_ => Nat.le_refl _
  | c :: r,b,h => by
    have h1:=pre_length r false fun x hx => h x (by simp [hx])
    have h2:=h c (by simp)
    have h3 : (if b then wIf else wElif).length ≤ 6:=by cases b <;> decide
    show ((if b then wIf else wElif) ++ c ++ [10,120,10] ++ pre false r).length ≤ 69 * (r.length + 1)
    simp only [List.length_append,List.length_cons,List.length_nil]
    omega
open Cnd.Ct Cnd.Ct.T
def br : Nat → Nat → Cnd.Ct.T
  | k,0 => cons (2 * k) 0 (cons (2 * k + 1) (2 * k + 1) nil nil) nil
  | k,m + 1 => cons (2 * k) 0 (cons (2 * k + 1) (2 * k + 1) nil nil) (br (k + 1) m)
theorem parse_kn (n : Nat) (h1 : 1 ≤ n) (h6 : n ≤ 6) : parse (kn true n) = (cons 0 (2 * n + 2) (br 0 n) nil,0,0):=by
  rcases (show n = 1 ∨ n = 2 ∨ n = 3 ∨ n = 4 ∨ n = 5 ∨ n = 6 by omega) with rfl | rfl | rfl | rfl | rfl | rfl <;> rfl
open Pm
theorem cond_sub {ns : List ByteArray} {k : Int} {l : List K} {A Q : Ss} (h : Pm.cond ns k l A = .ok Q) (s : Nat) : Q s = true → A s = true:=by
  unfold Pm.cond at h
  repeat' split at h
  all_goals first
    | (cases h; done)
    | (injection h with h
       subst h
       intro e
       first
         | exact e
         | (simp only [Bool.and_eq_true] at e; exact e.1)
         | cases e)
theorem cond_else {ns : List ByteArray} {l : List K} {A Q : Ss} (h : Pm.cond ns 6 l A = .ok Q) (s : Nat) (hs : s < 2 ^ ns.length) : Q s = A s:=by
  unfold Pm.cond at h
  rw [if_neg (by omega)] at h
  split at h
  · rename_i hn
    injection h with h
    subst h
    have:=List.all_eq_true.1 hn s (List.mem_range.2 hs)
    simpa using this.symm
  · rw [if_pos rfl] at h
    injection h with h
    rw [h]
def cf (N : Nn) (s : Nat) : Nat → Nat → Nat
  | _,0 => 0
  | k,m + 1 => (if N (2 * k + 1) s then 1 else 0) + cf N s (k + 1) m
theorem cf_snoc (N : Nn) (s : Nat) : ∀ (m k : Nat),cf N s k (m + 1) = cf N s k m + (if N (2 * (k + m) + 1) s then 1 else 0)
  | 0,k => by simp [cf]
  | m + 1,k => by
    have:=cf_snoc N s m (k + 1)
    rw [cf,this,cf,show k + 1 + m = k + (m + 1) by omega]
    omega
theorem put_same (N : Nn) (i : Nat) (A : Ss) : put N i A i = A:=if_pos rfl
theorem put_other (N : Nn) {i j : Nat} (A : Ss) (h : j ≠ i) : put N i A j = N j:=if_neg h
theorem walk_line (ns : List ByteArray) (ls : List Ln) (k : Nat) (A L : Ss) (N : Nn) : walk ns ls true (cons k k nil nil) A L N = .ok (put N k A):=rfl
theorem walk_one (ns : List ByteArray) (ls : List Ln) (A : Ss) : ∀ (m k : Nat) (L : Ss) (N N' : Nn),(∀ i,i < m → (line ls (2 * (k + i))).kind = 2 ∨ (line ls (2 * (k + i))).kind = 5) → (line ls (2 * (k + m))).kind = 6 → walk ns ls false (br k m) A L N = .ok N' →
    (∀ j,j < 2 * k → N' j = N j) ∧ ∀ s,s < 2 ^ ns.length → cf N' s k (m + 1) = if L s then 1 else 0
  | 0,k,L,N,N',_,h6,h => by
    rw [show k + 0 = k from rfl] at h6
    unfold br at h
    rw [walk_br,h6] at h
    cases hc : Pm.cond ns 6 (line ls (2 * k)).toks L with
    | error e => rw [hc] at h; cases h
    | ok Q =>
      rw [hc] at h
      dsimp only at h
      rw [walk_line] at h
      injection h with h
      subst h
      refine ⟨fun j hj => ?_,fun s hs => ?_⟩
      · rw [put_other _ _ (by omega),put_other _ _ (by omega)]
      · show (if put _ _ _ _ s = true then 1 else 0) + 0 = _
        rw [put_same,cond_else hc s hs]
        rfl
  | m + 1,k,L,N,N',hp,h6,h => by
    unfold br at h
    rw [walk_br] at h
    cases hc : Pm.cond ns (line ls (2 * k)).kind (line ls (2 * k)).toks L with
    | error e => rw [hc] at h; cases h
    | ok Q =>
      rw [hc] at h
      dsimp only at h
      rw [walk_line] at h
      dsimp only at h
      obtain ⟨i1,i2⟩:=walk_one ns ls A m (k + 1) _ _ N' (fun i hi => by have:=hp (i + 1) (by omega); rwa [show k + (i + 1) = k + 1 + i by omega] at this) (by rwa [show k + (m + 1) = k + 1 + m by omega] at h6) h
      refine ⟨fun j hj => ?_,fun s hs => ?_⟩
      · rw [i1 j (by omega),put_other _ _ (by omega),put_other _ _ (by omega)]
      · rw [cf,i2 s hs,i1 (2 * k + 1) (by omega),put_same]
        have hsub:=cond_sub hc s
        cases hq : Q s with
        | true => rw [hsub hq]; rfl
        | false => cases L s <;> rfl
theorem one_of (ns : List ByteArray) (s : ByteArray) (cs : List (List UInt8)) (h1 : 1 ≤ cs.length) (h6 : cs.length ≤ 6) (h : ∀ c ∈ cs,Fine c) (hs : s.data.toList = txt true cs) : (linesOf s).length = 2 * cs.length + 3 ∧ ∀ N,Pm.lines ns (linesOf s) = .ok N → ∀ x,x < 2 ^ ns.length → cf N x 0 (cs.length + 1) = 1:=by
  have hk:=kinds_lines s cs h hs
  have hl : (linesOf s).length = 2 * cs.length + 3:=by
    rw [← kn_length cs.length true,← hk,List.length_map]
  have hat : ∀ i x,(kn true cs.length)[i]? = some x → (line (linesOf s) i).kind = x:=by
    intro i x hx
    rw [← hk,List.getElem?_map] at hx
    obtain ⟨y,hy,rfl⟩:=Option.map_eq_some_iff.1 hx
    unfold line
    rw [List.getD_eq_getElem?_getD,hy]
    rfl
  refine ⟨hl,fun N hN x hx => ?_⟩
  unfold Pm.lines at hN
  rw [hk,parse_kn _ h1 h6,if_pos rfl] at hN
  dsimp only at hN
  rw [walk_it] at hN
  cases hw : walk ns (linesOf s) false (br 0 cs.length) all all (put zero (2 * cs.length + 2) all) with
  | error e => rw [hw] at hN; cases hN
  | ok N1 =>
    rw [hw] at hN
    have e : N1 = N:=by injection hN
    subst e
    exact (walk_one ns (linesOf s) all cs.length 0 all _ N1 (fun i hi => by
      rw [Nat.zero_add]
      rcases kn_part cs.length true i hi with e | e
      · exact .inl (hat _ _ e)
      · exact .inr (hat _ _ e)) (by rw [Nat.zero_add]; exact hat _ _ (kn_else cs.length true)) hw).2 x hx
end Pz
end
section
open Go.RowKit Go.Shelf
open Bdd (Ar Nd Keep TellsN)
def Okc (cs : List ByteArray) (k : Nat) : Prop:=∀ c ∈ cs.take k,c.size ≤ 60 ∧ Pz.Fine c.data.toList
theorem Okc.zero (cs : List ByteArray) : Okc cs 0:=fun c h => by rw [List.take_zero] at h; cases h
theorem Okc.step {cs : List ByteArray} {k : Nat} {x : ByteArray} (h : Okc cs k) (hx : cs[k]? = some x) (h1 : x.size ≤ 60) (h2 : Pz.Fine x.data.toList) : Okc cs (k + 1):=by
 obtain ⟨hk,e⟩:=List.getElem?_eq_some_iff.1 hx
 intro c hc
 rw [List.take_succ_eq_append_getElem hk,e] at hc
 rcases List.mem_append.1 hc with hc | hc
 ·exact h c hc
 ·obtain rfl:=List.mem_singleton.1 hc
  exact ⟨h1,h2⟩
theorem fine_step (x : ByteArray) (j : Nat) (h : j < x.size) (hF : Pz.Fine (x.data.toList.take j)) (d1 : ((x[j].toNat : Int) == 10) = false) (d2 : ((x[j].toNat : Int) == 92) = false) (d3 : ((x[j].toNat : Int) == 47) = false) : Pz.Fine (x.data.toList.take (j + 1)):=by
 have hl : j < x.data.toList.length:=by rw [size_list]; exact h
 have e : x.data.toList[j] = x[j]:=rfl
 rw [List.take_succ_eq_append_getElem hl,e]
 intro b hb
 rcases List.mem_append.1 hb with hb | hb
 ·exact hF b hb
 ·have hb:=List.mem_singleton.1 hb
  have n : ∀ k : Nat,((x[j].toNat : Int) == (k : Int)) = false → b.toNat ≠ k:=fun k hk e => by
   rw [hb] at e
   rw [e] at hk
   simp at hk
  exact ⟨fun e => n 10 d1 (by rw [e]; rfl),fun e => n 92 d2 (by rw [e]; rfl),fun e => n 47 d3 (by rw [e]; rfl)⟩
theorem cf_le (N : Pm.Nn) (s : Nat) : ∀ (m k : Nat),Pz.cf N s k m ≤ m
 | 0,_ => Nat.le_refl _
 | m + 1,k => by
  have:=cf_le N s m (k + 1)
  unfold Pz.cf
  split <;> omega
theorem cf_next (N : Pm.Nn) (s k : Nat) : Pz.cf N s 0 (k + 1) = Pz.cf N s 0 k + (if N (2 * k + 1) s then 1 else 0):=by
 rw [Pz.cf_snoc,Nat.zero_add]
def soFar (cs : List ByteArray) (k : Nat) : ByteArray:=⟨(Pz.pre true ((cs.take k).map fun c => c.data.toList)).toArray⟩
theorem soFar_step {cs : List ByteArray} {k : Nat} {x : ByteArray} (hx : cs[k]? = some x) : soFar cs (k + 1) = (if k = 0 then ⟨#[35,105,102,32]⟩ else soFar cs k ++ ⟨#[35,101,108,105,102,32]⟩) ++ x ++ ⟨#[10,120,10]⟩:=by
 obtain ⟨hk,e⟩:=List.getElem?_eq_some_iff.1 hx
 have h : ∀ a b : ByteArray,a.data.toList = b.data.toList → a = b:=fun a b h => ByteArray.ext (Array.toList_inj.1 h)
 apply h
 unfold soFar
 rw [List.take_succ_eq_append_getElem hk,e,List.map_append,List.map_cons,List.map_nil,Pz.pre_snoc]
 by_cases h0 : k = 0
 ·subst h0
  simp [Pz.pre,Pz.wIf]
 ·have : ((cs.take k).map fun c => c.data.toList).isEmpty = false:=by
   rw [List.isEmpty_eq_false_iff]
   intro e0
   have:=congrArg List.length e0
   rw [List.length_map,List.length_take,List.length_nil] at this
   omega
  rw [this,if_neg h0]
  simp [Pz.wElif]
theorem soFar_size {cs : List ByteArray} {k : Nat} (h : Okc cs k) (hk : k ≤ 6) : (soFar cs k).size ≤ 414:=by
 unfold soFar
 rw [mk_size]
 have:=Pz.pre_length ((cs.take k).map fun c => c.data.toList) true fun c hc => by
  obtain ⟨x,hx,rfl⟩:=List.mem_map.1 hc
  have:=(h x hx).1
  rwa [← size_list] at this
 have h2 : ((cs.take k).map fun c => c.data.toList).length ≤ 6:=by
  rw [List.length_map,List.length_take]; omega
 omega
theorem whole_one {ns cs : List ByteArray} {C : Nat} (hC : C = cs.length) (h1 : 1 ≤ C) (h6 : C ≤ 6) (h : Okc cs C) (s : ByteArray) (hs : s = soFar cs C ++ ⟨#[35,101,108,115,101,10,120,10,35,101,110,100,105,102,10]⟩) :
  (linesOf s).length = 2 * C + 3 ∧ ∀ N,Pm.lines ns (linesOf s) = .ok N → ∀ x,x < 2 ^ ns.length → Pz.cf N x 0 (C + 1) = 1:=by
 have e : cs.take C = cs:=by rw [hC,List.take_length]
 unfold Okc at h
 unfold soFar at hs
 rw [e] at h hs
 have hl : (cs.map fun c => c.data.toList).length = C:=by rw [List.length_map,hC]
 have:=Pz.one_of ns s (cs.map fun c => c.data.toList) (by omega) (by omega) (fun c hc => by
  obtain ⟨x,hx,rfl⟩:=List.mem_map.1 hc
  exact (h x hx).2) (by
  rw [hs,← Pz.pre_tail]
  simp [Pz.tail])
 rwa [hl] at this
theorem lone_any (nv cv : Value) (ns cs : List ByteArray) (hcz : ∀ x ∈ cs,x.size ≤ maxLen) (w : World) (hG : Gv w) (hn : Sts w nv ns) (hc : Sts w cv cs) : Calls Tryz.prog 5 #[nv,cv] w (TrueB w):=by
 obtain ⟨nad,nc,rfl,nc1,nc2, -⟩:=id hn
 obtain ⟨cad,cc,rfl,cc1,cc2,cx⟩:=id hc
 obtain ⟨v,hv⟩ : ∃ v,v = ns.length:=⟨_,rfl⟩
 obtain ⟨C,hC⟩ : ∃ C,C = cs.length:=⟨_,rfl⟩
 rw [← hv] at hn nc1 ⊢
 rw [← hC] at hc cc1 ⊢
 have KA:=Lib.hid (awake_any w hG)
 have HG:=Lib.hid hG
 have HN:=Lib.hid hn
 have HV:=Lib.hid hv
 have HCx:=Lib.hid cx
 have HCz:=Lib.hid hcz
 have HCc:=Lib.hid hC
 unfold maxLen at nc2 cc2
 clear hG hn hv hc cx hC hcz
 go_enter Tryz.func5,Tryz.ntmps5
 go_wp2_with fail
 refine KA.out.mono ?_
 rintro e w1 ⟨rfl,hb1⟩
 have KR:=Lib.hid (right_any (.slice nad v nc) ns w1 (HN.out.below hb1))
 have HB1:=Lib.hid hb1
 clear hb1 KA
 go_wp2_with fail
 refine KR.out.mono ?_
 rintro e w2 ⟨b,rfl,hgood,hb2⟩
 have HB2:=Lib.hid (Below.then HB1.out hb2)
 clear hb2 KR
 cases b with
 | false =>
  clear hgood
  go_wp2_with fail
  go_ret
  exact ⟨rfl,HB2.out⟩
 | true =>
  have HGd:=Lib.hid (hgood rfl)
  clear hgood
  by_cases c1 : C < 1
  ·have e1 : (C : Int) < 1:=by omega
   go_wp2_with fail
   go_ret
   exact ⟨rfl,HB2.out⟩
  ·have e1 : ¬ (C : Int) < 1:=by omega
   by_cases c6 : 6 < C
   ·have e2 : (6 : Int) < C:=by omega
    go_wp2_with fail
    go_ret
    exact ⟨rfl,HB2.out⟩
   ·have e2 : ¬ (6 : Int) < C:=by omega
    obtain ⟨cg,co,hcad, -⟩:=HCx.out 0 _ (List.getElem?_eq_getElem (by rw [← HCc.out]; omega))
    subst hcad
    have HC:=Lib.hid (show ∀ i x,cs[i]? = some x → w2.cell? ⟨cg,co + i,none⟩ = some (.string x) from fun i x hx => by
     obtain ⟨g',o',e,c⟩:=HCx.out i x hx
     injection e with e
     injection e with e3 e4 _
     subst e3 e4
     exact (HB2.out.cell (p:=⟨cg,co + i,none⟩) (lt_of_cell c)).trans c)
    clear HCx
    go_wp2_with fail
    go_loopw [7,8,9,10] (fun s i _ _ wr => ∃ k : Nat,i = .int .i64 k ∧ k ≤ C ∧ s = .string (soFar cs k) ∧ Okc cs k ∧ wr = w2) (fun _ i _ _ _ => C - (intOf i).toNat)
    case atStart => exact ⟨0,rfl,Nat.zero_le _,rfl,Okc.zero cs,rfl⟩
    case round =>
     obtain ⟨k,rfl,hk,rfl,hok,hwr⟩:=hrel
     obtain rfl:=hwr.symm
     have hS:=soFar_size hok (by omega)
     by_cases hlt : k < C
     ·obtain ⟨x,hx⟩ : ∃ x,cs[k]? = some x:=⟨_,List.getElem?_eq_getElem (by rw [← HCc.out]; exact hlt)⟩
      have dk:=HC.out k x hx
      have y1 : (0 : Int) ≤ k:=by omega
      have y2 : (k : Int) < C:=by omega
      have hxz:=HCz.out x (List.mem_of_getElem? hx)
      unfold maxLen at hxz
      have HS:=Lib.hid (soFar_step hx)
      have HOK:=Lib.hid (And.intro hx hok)
      obtain ⟨S,hSS⟩ : ∃ S,S = soFar cs k:=⟨_,rfl⟩
      rw [← hSS] at HS hS ⊢
      clear hok hx hSS
      go_wp2_with fail
      go_loopw [9,10] (fun a _ wr => ∃ j : Nat,a = .int .i64 j ∧ j ≤ x.size ∧ Pz.Fine (x.data.toList.take j) ∧ wr = w2) (fun a _ _ => x.size - (intOf a).toNat)
      case atStart => exact ⟨0,rfl,Nat.zero_le _,fun b hb => by rw [List.take_zero] at hb; (cases hb),rfl⟩
      case round =>
       obtain ⟨j,rfl,hj,hF,hwr⟩:=hrel
       obtain rfl:=hwr.symm
       have HF:=Lib.hid hF
       clear hF
       by_cases hjl : j < x.size
       ·have z1 : (0 : Int) ≤ j:=by omega
        have z2 : (j : Int) < x.size:=by omega
        by_cases c10 : ((x[j].toNat : Int) == 10) = true
        ·go_wp2_with fail
         go_ret
         exact ⟨rfl,HB2.out⟩
        have d10 : ((x[j].toNat : Int) == 10) = false:=by simpa using c10
        by_cases c92 : ((x[j].toNat : Int) == 92) = true
        ·clear c10
         go_wp2_with fail
         go_ret
         exact ⟨rfl,HB2.out⟩
        have d92 : ((x[j].toNat : Int) == 92) = false:=by simpa using c92
        by_cases c47 : ((x[j].toNat : Int) == 47) = true
        ·clear c10 c92
         go_wp2_with fail
         go_ret
         exact ⟨rfl,HB2.out⟩
        have d47 : ((x[j].toNat : Int) == 47) = false:=by simpa using c47
        have HF2:=Lib.hid (fine_step x j hjl HF.out d10 d92 d47)
        by_cases c34 : ((x[j].toNat : Int) == 34) = true
        ·clear c10 c92 c47
         go_wp2_with fail
         go_ret
         exact ⟨rfl,HB2.out⟩
        have d34 : ((x[j].toNat : Int) == 34) = false:=by simpa using c34
        by_cases c39 : ((x[j].toNat : Int) == 39) = true
        ·clear c10 c92 c47 c34
         go_wp2_with fail
         go_ret
         exact ⟨rfl,HB2.out⟩
        have d39 : ((x[j].toNat : Int) == 39) = false:=by simpa using c39
        clear c10 c92 c47 c34 c39
        go_wp2_with fail
        go_roundw
        case rel => exact ⟨j + 1,by go_num,hjl,HF2.out,trivial⟩
        case measure => simp [intOf]; omega
       ·obtain rfl : j = x.size:=by omega
        by_cases c60 : 60 < x.size
        ·have e60 : (60 : Int) < x.size:=by omega
         go_wp2_with fail
         go_ret
         exact ⟨rfl,HB2.out⟩
        ·have e60 : ¬ (60 : Int) < x.size:=by omega
         have HFx:=Lib.hid (show Okc cs (k + 1) from HOK.out.2.step HOK.out.1 (by omega) (by
          have:=HF.out
          rwa [← size_list,List.take_length] at this))
         by_cases k0 : k = 0
         ·have e0 : ((k : Int) == 0) = true:=by simp [k0]
          have HK0:=Lib.hid k0
          clear k0
          go_wp2_with fail
          go_roundw
          case rel => exact ⟨k + 1,by go_num,hlt,by rw [HS.out,if_pos HK0.out],HFx.out,trivial⟩
          case measure => simp [intOf]; omega
         ·have e0 : ((k : Int) == 0) = false:=by simp; omega
          have HK0:=Lib.hid k0
          clear k0
          go_wp2_with fail
          go_roundw
          case rel => exact ⟨k + 1,by go_num,hlt,by rw [HS.out,if_neg HK0.out],HFx.out,trivial⟩
          case measure => simp [intOf]; omega
     ·obtain rfl : C = k:=by omega
      have HOK:=Lib.hid hok
      obtain ⟨T,hT⟩ : ∃ T,T = soFar cs C ++ ⟨#[35,101,108,115,101,10,120,10,35,101,110,100,105,102,10]⟩:=⟨_,rfl⟩
      have hTz : T.size ≤ 429:=by rw [hT,ByteArray.size_append]; show _ + 15 ≤ 429; omega
      have hv5 : v ≤ 5:=by have:=HGd.out.len; rw [← HV.out] at this; exact this
      have KN:=Lib.hid (Bdd.new_yes v (by omega) w2)
      have HT:=Lib.hid hT
      obtain ⟨S,hSS⟩ : ∃ S,S = soFar cs C:=⟨_,rfl⟩
      rw [← hSS] at hS hT ⊢
      clear hok hSS
      go_wp2_with fail
      rw [← hT]
      clear hT hS
      refine KN.out.mono ?_
      rintro e w3 ⟨rfl,hA3,hb3⟩
      have HA3:=Lib.hid hA3
      have HB3:=Lib.hid hb3
      have KL1:=Lib.hid (l12lines_any T (by omega) w3 (HG.out.later (Below.then HB2.out hb3)))
      clear hA3 hb3 KN
      go_wp2_with fail
      refine KL1.out.mono ?_
      rintro e w4 ⟨u1,rfl,hu1,hb4⟩
      have HB4:=Lib.hid (Below.then HB2.out (Below.then HB3.out hb4))
      have HA4:=Lib.hid (HA3.out.below hb4)
      have HW:=Lib.hid (whole_one (ns:=ns) HCc.out (by omega) (by omega) HOK.out T HT.out)
      have HM:=Lib.hid (linesOf_small T (by omega))
      have hl:=HW.out.1
      have hpw:=(pow_w (v:=v) (by omega)).2
      have hp32 : 2 ^ v ≤ 2 ^ 5:=Nat.pow_le_pow_right (by omega) hv5
      rw [show (2 : Nat) ^ 5 = 32 from rfl] at hp32
      have KP1:=Lib.hid (plines_any w2.heap.size (w2.heap.size + 1) w2.heap.size v (.slice none 0 0) [] (.slice nad v nc) u1 ns (linesOf T) w4 HA4.out (HN.out.below HB4.out) hu1 (HG.out.later HB4.out) HGd.out.nml HV.out HM.out.2 (by omega) (by show (510 * 2 ^ v + 1540) * (linesOf T).length ≤ _; exact Nat.le_trans (Nat.mul_le_mul (show 510 * 2 ^ v + 1540 ≤ 18000 by omega) (show (linesOf T).length ≤ 15 by omega)) (by omega)) (by show 0 + 510 * 2 ^ v * (linesOf T).length ≤ _; have:=Nat.mul_le_mul (show 510 * 2 ^ v ≤ 16320 by omega) (show (linesOf T).length ≤ 15 by omega); omega))
      clear hu1 hb4 KL1 hpw hp32
      rw [hl] at KP1
      clear hl
      go_wp2_with fail
      refine KP1.out.mono ?_
      intro e w5 hp
      cases hR : Pm.lines ns (linesOf T) with
      | error x =>
       rw [hR] at hp
       obtain ⟨rfl,h2,h3⟩:=hp
       have q2 : (x.2 != 0) = true:=by simpa using h2
       have HB5:=Lib.hid (Below.then HB4.out h3)
       clear h2 h3
       go_wp2_with fail
       go_ret
       exact ⟨rfl,HB5.out⟩
      | ok N =>
       rw [hR] at hp
       obtain ⟨o,ds',sv',ys,rfl,hA5,hk5,hF5,hr5,hy5,hn5,hd5⟩:=hp
       obtain ⟨ad,cap,rfl,hc1,hc2⟩ : ∃ ad cap,o = .slice ad (2 * C + 3) cap ∧ 2 * C + 3 ≤ cap ∧ cap ≤ maxLen:=by
        rcases hr5.2 with ⟨h,h0⟩ | ⟨g,cap,cur,h,_,_,h8,h9, -⟩
        ·omega
        ·exact ⟨_,cap,h,h8,h9⟩
       obtain ⟨g,rfl,hcell⟩:=nodes_cells hr5 hy5 (by omega)
       have HBW:=Lib.hid (Bdd.below_of_fr HB4.out (Nat.le_refl _) hF5 (by have:=HB2.out.size; omega) (by have:=HB2.out.size; omega) (fun k e => by cases e))
       have HA5:=Lib.hid hA5
       have HC5:=Lib.hid hcell
       have HN5:=Lib.hid (And.intro hn5 hy5)
       have HRR:=Lib.hid (HW.out.2 N hR)
       unfold maxLen at hc2
       clear hA5 hk5 hF5 hr5 hy5 hn5 hd5 hcell KP1 hR
       have b2 : ((((2 * C + 3 : Nat) : Int)) != (2 * (C : Int) + 3)) = false:=by simp
       obtain ⟨hw,hle⟩:=pow_w (v:=v) (by omega)
       obtain ⟨M,hM⟩ : ∃ M,M = 2 ^ v:=⟨_,rfl⟩
       rw [← hM] at hw hle
       have KH:=Lib.hid (fun (y : Nat) (P : Nat → Bool) (W : World) (hy : Nd v ds' y P) (hb : Below w5.heap.size w5 W) (x : Nat) (hx : x < M) => Bdd.holdsN (HA5.out.below hb) hy x (by rw [← hM]; exact hx))
       have HRM:=Lib.hid (fun x (hx : x < M) => HRR.out x (by rw [← HV.out,← hM]; exact hx))
       have hv1 : (0 : Int) ≤ v:=by omega
       have hv2 : (v : Int) ≤ 64:=by omega
       clear hM
       go_wp2_with fail
       go_loopw [16,17,18,19,20] (fun a _ _ _ _ wr => ∃ x : Nat,a = .int .i64 x ∧ x ≤ M ∧ Below w5.heap.size w5 wr) (fun a _ _ _ _ _ => M - (intOf a).toNat)
       case atStart => exact ⟨0,rfl,Nat.zero_le _,Below.refl _ _⟩
       case round =>
        obtain ⟨x,rfl,hx,hbr⟩:=hrel
        by_cases hxl : x < M
        ·have z1 : (x : Int) < M:=by omega
         have HBR:=Lib.hid hbr
         clear hbr
         obtain ⟨Wr,rfl⟩ : ∃ Wr,Wr = wr:=⟨_,rfl⟩
         go_wp2_with fail
         rw [hw]
         clear hw
         go_loopw [17,18,19,20] (fun n i _ _ wr => ∃ k : Nat,i = .int .i64 k ∧ k ≤ C + 1 ∧ n = .int .i64 (Pz.cf N x 0 k : Nat) ∧ Below w5.heap.size w5 wr) (fun _ i _ _ _ => C + 1 - (intOf i).toNat)
         case atStart => exact ⟨0,rfl,Nat.zero_le _,rfl,HBR.out⟩
         case round =>
          obtain ⟨k,rfl,hk,rfl,hb2⟩:=hrel
          have hcl:=cf_le N x k 0
          by_cases hkl : k ≤ C
          ·obtain ⟨y,hy⟩ : ∃ y,ys[2 * k + 1]? = some y:=⟨_,List.getElem?_eq_getElem (by rw [HN5.out.2]; omega)⟩
           have d1:=HC5.out _ y hy
           replace d1:=(hb2.cell (p:=⟨g,2 * k + 1,none⟩) (lt_of_cell d1)).trans d1
           have KK:=Lib.hid (KH.out y (N (2 * k + 1)) wr (HN5.out.1 _ y hy) hb2 x hxl)
           have y1 : (k : Int) ≤ C:=by omega
           have y2 : (0 : Int) ≤ 2 * (k : Int) + 1:=by omega
           have y3 : 2 * (k : Int) + 1 < ((2 * C + 3 : Nat) : Int):=by omega
           have HNX:=Lib.hid (cf_next N x k)
           have HB2':=Lib.hid hb2
           obtain ⟨c,hc⟩ : ∃ c,c = Pz.cf N x 0 k:=⟨_,rfl⟩
           rw [← hc] at hcl HNX ⊢
           clear hb2 hy hc
           go_wp2_with fail
           refine KK.out.mono ?_
           rintro e w6 ⟨rfl,hb6⟩
           have HB6:=Lib.hid (Below.then HB2'.out hb6)
           clear hb6
           cases hP : N (2 * k + 1) x with
           | true =>
            rw [hP,if_pos rfl] at HNX
            go_wp2_with fail
            go_roundw
            case rel => exact ⟨k + 1,by go_num,by omega,by rw [HNX.out]; go_num,HB6.out⟩
            case measure => simp [intOf]; omega
           | false =>
            rw [hP,if_neg (by decide)] at HNX
            go_wp2_with fail
            go_roundw
            case rel => exact ⟨k + 1,by go_num,by omega,by rw [HNX.out]; rfl,HB6.out⟩
            case measure => simp [intOf]; omega
          ·obtain rfl : k = C + 1:=by omega
           have e1:=HRM.out x hxl
           have HB6:=Lib.hid hb2
           rw [e1] at hcl ⊢
           clear hb2 e1 hcl
           have y1 : ¬ ((C + 1 : Nat) : Int) ≤ C:=by omega
           go_wp2_with fail
           go_roundw
           case rel => exact ⟨x + 1,by go_num,hxl,HB6.out⟩
           case measure => simp [intOf]; omega
        ·have z1 : ¬ (x : Int) < M:=by omega
         have HBR:=Lib.hid hbr
         clear hbr
         go_wp2_with fail
         go_ret
         exact ⟨rfl,Below.then HBW.out HBR.out⟩
end
end Go.Proofs.YthekfpgegiffoaaGreatDoor
