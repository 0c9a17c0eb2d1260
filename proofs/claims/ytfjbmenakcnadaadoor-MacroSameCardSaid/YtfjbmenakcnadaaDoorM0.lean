/- What a definition is: plain. -/
import Derived.Test.YtfjbmenakcnadaaDoorKt
namespace Go.Proofs.YtfjbmenakcnadaaDoor
namespace Mx

/-- The name of what stands behind the last parameter. -/
def VA : ByteArray := ⟨#[95, 95, 86, 65, 95, 65, 82, 71, 83, 95, 95]⟩
def DF : ByteArray := ⟨#[100, 101, 102, 105, 110, 101, 100]⟩
def LP : ByteArray := ⟨#[40]⟩
def RP : ByteArray := ⟨#[41]⟩
def CM : ByteArray := ⟨#[44]⟩
def EL : ByteArray := ⟨#[46, 46, 46]⟩
def HS : ByteArray := ⟨#[35]⟩
def HH : ByteArray := ⟨#[35, 35]⟩

def isP (t : K) (s : ByteArray) : Bool := t.kind == 5 && decide (t.text = s)

/-- Is a text among these? -/
def has (ps : List ByteArray) (s : ByteArray) : Bool := ps.any fun p => decide (p = s)
theorem has_iff (ps : List ByteArray) (s : ByteArray) : has ps s = true ↔ s ∈ ps := by simp [has]

structure M where
  name : ByteArray
  fn : Bool
  ps : List ByteArray
  va : Bool
  body : List K
def M.zero : M := ⟨ByteArray.empty, false, [], false, []⟩

/-- May a token be one more parameter? -/
def parOk (ps : List ByteArray) (t : K) : Bool := t.kind == 1 && (!decide (t.text = VA) && !has ps t.text)
/-- A list of parameters that is not empty, with what stands behind its bracket. -/
def plist : List ByteArray → List K → Option (List ByteArray × Bool × List K)
  | ps, a :: b :: r =>
    if isP a EL then (if isP b RP then some (ps, true, r) else none)
    else if parOk ps a then
      (if isP b RP then some (ps ++ [a.text], false, r) else if isP b CM then plist (ps ++ [a.text]) r else none)
    else none
  | _, _ => none

/-- Is a token a parameter? -/
def known (ps : List ByteArray) (va : Bool) (t : K) : Bool := t.kind == 1 && (has ps t.text || (va && decide (t.text = VA)))
def hashBad (ps : List ByteArray) (va : Bool) : List K → Bool
  | [] => false
  | [t] => isP t HS
  | t :: u :: r => (isP t HS && !known ps va u) || hashBad ps va (u :: r)
def vaIn (l : List K) : Bool := l.any fun t => t.kind == 1 && decide (t.text = VA)
def bare : List K → List K
  | [] => []
  | t :: r => { t with bl := false } :: r
def pasteBad (l : List K) : Bool := (match l.head? with | some t => isP t HH | none => false) || (match l.getLast? with | some t => isP t HH | none => false)

/-- What is left is a body. -/
def bodyOf (nm : ByteArray) (fn : Bool) (ps : List ByteArray) (va : Bool) (l : List K) : M × Int :=
  if l = [] then (⟨nm, fn, ps, va, []⟩, 0)
  else if pasteBad l then (.zero, 63)
  else if fn && hashBad ps va l then (.zero, 64)
  else if !va && vaIn l then (.zero, 65)
  else (⟨nm, fn, ps, va, bare l⟩, 0)

/-- What stands behind the name: is it a list, with the parameters, and what is left; or the error. -/
def brack (r : List K) : Except Int (Bool × List ByteArray × Bool × List K) :=
  match r with
  | [] => .ok (false, [], false, [])
  | u :: r' =>
    if u.bl then .ok (false, [], false, u :: r')
    else if isP u LP then
      (match r' with
        | [] => .error 61
        | c :: r'' =>
          if isP c RP then .ok (true, [], false, r'')
          else match plist [] (c :: r'') with
            | none => .error 61
            | some (ps, va, l) => .ok (true, ps, va, l))
    else .error 62
def nameOk (t : K) : Bool := t.kind == 1 && (!decide (t.text = DF) && !decide (t.text = VA))
/-- The macro of tokens, or the error. -/
def defi (l : List K) : M × Int :=
  match l with
  | [] => (.zero, 60)
  | t :: r =>
    if nameOk t then
      match brack r with
      | .error e => (.zero, e)
      | .ok (fn, ps, va, b) => bodyOf t.text fn ps va b
    else (.zero, 60)
end Mx
end Go.Proofs.YtfjbmenakcnadaaDoor
