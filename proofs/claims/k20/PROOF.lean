import PyProof.Rows.All
import Wide.All
import OpenK.AllK
import Wide.FinOn
import PySem.Syntax
import PySem.Eval
import PyProof.EqAt
import PyProof.EqKinds
import PyProof.TupleCall
import HandS.ForExc
import HandS.Walk
import HandS.Star
import HandS.Wide
import HandS.CallSlots
import HandS.Dict
import PyProof.ReprRoads
import HandS.ExcIs
import HandS.WordsExc
import HandS.TupLe
import HandS.TupAny
import HandS.SortInts
import HandS.TupSets
import HandS.Gcd
import HandS.IsInst
import HandS.Zip
import HandS.Rev
import HandS.Flow
import PyProof.Rows.IntBool
import HandS.Deep
import HandS.Style
import PyProof.ReprLen
import PyProof.CallFns
import HandS.RevRange
import KE.GoesMore
import HandS.ExcInit
import HandS.ExcField
import HandS.TryOnly
import HandS.DictSub
import HandS.More
import KE.KDictCopyH
import KE.KDictSum
import PySem.Challenge.RW_onesheetmore_k20_whole_checker_of_laying
section
set_option linter.all false
/-! EvP: plain data, a small language of expressions and statements over it, and what a program of it reckons. Pure: no heap, no machine. -/
namespace Ev
open PySem (Str)

/-- a dict's key: an int or a text alone, or a tuple of these -/
abbrev Ky := List (Sum Int Str)
/-- plain data; rep d: the text that repr gives of d; st is the hand on the law's own source of draws; tk: the dict's keys are tuples -/
inductive D where
  | non | bl (b : Bool) | int (i : Int) | str (x : Str) | tup (l : List D) | lst (l : List D) | st (n : Nat)
  | dct (tk : Bool) (ks : List Ky) (vs : List D)
  | ins (c : Nat) (fs : List D)
  | rep (d : D)
  deriving Inhabited, Repr

/-- an exception that flies: its class's number, its fields in their order -/
inductive Exc where
  | mk (c : Nat) (ns : List Str) (fs : List D)
  deriving Inhabited, Repr

/-- what comes of a piece of program -/
inductive R (S α : Type) where
  | ok (a : α) (s : S) | ex (e : Exc) (s : S) | bad
  deriving Inhabited

def R.bind {S α β : Type} (x : R S α) (f : α → S → R S β) : R S β :=
  match x with
  | .ok a s => f a s
  | .ex e s => .ex e s
  | .bad => .bad
@[simp] theorem R.bind_ok {S α β : Type} (a : α) (s : S) (f : α → S → R S β) : (R.ok a s).bind f = f a s := (rfl)
@[simp] theorem R.bind_ex {S α β : Type} (e : Exc) (s : S) (f : α → S → R S β) : (R.ex e s).bind f = .ex e s := (rfl)
@[simp] theorem R.bind_bad {S α β : Type} (f : α → S → R S β) : (R.bad : R S α).bind f = .bad := (rfl)
def R.lift {S α : Type} (o : Option α) (s : S) : R S α := match o with | some a => .ok a s | none => .bad
@[simp] theorem R.lift_some {S α : Type} (a : α) (s : S) : R.lift (some a) s = .ok a s := (rfl)
@[simp] theorem R.lift_none {S α : Type} (s : S) : (R.lift none s : R S α) = .bad := (rfl)

abbrev Fn (S : Type) := List D → S → R S D
abbrev Slot := Option (Bool × D)
abbrev Env := List Slot

inductive Bop where
  | add | sub | mul | fdiv | mod | pow | band | bor | shl | shr
  deriving DecidableEq, Repr
inductive Cop where
  | eq | ne | lt | le | gt | ge | isin | notin
  deriving DecidableEq, Repr
inductive Ty where
  | int | bool | str | tuple | list
  deriving DecidableEq, Repr
inductive Blt where
  | len | abs | min2 | max2 | int1 | sum | min1 | max1 | any | all | sorted | list | tuple | gcd | bool1 | repr | sset
  deriving DecidableEq, Repr
/-- what a loop stores into -/
inductive Tg where
  | name (i : Nat) | tup (l : List Nat)
  deriving Repr

mutual
inductive IE where
  | var (i : Nat) | c (d : D)
  | bop (o : Bop) (a b : IE) | neg (a : IE) | not (a : IE) | and (a b : IE) | or (a b : IE) | ite (t a b : IE)
  | cmp (o : Cop) (a b : IE) | isN (a : IE) | notN (a : IE)
  | tup (es : IEs) | lst (es : IEs)
  | call (f : Nat) (es : IEs) | blt (b : Blt) (es : IEs) | isi (a : IE) (t : Ty)
  | sub (a i : IE) | slc (a : IE) (lo hi : IEo) | rev (a : IE)
  | lc (elt : IE) (tg : Tg) (own : List Nat) (src : ISrc) (ifs : IEs)
  | dnew (tk : Bool) | dget (d k x : IE)
  | callp (f : Nat) (es ks : IEs) (perm : List Nat)
inductive IEs where
  | nil | cons (e : IE) (r : IEs) | star (e : IE) (r : IEs)
inductive IEo where
  | none | some (e : IE)
inductive ISrc where
  | seq (e : IE) | rng1 (a : IE) | rng2 (a b : IE) | rng3 (a b c : IE) | rrng1 (a : IE) | rrng2 (a b : IE) | enum (a : IE) | zip (a b : IE) | rev (a : IE)
end

/-- a test of an error's class -/
inductive IXc where
  | cls (l : List Nat) | not (a : IXc) | and (a b : IXc) | or (a b : IXc)
  deriving Repr
/-- what an except suite hands back: written constants, the error's fields, tests of its class -/
inductive IXs where
  | nil | c (d : D) (r : IXs) | fld (x : Str) (r : IXs) | isb (t : IXc) (r : IXs)
  deriving Repr
inductive IXr where
  | tup (es : IXs) | c (d : D)
  deriving Repr
/-- an except suite: what is handed back, by tests of the error's class -/
inductive IXp where
  | ret (r : IXr) | ite (t : IXc) (r : IXr) (p : IXp) | skip (j : Nat) (t : IXc) (p : IXp)
  deriving Repr
mutual
inductive IS where
  | asg (i : Nat) (e : IE) | asgN (i : Nat) (e : IE) | asgT (l : List Nat) (e : IE) | setix (i : Nat) (k e : IE) | app (i : Nat) (e : IE)
  | expr (e : IE) | aug (i : Nat) (o : Bop) (e : IE)
  | ite (t : IE) (a b : ISs) | for_ (tg : Tg) (fr : List Nat) (src : ISrc) (body : ISs) | whl (t : IE) (body : ISs)
  | ret (e : IE) | retN | rse (c : Nat) (ns : List Str) (es : IEs) | tryR (body : ISs) (cs : List Nat) (i : Nat) (p : IXp)
  | brk | cont | pass
inductive ISs where
  | nil | cons (s : IS) (r : ISs)
end

/-- the names that a statement may store -/
def Tg.wr : Tg → List Nat
  | .name i => [i]
  | .tup l => l
mutual
def IS.wr : IS → List Nat
  | .asg i _ => [i]
  | .asgN i _ => [i]
  | .asgT l _ => l
  | .setix i _ _ => [i]
  | .app i _ => [i]
  | .expr _ => []
  | .aug i _ _ => [i]
  | .ite _ a b => a.wr ++ b.wr
  | .for_ tg fr _ b => fr ++ (tg.wr ++ b.wr)
  | .whl _ b => b.wr
  | .ret _ => []
  | .retN => []
  | .rse _ _ _ => []
  | .tryR b _ _ _ => b.wr
  | .brk => []
  | .cont => []
  | .pass => []
def ISs.wr : ISs → List Nat
  | .nil => []
  | .cons x r => x.wr ++ r.wr
end
/-! ### values -/
def L : Nat := 16777216

mutual
def D.eqv : D → D → Bool
  | .non, .non => true
  | .bl a, .bl b => a == b
  | .bl a, .int j => (if a then 1 else 0) == j
  | .int i, .bl b => i == (if b then 1 else 0)
  | .int i, .int j => i == j
  | .str x, .str y => x == y
  | .lst xs, .lst ys => eqvs xs ys
  | .tup xs, .tup ys => eqvs xs ys
  | _, _ => false
def eqvs : List D → List D → Bool
  | [], [] => true
  | x :: xs, y :: ys => D.eqv x y && eqvs xs ys
  | _, _ => false
end
mutual
/-- plain enough to be compared: n levels at most -/
def D.fit : Nat → D → Bool
  | _, .non => true
  | _, .bl _ => true
  | _, .int _ => true
  | _, .str x => x.cps.all (· < 1114112)
  | n + 1, .tup l => fits n l
  | n + 1, .lst l => fits n l
  | _, _ => false
def fits : Nat → List D → Bool
  | _, [] => true
  | n, d :: r => D.fit n d && fits n r
end
mutual
/-- holds no list, no dict, no hand on the draws -/
def D.plain : D → Bool
  | .non => true
  | .bl _ => true
  | .int _ => true
  | .str _ => true
  | .tup l => plains l
  | .rep _ => true
  | _ => false
def plains : List D → Bool
  | [] => true
  | d :: r => D.plain d && plains r
end
/-- what a def may hand back -/
def D.back : D → Bool
  | .lst l => plains l
  | .dct _ _ l => plains l
  | d => d.plain
def D.scalar : D → Bool
  | .non => true | .bl _ => true | .int _ => true | .str _ => true | _ => false

def bitsOk (i j : Int) : Bool :=
  decide ((-(2 ^ 64) < i ∧ i < 2 ^ 64) ∨ (-(2 ^ 64) < j ∧ j < 2 ^ 64) ∨ i.natAbs.log2 + j.natAbs.log2 < 1000000)
def divOk (j : Int) : Bool := decide (0 < j ∧ j.natAbs.log2 < 9000)
def powOk (i j : Int) : Bool := decide (0 ≤ j ∧ j ≤ 1000000 ∧ i.natAbs < 2 ^ 64)

def addD0 : D → D → Option D
  | .int i, .int j => some (.int (i + j))
  | .str x, .str y => if x.length + y.length ≤ L then some (.str (x ++ y)) else none
  | .tup x, .tup y => if x.length + y.length ≤ L then some (.tup (x ++ y)) else none
  | .lst x, .lst y => if x.length + y.length ≤ L then some (.lst (x ++ y)) else none
  | _, _ => none
def subtD0 : D → D → Option D
  | .int i, .int j => some (.int (i - j))
  | _, _ => none
def mulD0 : D → D → Option D
  | .int i, .int j => if bitsOk i j then some (.int (i * j)) else none
  | .lst x, .int k => if -(2 ^ 63) ≤ k ∧ k < 2 ^ 63 ∧ x.length * k.toNat ≤ L then some (.lst (List.replicate k.toNat x).flatten) else none
  | _, _ => none
/-- True is one, False is none -/
def b1 (b : Bool) : Int := if b = true then 1 else 0
def addD : D → D → Option D
  | .int i, .bl b => some (.int (i + b1 b))
  | .bl b, .int i => some (.int (b1 b + i))
  | x, y => addD0 x y
def subtD : D → D → Option D
  | .int i, .bl b => some (.int (i - b1 b))
  | .bl b, .int i => some (.int (b1 b - i))
  | x, y => subtD0 x y
def mulD : D → D → Option D
  | .int i, .bl b => some (.int (i * b1 b))
  | .bl b, .int i => some (.int (b1 b * i))
  | x, y => mulD0 x y
def fdivD : D → D → Option D
  | .int i, .int j => if divOk j then some (.int (i / j)) else none
  | _, _ => none
def modD : D → D → Option D
  | .int i, .int j => if 0 < j then some (.int (i % j)) else none
  | _, _ => none
def powD : D → D → Option D
  | .int i, .int j => if powOk i j then some (.int (i ^ j.toNat)) else none
  | _, _ => none
def bopD : Bop → D → D → Option D
  | .add => addD
  | .sub => subtD
  | .mul => mulD
  | .fdiv => fdivD
  | .mod => modD
  | .pow => powD
  | _ => fun _ _ => none

/-! ### order, sorting -/
def lexLt : List Int → List Int → Bool
  | [], [] => false
  | [], _ :: _ => true
  | _ :: _, [] => false
  | x :: xs, y :: ys => if x = y then lexLt xs ys else decide (x < y)
def D.ints : List D → Option (List Int)
  | [] => some []
  | .int i :: r => (D.ints r).map (i :: ·)
  | _ :: _ => none
def D.rows : List D → Option (List (List Int))
  | [] => some []
  | .tup l :: r => match D.ints l, D.rows r with
    | some x, some y => some (x :: y)
    | _, _ => none
  | _ :: _ => none
def D.bls : List D → Option (List Bool)
  | [] => some []
  | .bl i :: r => (D.bls r).map (i :: ·)
  | _ :: _ => none
def ins {α : Type} (lt : α → α → Bool) (x : α) : List α → List α
  | [] => [x]
  | y :: r => if lt y x then y :: ins lt x r else x :: y :: r
def isort {α : Type} (lt : α → α → Bool) : List α → List α
  | [] => []
  | x :: r => ins lt x (isort lt r)
def D.row (l : List Int) : D := .tup (l.map D.int)
def sortD (l : List D) : Option D := match D.ints l with
  | some is => some (.lst ((isort (fun a b => decide (a < b)) is).map D.int))
  | none => match D.rows l with
    | some rs => if rs.length < 64 ∧ (rs.all fun r => decide (r.length = (rs.headD []).length ∧ 1 ≤ r.length) && r.all fun i => decide (0 ≤ i)) = true then some (.lst ((isort lexLt rs).map D.row)) else none
    | none => none

/-- given places of a list -/
def permL {α : Type} (perm : List Nat) (l : List α) : List α := perm.filterMap fun j => l[j]?
/-! ### dicts -/
def kyOne : D → Option (Sum Int Str)
  | .int i => some (.inl i)
  | .str x => some (.inr x)
  | _ => none
def kyAll : List D → Option Ky
  | [] => some []
  | d :: r => match kyOne d, kyAll r with
    | some k, some l => some (k :: l)
    | _, _ => none
/-- a datum as a key -/
def kyOf : Bool → D → Option Ky
  | true, .tup l => kyAll l
  | true, _ => none
  | false, d => (kyOne d).map fun k => [k]
def dlook : List Ky → List D → Ky → Option D
  | k :: ks, v :: vs, q => if k = q then some v else dlook ks vs q
  | _, _, _ => none
def kyIn (q : Ky) (ks : List Ky) : Bool := ks.any fun k => decide (k = q)
def dput (ks : List Ky) (vs : List D) (q : Ky) (x : D) : List Ky × List D :=
  if kyIn q ks then (ks, (ks.zip vs).map fun p => if p.1 = q then x else p.2) else (ks ++ [q], vs ++ [x])
def kyD : Sum Int Str → D
  | .inl i => .int i
  | .inr x => .str x
/-- a key as a datum -/
def unKy : Bool → Ky → D
  | true, k => .tup (k.map kyD)
  | false, k :: _ => kyD k
  | false, [] => .non
/-- x in y -/
def inD : D → D → Option Bool
  | a, .lst l => if (a.scalar && l.all D.scalar) || (D.fit 40 a && D.fit 40 (.lst l)) then some (l.any fun y => D.eqv y a) else none
  | a, .tup l => if a.scalar && l.all D.scalar then some (l.any fun y => D.eqv y a) else none
  | a, .dct tk ks _ => (kyOf tk a).map fun q => kyIn q ks
  | _, _ => none

mutual
/-- the same datum, to the sign -/
def D.same : D → D → Bool
  | .non, .non => true
  | .bl a, .bl b => a == b
  | .int a, .int b => a == b
  | .str a, .str b => a == b
  | .tup a, .tup b => sames a b
  | .lst a, .lst b => sames a b
  | _, _ => false
def sames : List D → List D → Bool
  | [], [] => true
  | a :: r, b :: t => D.same a b && sames r t
  | _, _ => false
end
def cmpD : Cop → D → D → Option Bool
  | .eq, .rep a, .rep b => if D.same a b then some true else none
  | .ne, .rep a, .rep b => if D.same a b then some false else none
  | .eq, a, b => if D.fit 40 a && D.fit 40 b then some (D.eqv a b) else none
  | .ne, a, b => if D.fit 40 a && D.fit 40 b then some (!D.eqv a b) else none
  | .lt, .int i, .int j => some (decide (i < j))
  | .le, .int i, .int j => some (decide (i ≤ j))
  | .gt, .int i, .int j => some (decide (j < i))
  | .ge, .int i, .int j => some (decide (j ≤ i))
  | .lt, .tup x, .tup y => match D.ints x, D.ints y with
    | some a, some b => some (lexLt a b)
    | _, _ => none
  | .le, .tup x, .tup y => match D.ints x, D.ints y with
    | some a, some b => some (!lexLt b a)
    | _, _ => none
  | .isin, a, b => inD a b
  | .notin, a, b => (inD a b).map fun r => !r
  | _, _, _ => none

def truD : D → Option Bool
  | .non => some false
  | .bl b => some b
  | .int i => some (i != 0)
  | .str x => if x.length ≤ L then some ((x.length : Int) != 0) else none
  | .lst l => some !l.isEmpty
  | .tup l => some !l.isEmpty
  | _ => none

def lenF : List D → Option D
  | [.lst l] => some (.int l.length)
  | [.tup l] => some (.int l.length)
  | [.str x] => if x.length ≤ L then some (.int x.length) else none
  | _ => none
def absF : List D → Option D
  | [.int i] => some (.int (if i < 0 then -i else i))
  | _ => none
def min2F : List D → Option D
  | [.int i, .int j] => some (.int (if j < i then j else i))
  | _ => none
def max2F : List D → Option D
  | [.int i, .int j] => some (.int (if j > i then j else i))
  | _ => none
def int1F : List D → Option D
  | [.int i] => some (.int i)
  | [.bl b] => some (.int (if b then 1 else 0))
  | _ => none
def bool1F : List D → Option D
  | [.bl b] => some (.bl b)
  | [.int i] => some (.bl (i != 0))
  | _ => none
def sumF : List D → Option D
  | [.lst l] => (D.ints l).map fun is => .int is.sum
  | _ => none
def min1F : List D → Option D
  | [.lst l] => match D.ints l with
    | some (i :: r) => some (.int (r.foldl (fun a b => if b < a then b else a) i))
    | _ => none
  | _ => none
def max1F : List D → Option D
  | [.lst l] => match D.ints l with
    | some (i :: r) => some (.int (r.foldl (fun a b => if b > a then b else a) i))
    | _ => none
  | _ => none
def anyF : List D → Option D
  | [.lst l] => (D.bls l).map fun bs => .bl (bs.any id)
  | _ => none
def allF : List D → Option D
  | [.lst l] => (D.bls l).map fun bs => .bl (bs.all id)
  | _ => none
def sortedF : List D → Option D
  | [.lst l] => sortD l
  | [.dct true ks _] => sortD (ks.map (unKy true))
  | _ => none
/-- each once -/
def ddup : List (List Int) → List (List Int)
  | [] => []
  | x :: r => if (ddup r).contains x then ddup r else x :: ddup r
/-- sorted(set(x)) -/
def ssetF : List D → Option D
  | [.lst l] => match D.rows l with
    | some rs => if rs.length < 64 ∧ (rs.all fun r => decide (r.length = (rs.headD []).length ∧ 1 ≤ r.length) && r.all fun i => decide (0 ≤ i)) = true then some (.lst ((isort lexLt (ddup rs)).map D.row)) else none
    | none => none
  | _ => none
def listF : List D → Option D
  | [.lst l] => some (.lst l)
  | [.tup l] => some (.lst l)
  | _ => none
def tupleF : List D → Option D
  | [.lst l] => some (.tup l)
  | [.tup l] => some (.tup l)
  | _ => none
def gcdF : List D → Option D
  | [.int i, .int j] => some (.int (Nat.gcd i.natAbs j.natAbs : Nat))
  | _ => none
mutual
/-- no shorter than its text -/
def D.wt : D → Nat
  | .int i => i.natAbs.log2 + 4
  | .str x => 10 * x.length + 2
  | .tup l => wts l + 4
  | .lst l => wts l + 4
  | _ => 6
def wts : List D → Nat
  | [] => 0
  | d :: r => D.wt d + 2 + wts r
end
mutual
/-- its ints are not too long to be shown -/
def D.shw : D → Bool
  | .int i => decide (i.natAbs.log2 < 1920)
  | .tup l => shws l
  | .lst l => shws l
  | _ => true
def shws : List D → Bool
  | [] => true
  | d :: r => D.shw d && shws r
end
def reprF : List D → Option D
  | [d] => if D.fit 40 d && D.shw d && decide (D.wt d ≤ L) then some (.rep d) else none
  | _ => none
def bltD : Blt → List D → Option D
  | .len => lenF
  | .abs => absF
  | .min2 => min2F
  | .max2 => max2F
  | .int1 => int1F
  | .bool1 => bool1F
  | .sum => sumF
  | .min1 => min1F
  | .max1 => max1F
  | .any => anyF
  | .all => allF
  | .sorted => sortedF
  | .list => listF
  | .tuple => tupleF
  | .gcd => gcdF
  | .repr => reprF
  | .sset => ssetF

def isiD : D → Ty → Option Bool
  | .non, _ => some false
  | .bl _, t => some (t == .bool || t == .int)
  | .int _, t => some (t == .int)
  | .str _, t => some (t == .str)
  | .tup _, t => some (t == .tuple)
  | .lst _, t => some (t == .list)
  | _, _ => none

def isNon : D → Bool
  | .non => true
  | _ => false

/-! ### places -/
def ixN (n : Nat) (i : Int) : Option Nat := if 0 ≤ i then (if i < n then some i.toNat else none) else if -(n : Int) ≤ i then some (i + n).toNat else none
def atD (l : List D) (i : Int) : Option D := (ixN l.length i).bind fun j => l[j]?
def subD : D → D → Option D
  | .lst l, .int i => atD l i
  | .tup l, .int i => atD l i
  | .dct tk ks vs, k => (kyOf tk k).bind fun q => dlook ks vs q
  | _, _ => none
def sIx (n d : Nat) : Option Int → Nat
  | none => d
  | some v => if v < 0 then (v + (n : Int)).toNat else min v.toNat n
def cutD (l : List D) (lo hi : Option Int) : List D := (l.drop (sIx l.length 0 lo)).take (sIx l.length l.length hi - sIx l.length 0 lo)
def slcD (d : D) (lo hi : Option Int) : Option D := match d with
  | .lst l => some (.lst (cutD l lo hi))
  | .tup l => some (.tup (cutD l lo hi))
  | _ => none
def revD : D → Option D
  | .lst l => some (.lst l.reverse)
  | .tup l => some (.tup l.reverse)
  | _ => none

/-! ### names -/
def look (bor : Bool) (ρ : Env) (i : Nat) : Option D :=
  match ρ[i]? with
  | some (some (own, d)) => if own && !bor then none else some d
  | _ => none
def wipeE (ρ : Env) : List Nat → Env
  | [] => ρ
  | v :: vs => (wipeE ρ vs).set v none
def setAll : List Nat → List D → Env → Option Env
  | [], [], ρ => some ρ
  | i :: is, d :: ds, ρ => setAll is ds (ρ.set i (some (false, d)))
  | _, _, _ => none
def bindTg : Tg → D → Env → Option Env
  | .name i, d, ρ => some (ρ.set i (some (false, d)))
  | .tup is, .tup ds, ρ => setAll is ds ρ
  | _, _, _ => none
/-! ### what is walked -/
def seqD : D → Option (List D)
  | .lst l => some l
  | .tup l => some l
  | _ => none
def rngOk (i : Int) : Bool := decide (-(2 ^ 62) ≤ i ∧ i < 2 ^ 62)
def rngD (lo hi : Int) : Option (List D) :=
  if rngOk lo && rngOk hi then some ((List.range (hi - lo).toNat).map fun (k : Nat) => D.int (lo + k)) else none
def rng3D (lo hi c : Int) : Option (List D) :=
  if rngOk lo && rngOk hi && decide (c = -1) then some ((List.range (lo - hi).toNat).map fun (k : Nat) => D.int (lo + (k : Int) * c)) else none
def enumD : D → Option (List D)
  | .lst l => some (l.mapIdx fun k d => D.tup [.int (k : Int), d])
  | .tup l => some (l.mapIdx fun k d => D.tup [.int (k : Int), d])
  | _ => none
def zipD : D → D → Option (List D)
  | .lst x, .lst y => some ((x.zip y).map fun p => D.tup [p.1, p.2])
  | .tup x, .tup y => some ((x.zip y).map fun p => D.tup [p.1, p.2])
  | _, _ => none

/-- the law's own state: lists of ints and of hands on further such lists, read and written by its draws alone -/
class StOps (S : Type) where
  get : S → Nat → Option (List D)
  put : S → Nat → List D → S
def stOk : D → Bool
  | .int _ => true
  | .st _ => true
  | _ => false
section
variable {S : Type} [StOps S]
/-- x[y], the state's lists too -/
def subS (s : S) : D → D → Option D
  | .st n, .int j => (StOps.get s n).bind fun l => atD l j
  | x, y => subD x y
def bltS (s : S) : Blt → List D → Option D
  | .len, [.st n] => (StOps.get s n).map fun l => .int l.length
  | b, ds => bltD b ds
/-- a place of a state's list is stored -/
def putS {α : Type} (s : S) (n : Nat) (y x : D) (a : α) : R S α := match y, StOps.get s n with
  | .int j, some l => match ixN l.length j with
    | some i => if stOk x then .ok a (StOps.put s n (l.set i x)) else .bad
    | none => .bad
  | _, _ => .bad
def asInt {α : Type} (d : D) (f : Int → R S α) : R S α := match d with
  | .int i => f i
  | _ => .bad
/-- a comprehension's turns: none of them may raise -/
def turns (f : D → S → R S (Option D)) : List D → List D → S → R S (List D)
  | [], acc, s => .ok acc s
  | d :: r, acc, s => match f d s with
    | .ok none s1 => turns f r acc s1
    | .ok (some y) s1 => if acc.length < L then turns f r (acc ++ [y]) s1 else .bad
    | _ => .bad

/-- a def's answer that may share lists with what it was given comes as .ins 0 [d]: it is taken out where it is stored -/
def unw : D → D
  | .ins 0 [d] => d
  | d => d
def IE.isC : IE → Bool
  | .call _ _ => true
  | .callp _ _ _ _ => true
  | _ => false
def unC (e : IE) (d : D) : D := if e.isC then unw d else d
/-- an own list is handed over as it stands -/
def isOwn (ρ : Env) : IE → Bool
  | .var i => match ρ[i]? with
    | some (some (own, _)) => own
    | _ => false
  | _ => false
def IEs.own (ρ : Env) : IEs → Bool
  | .nil => false
  | .cons e r => isOwn ρ e || r.own ρ
  | .star _ r => r.own ρ
mutual
/-- an expression's value; bor: the value is only looked at (an own list may be named) -/
def evE (Γ : List (Fn S)) (bor : Bool) : IE → Env → S → R S D
  | .var i, ρ, s => R.lift (look bor ρ i) s
  | .c d, _, s => .ok d s
  | .bop o a b, ρ, s => (evE Γ true a ρ s).bind fun x s1 => (evE Γ true b ρ s1).bind fun y s2 => R.lift (bopD o x y) s2
  | .neg a, ρ, s => (evE Γ true a ρ s).bind fun x s1 => asInt x fun i => .ok (.int (-i)) s1
  | .not a, ρ, s => (evE Γ true a ρ s).bind fun x s1 => R.lift ((truD x).map fun b => D.bl !b) s1
  | .and a b, ρ, s => (evE Γ false a ρ s).bind fun x s1 => match truD x with
    | some true => evE Γ false b ρ s1
    | some false => .ok x s1
    | none => .bad
  | .or a b, ρ, s => (evE Γ false a ρ s).bind fun x s1 => match truD x with
    | some false => evE Γ false b ρ s1
    | some true => .ok x s1
    | none => .bad
  | .ite t a b, ρ, s => (evE Γ true t ρ s).bind fun x s1 => match truD x with
    | some true => evE Γ false a ρ s1
    | some false => evE Γ false b ρ s1
    | none => .bad
  | .cmp o a b, ρ, s => (evE Γ true a ρ s).bind fun x s1 => (evE Γ true b ρ s1).bind fun y s2 => R.lift ((cmpD o x y).map D.bl) s2
  | .isN a, ρ, s => (evE Γ true a ρ s).bind fun x s1 => .ok (.bl (isNon x)) s1
  | .notN a, ρ, s => (evE Γ true a ρ s).bind fun x s1 => .ok (.bl (!isNon x)) s1
  | .tup es, ρ, s => (evs Γ false es ρ s).bind fun l s1 => if l.length ≤ L then .ok (.tup l) s1 else .bad
  | .lst es, ρ, s => (evs Γ false es ρ s).bind fun l s1 => if l.length ≤ L then .ok (.lst l) s1 else .bad
  | .call f es, ρ, s => (evs Γ true es ρ s).bind fun l s1 => match Γ[f]? with
    | some m => (m l s1).bind fun d s2 => if es.own ρ && !d.back then .bad else .ok d s2
    | none => .bad
  | .blt b es, ρ, s => (evs Γ true es ρ s).bind fun l s1 => R.lift (bltS s1 b l) s1
  | .isi a t, ρ, s => (evE Γ true a ρ s).bind fun x s1 => R.lift ((isiD x t).map D.bl) s1
  | .sub a i, ρ, s => (evE Γ true a ρ s).bind fun x s1 => (evE Γ true i ρ s1).bind fun y s2 => R.lift (subS s2 x y) s2
  | .slc a lo hi, ρ, s => (evE Γ true a ρ s).bind fun x s1 => (evO Γ lo ρ s1).bind fun l s2 => (evO Γ hi ρ s2).bind fun h s3 => R.lift (slcD x l h) s3
  | .rev a, ρ, s => (evE Γ true a ρ s).bind fun x s1 => R.lift (revD x) s1
  | .lc elt tg own src ifs, ρ, s => (evSrc Γ src ρ s).bind fun items s1 =>
      (turns (fun d s2 => match bindTg tg d (wipeE ρ own) with
        | none => .bad
        | some ρ1 => (evT Γ ifs ρ1 s2).bind fun b s3 => if b then (evE Γ false elt ρ1 s3).bind fun y s4 => .ok (some (unC elt y)) s4 else .ok none s3) items [] s1).bind fun l s2 => .ok (.lst l) s2
  | .callp f es ks perm, ρ, s => (evs Γ true es ρ s).bind fun l1 s1 => (evs Γ true ks ρ s1).bind fun l2 s2 => match Γ[f]? with
    | some m => (m (permL perm (l1 ++ l2)) s2).bind fun d s3 => if (es.own ρ || ks.own ρ) && !d.back then .bad else .ok d s3
    | none => .bad
  | .dnew tk, _, s => .ok (.dct tk [] []) s
  | .dget a k x, ρ, s => (evE Γ true a ρ s).bind fun d s1 => match d with
    | .dct tk ks vs => (evE Γ true k ρ s1).bind fun y s2 => (evE Γ false x ρ s2).bind fun z s3 => R.lift ((kyOf tk y).map fun q => (dlook ks vs q).getD z) s3
    | _ => .bad
def evs (Γ : List (Fn S)) (bor : Bool) : IEs → Env → S → R S (List D)
  | .nil, _, s => .ok [] s
  | .cons e r, ρ, s => (evE Γ bor e ρ s).bind fun x s1 => (evs Γ bor r ρ s1).bind fun l s2 => .ok (unC e x :: l) s2
  | .star e r, ρ, s => (evE Γ true e ρ s).bind fun x s1 => match seqD x with
    | some xs => (evs Γ bor r ρ s1).bind fun l s2 => .ok (xs ++ l) s2
    | none => .bad
def evO (Γ : List (Fn S)) : IEo → Env → S → R S (Option Int)
  | .none, _, s => .ok none s
  | .some e, ρ, s => (evE Γ true e ρ s).bind fun x s1 => asInt x fun i => .ok (some i) s1
/-- all tests of a comprehension -/
def evT (Γ : List (Fn S)) : IEs → Env → S → R S Bool
  | .nil, _, s => .ok true s
  | .cons e r, ρ, s => (evE Γ true e ρ s).bind fun x s1 => match truD x with
    | some true => evT Γ r ρ s1
    | some false => .ok false s1
    | none => .bad
  | .star _ _, _, _ => .bad
def evSrc (Γ : List (Fn S)) : ISrc → Env → S → R S (List D)
  | .seq e, ρ, s => (evE Γ true e ρ s).bind fun x s1 => R.lift (seqD x) s1
  | .rng1 a, ρ, s => (evE Γ true a ρ s).bind fun x s1 => asInt x fun i => R.lift (rngD 0 i) s1
  | .rng2 a b, ρ, s => (evE Γ true a ρ s).bind fun x s1 => (evE Γ true b ρ s1).bind fun y s2 => asInt x fun i => asInt y fun j => R.lift (rngD i j) s2
  | .rng3 a b c, ρ, s => (evE Γ true a ρ s).bind fun x s1 => (evE Γ true b ρ s1).bind fun y s2 => (evE Γ true c ρ s2).bind fun z s3 => asInt x fun i => asInt y fun j => asInt z fun k => R.lift (rng3D i j k) s3
  | .rrng1 a, ρ, s => (evE Γ true a ρ s).bind fun x s1 => asInt x fun i => R.lift ((rngD 0 i).map List.reverse) s1
  | .rrng2 a b, ρ, s => (evE Γ true a ρ s).bind fun x s1 => (evE Γ true b ρ s1).bind fun y s2 => asInt x fun i => asInt y fun j => R.lift ((rngD i j).map List.reverse) s2
  | .enum a, ρ, s => (evE Γ true a ρ s).bind fun x s1 => R.lift (enumD x) s1
  | .zip a b, ρ, s => (evE Γ true a ρ s).bind fun x s1 => (evE Γ true b ρ s1).bind fun y s2 => R.lift (zipD x y) s2
  | .rev a, ρ, s => (evE Γ true a ρ s).bind fun x s1 => R.lift ((seqD x).map List.reverse) s1
end

def IE.vars : IE → List Nat
  | .var i => [i]
  | _ => []
def ISrc.vars : ISrc → List Nat
  | .seq e => e.vars
  | .enum e => e.vars
  | .zip a b => a.vars ++ b.vars
  | .rev e => e.vars
  | _ => []
/-- the lists that are walked are no longer owned -/
def freeFrom (vs : List Nat) : Nat → Env → Env
  | _, [] => []
  | k, s :: r => (if vs.contains k then s.map (fun p => (false, p.2)) else s) :: freeFrom vs (k + 1) r
def freeAll (vs : List Nat) (ρ : Env) : Env := if vs.isEmpty then ρ else freeFrom vs 0 ρ
def IE.fresh : IE → Bool
  | .bop _ _ _ => true
  | .lst _ => true
  | .call _ _ => true
  | .callp _ _ _ _ => true
  | .blt _ _ => true
  | .slc _ _ _ => true
  | .rev _ => true
  | .lc _ _ _ _ _ => true
  | .dnew _ => true
  | .ite _ a b => a.fresh && b.fresh
  | .or a b => a.fresh && b.fresh
  | .and a b => a.fresh && b.fresh
  | _ => false
def D.isObj : D → Bool
  | .lst _ => true
  | .dct _ _ _ => true
  | _ => false

/-- how a statement ends -/
inductive Fl where
  | nx (ρ : Env) | rt (d : D) | bk (ρ : Env) | ct (ρ : Env)

/-- a for's turns -/
def forS (f : D → Env → S → R S Fl) : List D → Env → S → R S Fl
  | [], ρ, s => .ok (.nx ρ) s
  | d :: r, ρ, s => (f d ρ s).bind fun w s1 => match w with
    | .nx ρ1 => forS f r ρ1 s1
    | .ct ρ1 => forS f r ρ1 s1
    | .bk ρ1 => .ok (.nx ρ1) s1
    | .rt d => .ok (.rt d) s1
def whlS (t : Env → S → R S Bool) (f : Env → S → R S Fl) : Nat → Env → S → R S Fl
  | 0, _, _ => .bad
  | n + 1, ρ, s => (t ρ s).bind fun b s1 => if b then (f ρ s1).bind fun w s2 => match w with
      | .nx ρ1 => whlS t f n ρ1 s2
      | .ct ρ1 => whlS t f n ρ1 s2
      | .bk ρ1 => .ok (.nx ρ1) s2
      | .rt d => .ok (.rt d) s2
    else .ok (.nx ρ) s1
def FUEL : Nat := 1000000
def IXc.ev (k : Nat) : IXc → Bool
  | .cls l => l.contains k
  | .not a => !a.ev k
  | .and a b => a.ev k && b.ev k
  | .or a b => a.ev k || b.ev k
def xsD (k : Nat) (ns : List Str) (fs : List D) : IXs → Option (List D)
  | .nil => some []
  | .c d r => if d.scalar then (xsD k ns fs r).map (d :: ·) else none
  | .fld x r => match (ns.zip fs).lookup x, xsD k ns fs r with
    | some d, some l => some (d :: l)
    | _, _ => none
  | .isb t r => (xsD k ns fs r).map (.bl (t.ev k) :: ·)
def xrD (k : Nat) (ns : List Str) (fs : List D) : IXr → Option D
  | .tup es => (xsD k ns fs es).map D.tup
  | .c d => if d.scalar then some d else none
def xpD (k : Nat) (ns : List Str) (fs : List D) : IXp → Option D
  | .ret r => xrD k ns fs r
  | .ite t r p => if t.ev k then xrD k ns fs r else xpD k ns fs p
  | .skip _ _ p => xpD k ns fs p
/-- an error that the body lets out, of one of the classes cs, is answered by p -/
def tryF {S : Type} (cs : List Nat) (p : IXp) (r : R S Fl) : R S Fl := match r with
  | .ex (.mk c1 ns fs) s1 => if cs.contains c1 then (match xpD c1 ns fs p with
      | some d => .ok (.rt d) s1
      | none => .bad) else .ex (.mk c1 ns fs) s1
  | r => r

mutual
def evS (Γ : List (Fn S)) : IS → Env → S → R S Fl
  | .asg i e, ρ, s => (evE Γ false e ρ s).bind fun x s1 => .ok (.nx (ρ.set i (some (e.fresh && x.isObj, unC e x)))) s1
  | .asgN i e, ρ, s => (evE Γ false e ρ s).bind fun x s1 => .ok (.nx (ρ.set i (some (false, unC e x)))) s1
  | .asgT l e, ρ, s => (evE Γ false e ρ s).bind fun x s1 => match x with
    | .tup ds => match setAll l ds ρ with
      | some ρ1 => .ok (.nx ρ1) s1
      | none => .bad
    | _ => .bad
  | .setix i k e, ρ, s => match ρ[i]? with
    | some (some (true, .lst l)) => (evE Γ false e ρ s).bind fun x s1 => (evE Γ true k ρ s1).bind fun y s2 => asInt y fun j => match ixN l.length j with
      | some n => .ok (.nx (ρ.set i (some (true, .lst (l.set n x))))) s2
      | none => .bad
    | some (some (true, .dct tk ks vs)) => (evE Γ false e ρ s).bind fun x s1 => (evE Γ true k ρ s1).bind fun y s2 => match kyOf tk y with
      | some q => if ks.length < L then .ok (.nx (ρ.set i (some (true, .dct tk (dput ks vs q x).1 (dput ks vs q x).2)))) s2 else .bad
      | none => .bad
    | some (some (false, .st n)) => (evE Γ false e ρ s).bind fun x s1 => (evE Γ true k ρ s1).bind fun y s2 => putS s2 n y x (.nx ρ)
    | _ => .bad
  | .app i e, ρ, s => match ρ[i]? with
    | some (some (true, .lst l)) => (evE Γ false e ρ s).bind fun x s1 => if l.length < L then .ok (.nx (ρ.set i (some (true, .lst (l ++ [unC e x]))))) s1 else .bad
    | _ => .bad
  | .expr e, ρ, s => (evE Γ true e ρ s).bind fun _ s1 => .ok (.nx ρ) s1
  | .aug i o e, ρ, s => match look false ρ i with
    | some x => (evE Γ true e ρ s).bind fun y s1 => match x, y, o with
      | .int a, .int b, .add => .ok (.nx (ρ.set i (some (false, .int (a + b))))) s1
      | .int a, .int b, .sub => .ok (.nx (ρ.set i (some (false, .int (a - b))))) s1
      | _, _, _ => .bad
    | none => .bad
  | .ite t a b, ρ, s => (evE Γ true t ρ s).bind fun x s1 => match truD x with
    | some true => evSs Γ a ρ s1
    | some false => evSs Γ b ρ s1
    | none => .bad
  | .for_ tg fr src body, ρ, s => (evSrc Γ src ρ s).bind fun items s1 =>
      forS (fun d ρ1 s2 => match bindTg tg d ρ1 with
        | some ρ2 => evSs Γ body ρ2 s2
        | none => .bad) items (freeAll fr ρ) s1
  | .whl t body, ρ, s => whlS (fun ρ1 s1 => (evE Γ true t ρ1 s1).bind fun x s2 => R.lift (truD x) s2) (fun ρ1 s1 => evSs Γ body ρ1 s1) FUEL ρ s
  | .ret e, ρ, s => match e with
    | .var i => match ρ[i]? with
      | some (some (true, d)) => .ok (.rt d) s
      | some (some (false, d)) => if d.isObj then .ok (.rt (.ins 0 [d])) s else .ok (.rt d) s
      | _ => .bad
    | e => (evE Γ false e ρ s).bind fun d s1 => if e.fresh || !d.isObj then .ok (.rt d) s1 else .ok (.rt (.ins 0 [d])) s1
  | .retN, _, s => .ok (.rt .non) s
  | .rse c ns es, ρ, s => (evs Γ true es ρ s).bind fun l s1 => if plains l then .ex (.mk c ns l) s1 else .bad
  | .tryR body cs _ p, ρ, s => tryF cs p (evSs Γ body ρ s)
  | .brk, ρ, s => .ok (.bk ρ) s
  | .cont, ρ, s => .ok (.ct ρ) s
  | .pass, ρ, s => .ok (.nx ρ) s
def evSs (Γ : List (Fn S)) : ISs → Env → S → R S Fl
  | .nil, ρ, s => .ok (.nx ρ) s
  | .cons x r, ρ, s => (evS Γ x ρ s).bind fun w s1 => match w with
    | .nx ρ1 => evSs Γ r ρ1 s1
    | w => .ok w s1
end
/-- a def: the number of its names, its body -/
def evD (Γ : List (Fn S)) (ps n : Nat) (body : ISs) : Fn S := fun ds s =>
  if ds.length = ps then (evSs Γ body (ds.map (fun d => some (false, d)) ++ List.replicate (n - ps) none) s).bind fun w s1 => match w with
    | .nx _ => .ok .non s1
    | .rt d => .ok d s1
    | _ => .bad
  else .bad
end
/-- the law's state: M lists, the n-th at hand n -/
abbrev SL := List (List D)
@[reducible] def slOps : StOps SL := ⟨fun s n => s[n]?, fun s n l => s.set n l⟩
end Ev
end
section
set_option linter.all false
/-! EvQ: from the syntax of a def to the small language. -/
namespace Ev
open PySem (Str Expr Stmt Scope NameKind Pos Const)

structure Cfg where
  N : List Str
  fns : List (Str × Nat)
  cls : List (Str × Nat × List Str)
  exc : List (Str × List Nat)
  flds : List Str
  tks : List Str
  kwp : List ((Str × Nat × List Str) × (Nat × List Nat))
  muts : List Str
  gc : Bool := false

def vis (sc : Scope) (x : Str) : Bool := match sc.names.lookup x with
  | some .local => true | some .cell => true | some .free => true | _ => false
def isGl (sc : Scope) (x : Str) : Bool := match sc.names.lookup x with
  | some .globalImplicit => true | _ => false
def wrt (sc : Scope) (x : Str) : Bool := match sc.names.lookup x with
  | some .local => true | some .cell => true | _ => false
def isLoc (sc : Scope) (x : Str) : Bool := match sc.names.lookup x with
  | some .local => true | _ => false
def nmOk (x : Str) : Bool := !(x == ("__debug__" : Str)) && !(x == ("__classdict__" : Str))
def ixOf (x : Str) : List Str → Option Nat
  | [] => none
  | y :: r => if y = x then some 0 else (ixOf x r).map (· + 1)
def fnOfN (x : Str) : List (Str × Nat) → Option (Nat × Nat)
  | [] => none
  | (y, m) :: r => if y = x then some (0, m) else (fnOfN x r).map fun p => (p.1 + 1, p.2)
def bopOf : PySem.Operator → Option Bop
  | .Add => some .add | .Sub => some .sub | .Mult => some .mul | .FloorDiv => some .fdiv | .Mod => some .mod | .Pow => some .pow
  | _ => none
def copOf : PySem.CmpOp → Option Cop
  | .Eq => some .eq | .NotEq => some .ne | .Lt => some .lt | .LtE => some .le | .Gt => some .gt | .GtE => some .ge | .In => some .isin | .NotIn => some .notin
  | _ => none
def notSet : Expr → Bool
  | .Set _ _ _ => false
  | _ => true
def notIf : Expr → Bool
  | .IfExp _ _ _ _ => false
  | _ => true
def kwOf (x : Str) (n : Nat) (ks : List Str) : List ((Str × Nat × List Str) × (Nat × List Nat)) → Option (Nat × List Nat)
  | [] => none
  | (a, b) :: r => if a = (x, n, ks) then some b else kwOf x n ks r
def kwNames : List PySem.Keyword → Option (List Str)
  | [] => some []
  | ⟨some x, _, _⟩ :: r => (kwNames r).map (x :: ·)
  | ⟨none, _, _⟩ :: _ => none
/-- a built-in function by its name and the number of its arguments -/
def bltOf (x : Str) (n : Nat) : Option Blt :=
  if n = 1 then
    (if x = ("len" : Str) then some .len else if x = ("abs" : Str) then some .abs else if x = ("int" : Str) then some .int1 else if x = ("sum" : Str) then some .sum
    else if x = ("min" : Str) then some .min1 else if x = ("max" : Str) then some .max1 else if x = ("any" : Str) then some .any else if x = ("all" : Str) then some .all
    else if x = ("list" : Str) then some .list else if x = ("tuple" : Str) then some .tuple else if x = ("sorted" : Str) then some .sorted else none)
  else if n = 2 then (if x = ("min" : Str) then some .min2 else if x = ("max" : Str) then some .max2 else none)
  else none
def tyOf : Expr → Option (Str × Ty)
  | .Name x _ => if x = ("int" : Str) then some (x, .int) else if x = ("bool" : Str) then some (x, .bool) else if x = ("str" : Str) then some (x, .str)
    else if x = ("tuple" : Str) then some (x, .tuple) else if x = ("list" : Str) then some (x, .list) else none
  | _ => none
def namesOf : List Expr → Option (List Str)
  | [] => some []
  | .Name x _ :: r => (namesOf r).map (x :: ·)
  | _ :: _ => none
def ixsOf (N : List Str) : List Str → Option (List Nat)
  | [] => some []
  | x :: r => match ixOf x N, ixsOf N r with
    | some i, some l => some (i :: l)
    | _, _ => none
def compTg (N : List Str) (ws : Scope) : Expr → Option Tg
  | .Name x _ => if wrt ws x then (ixOf x N).map .name else none
  | .Tuple es _ _ => match namesOf es with
    | some xs => if xs.all (wrt ws) then (ixsOf N xs).map .tup else none
    | none => none
  | _ => none
def tgIn (t : Tg) (own : List Nat) : Bool := match t with
  | .name i => own.contains i
  | .tup l => l.all fun i => own.contains i
def isTupE : Expr → Bool
  | .Tuple _ _ _ => true
  | _ => false
/-- the names that a comprehension stores -/
def ownOf (N : List Str) (scope : Scope) : Option (List Nat) := ixsOf N ((scope.names.filter fun p => match p.2 with | .local => true | .cell => true | _ => false).map (·.1) |>.filter fun x => (ixOf x N).isSome)
def relS' (scope sc : Scope) : Scope :=
  { scope with names := scope.names.map fun (n, k) => if (k == .free && sc.kind == .function && sc.names.lookup n == some .cell) then (n, .cell) else (n, k) }
def ownP (N : List Str) (scope : Scope) : List (Str × Nat) := ((scope.names.filter fun p => match p.2 with | .local => true | .cell => true | _ => false).map (·.1)).filterMap fun x => (ixOf x N).map fun i => (x, i)
def blkB (N : List Str) (sc scope : Scope) (own : List (Str × Nat)) : Bool :=
  (match scope.kind with | .function => true | _ => false) && (scope.names.all fun y => decide (scope.names.lookup y.1 = some y.2)) && (own.all fun p => decide (N[p.2]? = some p.1)) &&
    (scope.names.all fun y => match y.2 with
      | .free => (match sc.names.lookup y.1 with | some .cell => true | some .free => true | _ => false)
      | .local => decide (y.1 ∈ own.map (·.1)) || decide (y.1 ∉ N)
      | .cell => decide (y.1 ∈ own.map (·.1)) || decide (y.1 ∉ N)
      | _ => true)
def eqs (x : Str) (s : Str) : Bool := decide (x = s)

/-- set(x) -/
def isSetC : Expr → Bool
  | .Call (.Name y _) [_] [] _ => eqs y ("set" : Str)
  | _ => false
mutual
/-- sc: the scope that runs; ws: as it is written -/
def comp (c : Cfg) : Nat → Scope → Scope → Expr → Option IE
  | 0, _, _, _ => none
  | n + 1, sc, ws, e => match e with
    | .Name x _ => if vis sc x && nmOk x then (ixOf x c.N).map .var else none
    | .Constant (.int i) _ _ => some (.c (.int i))
    | .Constant (.bool b) _ _ => some (.c (.bl b))
    | .Constant .none _ _ => some (.c .non)
    | .Constant (.str s) _ _ => some (.c (.str s))
    | .BinOp a op b _ => match bopOf op, comp c n sc ws a, comp c n sc ws b with
      | some o, some x, some y => some (.bop o x y)
      | _, _, _ => none
    | .UnaryOp .USub a _ => (comp c n sc ws a).map .neg
    | .UnaryOp .Not a _ => if notIf a then (comp c n sc ws a).map .not else none
    | .BoolOp op [a] _ => if notIf a then comp c n sc ws a else none
    | .BoolOp op (a :: b :: r) p => if notIf a then (match comp c n sc ws a, comp c n sc ws (.BoolOp op (b :: r) p) with
        | some x, some y => some (match op with | .And => .and x y | .Or => .or x y)
        | _, _ => none) else none
    | .Compare a [op] [b] _ => match op, b with
      | .Is, .Constant .none _ _ => (comp c n sc ws a).map .isN
      | .IsNot, .Constant .none _ _ => (comp c n sc ws a).map .notN
      | op, b => if notSet b then (match copOf op, comp c n sc ws a, comp c n sc ws b with
        | some o, some x, some y => some (.cmp o x y)
        | _, _, _ => none) else none
    | .IfExp t a b _ => if notIf t then (match comp c n sc ws t, comp c n sc ws a, comp c n sc ws b with
        | some x, some y, some z => some (.ite x y z)
        | _, _, _ => none) else none
    | .Tuple es _ _ => (compD c n sc ws es).map .tup
    | .List es _ => (compD c n sc ws es).map .lst
    | .Call (.Name x _) (e1 :: es) [] _ => if isGl sc x && nmOk x then (match fnOfN x c.fns with
        | some (i, m) => if (e1 :: es).length = m then (compA c n sc ws (e1 :: es)).map (.call i) else none
        | none => if eqs x ("isinstance" : Str) then (match es with
            | [t] => (match tyOf t with
              | some (y, ty) => if isGl sc y && (fnOfN y c.fns).isNone then (comp c n sc ws e1).map fun a => .isi a ty else none
              | none => none)
            | _ => none)
          else if c.gc && eqs x ("gcd" : Str) then (match es with
            | [e2] => (compA c n sc ws [e1, e2]).map (.blt .gcd)
            | _ => none)
          else if eqs x ("repr" : Str) then (match es with
            | [] => (compA c n sc ws [e1]).map (.blt .repr)
            | _ => none)
          else if eqs x ("sorted" : Str) && isSetC e1 then (match e1, es with
            | .Call (.Name y _) [e2] [] _, [] => if isGl sc y && (fnOfN y c.fns).isNone then (compA c n sc ws [e2]).map (.blt .sset) else none
            | _, _ => none)
          else (match bltOf x (e1 :: es).length with
            | some b => (compA c n sc ws (e1 :: es)).map (.blt b)
            | none => none)) else none
    | .Call (.Name x _) [] [] _ => if isGl sc x && nmOk x then (match fnOfN x c.fns with
        | some (i, 0) => some (.call i .nil)
        | _ => none) else none
    | .Call (.Name x _) es (k1 :: ks) _ => if isGl sc x && nmOk x then (match kwNames (k1 :: ks) with
        | some ns => (match kwOf x es.length ns c.kwp, compA c n sc ws es, compA c n sc ws ((k1 :: ks).map (·.value)) with
          | some (i, perm), some a, some b => some (.callp i a b perm)
          | _, _, _ => none)
        | none => none) else none
    | .Call (.Attribute (.Name x _) m apos) [k, d] [] cpos => if eqs m ("get" : Str) && apos.endLine == cpos.line && vis sc x && nmOk x then (match ixOf x c.N, comp c n sc ws k, comp c n sc ws d with
        | some i, some a, some b => some (.dget (.var i) a b)
        | _, _, _ => none) else none
    | .Subscript a (.Slice none none (some (.UnaryOp .USub (.Constant (.int 1) _ _) _)) _) _ => (comp c n sc ws a).map .rev
    | .Subscript a (.Slice lo hi none _) _ => match comp c n sc ws a, compO c n sc ws lo, compO c n sc ws hi with
      | some x, some l, some h => some (.slc x l h)
      | _, _, _ => none
    | .Subscript a i _ => match comp c n sc ws a, comp c n sc ws i with
      | some x, some y => some (.sub x y)
      | _, _ => none
    | .ListComp elt [⟨tg, iter, ifs, 0⟩] scope _ =>
      let sc1 := relS' scope sc
      let own := (ownP c.N scope).map (·.2)
      if blkB c.N sc scope (ownP c.N scope) && notSet iter then (match compTg c.N scope tg, compSrc c n sc ws (isTupE tg) iter, compT c n sc1 scope ifs, comp c n sc1 scope elt with
        | some t, some s, some f, some e1 => if tgIn t own then some (.lc e1 t own s f) else none
        | _, _, _, _ => none) else none
    | _ => none
/-- arguments -/
def compA (c : Cfg) : Nat → Scope → Scope → List Expr → Option IEs
  | 0, _, _, _ => none
  | _, _, _, [] => some .nil
  | n + 1, sc, ws, e :: r => match comp c n sc ws e, compA c n sc ws r with
    | some x, some y => some (.cons x y)
    | _, _ => none
/-- a display's items -/
def compD (c : Cfg) : Nat → Scope → Scope → List Expr → Option IEs
  | 0, _, _, _ => none
  | n + 1, sc, ws, es => match es with
    | [] => some .nil
    | .Starred e _ :: r => (match comp c n sc ws e, compD c n sc ws r with
      | some x, some y => some (.star x y)
      | _, _ => none)
    | e :: r => (match comp c n sc ws e, compD c n sc ws r with
      | some x, some y => some (.cons x y)
      | _, _ => none)
/-- a comprehension's tests: none or one -/
def compT (c : Cfg) : Nat → Scope → Scope → List Expr → Option IEs
  | 0, _, _, _ => none
  | n + 1, sc, ws, es => match es with
    | [] => some .nil
    | [e] => if notIf e then (comp c n sc ws e).map fun x => .cons x .nil else none
    | _ => none
def compO (c : Cfg) : Nat → Scope → Scope → Option Expr → Option IEo
  | 0, _, _, _ => none
  | _, _, _, none => some .none
  | n + 1, sc, ws, some e => (comp c n sc ws e).map .some
def compSrc (c : Cfg) : Nat → Scope → Scope → Bool → Expr → Option ISrc
  | 0, _, _, _, _ => none
  | n + 1, sc, ws, tup, e => match e with
    | .Call (.Name x _) [a] [] _ => if isGl sc x && nmOk x && !(fnOfN x c.fns).isSome then
        (if eqs x ("range" : Str) then (comp c n sc ws a).map .rng1
        else if eqs x ("enumerate" : Str) then (if tup then (comp c n sc ws a).map .enum else none)
        else if eqs x ("reversed" : Str) then (match a with
          | .Call (.Name y _) [b] [] _ => if isGl sc y && eqs y ("range" : Str) && !(fnOfN y c.fns).isSome then (comp c n sc ws b).map .rrng1 else (comp c n sc ws a).map .rev
          | .Call (.Name y _) [b, d] [] _ => if isGl sc y && eqs y ("range" : Str) && !(fnOfN y c.fns).isSome then (match comp c n sc ws b, comp c n sc ws d with
              | some p, some q => some (.rrng2 p q)
              | _, _ => none) else (comp c n sc ws a).map .rev
          | a => (comp c n sc ws a).map .rev)
        else (comp c n sc ws e).map .seq)
      else (comp c n sc ws e).map .seq
    | .Call (.Name x _) [a, b] [] _ => if isGl sc x && nmOk x && !(fnOfN x c.fns).isSome then
        (if eqs x ("range" : Str) then (match comp c n sc ws a, comp c n sc ws b with
          | some p, some q => some (.rng2 p q)
          | _, _ => none)
        else if eqs x ("zip" : Str) then (if tup then (match comp c n sc ws a, comp c n sc ws b with
          | some p, some q => some (.zip p q)
          | _, _ => none) else none)
        else (comp c n sc ws e).map .seq)
      else (comp c n sc ws e).map .seq
    | e => (comp c n sc ws e).map .seq
end

def clsOf (x : Str) : List (Str × Nat × List Str) → Option (Nat × List Str)
  | [] => none
  | (y, p) :: r => if y = x then some p else clsOf x r
def excOf (x : Str) : List (Str × List Nat) → Option (List Nat)
  | [] => none
  | (y, p) :: r => if y = x then some p else excOf x r
def constOf : Expr → Option D
  | .UnaryOp .USub (.Constant (.int i) _ _) _ => some (.int (-i))
  | .Constant (.int i) _ _ => some (.int i)
  | .Constant (.bool b) _ _ => some (.bl b)
  | .Constant .none _ _ => some .non
  | .Constant (.str s) _ _ => some (.str s)
  | _ => none
/-- names that hold a test of the error's class -/
abbrev XEnv := List (Str × IXc)
def compXc (c : Cfg) (sc : Scope) (n : Str) (E : XEnv) : Nat → Expr → Option IXc
  | 0, _ => none
  | k + 1, e => match e with
    | .Call (.Name f _) [.Name e1 _, .Name y _] [] _ => if eqs f ("isinstance" : Str) && isGl sc f && isGl sc y && nmOk y && (fnOfN f c.fns).isNone && decide (e1 = n) then (excOf y c.exc).map .cls else none
    | .UnaryOp .Not a _ => (compXc c sc n E k a).map .not
    | .BoolOp _ [a] _ => compXc c sc n E k a
    | .BoolOp op (a :: b :: r) p => match compXc c sc n E k a, compXc c sc n E k (.BoolOp op (b :: r) p) with
      | some x, some y => some (match op with | .And => .and x y | .Or => .or x y)
      | _, _ => none
    | .Name x _ => if isLoc sc x && nmOk x && (ixOf x c.N).isSome then E.lookup x else none
    | _ => none
def notIfB : Expr → Bool
  | .IfExp _ _ _ _ => false
  | _ => true
def compXs (c : Cfg) (sc : Scope) (n : Str) (E : XEnv) : List Expr → Option IXs
  | [] => some .nil
  | e :: r => match compXs c sc n E r with
    | none => none
    | some l => match e with
      | .Attribute (.Name x _) f _ => if x = n then some (.fld f l) else none
      | e => match constOf e with
        | some d => some (.c d l)
        | none => (compXc c sc n E 20 e).map fun t => .isb t l
def compXr (c : Cfg) (sc : Scope) (n : Str) (E : XEnv) : Expr → Option IXr
  | .Tuple es _ _ => if es.length ≤ 1000 then (compXs c sc n E es).map .tup else none
  | e => (constOf e).map .c
def compXp (c : Cfg) (sc : Scope) (n : Str) (i : Nat) : XEnv → List Stmt → Option IXp
  | E, [.Return (some e) _] => (compXr c sc n E e).map .ret
  | E, .If t [.Return (some e) _] [] _ :: r => match compXc c sc n E 20 t, compXr c sc n E e, compXp c sc n i E r with
    | some t, some x, some p => some (.ite t x p)
    | _, _, _ => none
  | E, .Assign [.Name x _] e _ :: r => if isLoc sc x && nmOk x then (match ixOf x c.N, compXc c sc n E 20 e with
    | some j, some t => if j = i then none else (compXp c sc n i ((x, t) :: E) r).map (.skip j t)
    | _, _ => none) else none
  | _, _ => none
def xsIn (l : List Str) : IXs → Bool
  | .nil => true
  | .c _ r => xsIn l r
  | .fld x r => l.contains x && xsIn l r
  | .isb _ r => xsIn l r
def xrIn (l : List Str) : IXr → Bool
  | .tup es => xsIn l es
  | .c _ => true
def xpIn (l : List Str) : IXp → Bool
  | .ret r => xrIn l r
  | .ite _ r p => xrIn l r && xpIn l p
  | .skip _ _ p => xpIn l p
def notB1 : Expr → Bool
  | .BoolOp _ [_] _ => false
  | _ => true
def isLC : Expr → Bool
  | .ListComp _ _ _ _ => true
  | .SetComp _ _ _ _ => true
  | .DictComp _ _ _ _ _ => true
  | _ => false
/-- a comprehension's list goes straight to the name: the words that tell which of two ways the machine stores it -/
def lcWay (ws : Scope) (y : Str) (py : Pos) (line : Nat) : Expr → Option Bool
  | .ListComp _ _ scope pos => if isLoc ws y && py.line == pos.line && !(scope.names.any fun (n, k) => n == y && (k == .local || k == .cell)) then some true else none
  | _ => some false
def notStar : Expr → Bool
  | .Starred _ _ => false
  | _ => true
/-- a, b = x, y: 0: not told, 1: one after the other from the left, 2 and 3: from the right, all unlike -/
def parWay (sc : Scope) (es vs : List Expr) : Nat :=
  if vs.all (PySem.foldedForSure 8) then 1 else if !(es.length == 2 || es.length == 3) then 1 else if vs.all (PySem.constantsAlone 8) then 0 else match es, vs with
    | [.Name x px, .Name y py], [a, b] => if isLoc sc x && isLoc sc y && !(x == y) && px.line == py.line && notStar a && notStar b then 2 else 0
    | [.Name x px, .Name y py, .Name z pz], [a, b, c] => if isLoc sc x && isLoc sc y && isLoc sc z && !(x == y) && !(x == z) && !(y == z) && px.line == py.line && px.line == pz.line && notStar a && notStar b && notStar c then 3 else 0
    | _, _ => 0
def parBad (sc : Scope) (es : List Expr) : Expr → Bool
  | .Tuple vs _ _ => parWay sc es vs == 0
  | _ => false
mutual
def compS (c : Cfg) : Nat → Scope → Stmt → Option IS
  | 0, _, _ => none
  | n + 1, sc, st => match st with
    | .Assign [.Name x _] (.Dict [] [] _) _ => if wrt sc x then (match ixOf x c.N with
        | some i => some (.asg i (.dnew (c.tks.contains x)))
        | none => none) else none
    | .Assign [.Name x px] e pos => if wrt sc x then (match ixOf x c.N, comp c n sc sc e, lcWay sc x px pos.line e with
        | some i, some a, some _ => some (if c.muts.contains x then .asg i a else .asgN i a)
        | _, _, _ => none) else none
    | .Assign [.Tuple es k p] e _ => if isLC e || parBad sc es e then none else (match compTg c.N sc (.Tuple es k p), comp c n sc sc e with
        | some (.tup l), some a => some (.asgT l a)
        | _, _ => none)
    | .Assign [.Subscript (.Name x _) k _] e _ => if vis sc x && nmOk x && !isLC e then (match ixOf x c.N, comp c n sc sc k, comp c n sc sc e with
        | some i, some b, some a => some (.setix i b a)
        | _, _, _ => none) else none
    | .Expr (.Call (.Name x p) es ks cpos) _ => (comp c n sc sc (.Call (.Name x p) es ks cpos)).map .expr
    | .Expr (.Constant k p cpos) _ => (comp c n sc sc (.Constant k p cpos)).map .expr
    | .Expr (.Call (.Attribute (.Name x _) m apos) [e] [] cpos) _ => if vis sc x && nmOk x && eqs m ("append" : Str) && apos.endLine == cpos.line then (match ixOf x c.N, comp c n sc sc e with
        | some i, some a => some (.app i a)
        | _, _ => none) else none
    | .AugAssign (.Name x _) op e _ => if wrt sc x && nmOk x then (match op, ixOf x c.N, comp c n sc sc e with
        | .Add, some i, some a => some (.aug i .add a)
        | .Sub, some i, some a => some (.aug i .sub a)
        | _, _, _ => none) else none
    | .If t a b _ => if notIf t then (match comp c n sc sc t, compSs c n sc a, compSs c n sc b with
        | some x, some y, some z => some (.ite x y z)
        | _, _, _ => none) else none
    | .For tg iter body [] _ => if notSet iter then (match compTg c.N sc tg, compSrc c n sc sc (isTupE tg) iter, compSs c n sc body with
        | some t, some s, some b => some (.for_ t (s.vars.filter fun i => (t.wr ++ b.wr).contains i) s b)
        | _, _, _ => none) else none
    | .While t body [] _ => if notIf t then (match comp c n sc sc t, compSs c n sc body with
        | some x, some y => some (.whl x y)
        | _, _ => none) else none
    | .Return (some e) _ => if notB1 e then (comp c n sc sc e).map .ret else none
    | .Return none _ => some .retN
    | .Raise (some (.Call (.Name x _) (e1 :: es) [] _)) none _ => if isGl sc x && nmOk x then (match clsOf x c.cls, compA c n sc sc (e1 :: es) with
        | some (k, ns), some l => if (e1 :: es).length = ns.length ∧ ns.length ≤ 900 then some (.rse k ns l) else none
        | _, _ => none) else none
    | .Try body [.ExceptHandler (some (.Name x _)) (some y) (b0 :: suite) _] [] [] _ => if isGl sc x && nmOk x && isLoc sc y && nmOk y then (match excOf x c.exc, ixOf y c.N, compSs c n sc body with
        | some cs, some i, some b => (match compXp c sc y i [] (b0 :: suite) with
          | some p => if xpIn c.flds p then some (.tryR b cs i p) else none
          | none => none)
        | _, _, _ => none) else none
    | .Break _ => some .brk
    | .Continue _ => some .cont
    | .Pass _ => some .pass
    | _ => none
def compSs (c : Cfg) : Nat → Scope → List Stmt → Option ISs
  | 0, _, _ => none
  | _, _, [] => some .nil
  | n + 1, sc, s :: r => match compS c n sc s, compSs c n sc r with
    | some x, some y => some (.cons x y)
    | _, _ => none
end
end Ev
end
section
set_option Elab.async false
set_option linter.all false
set_option maxRecDepth 100000
set_option maxHeartbeats 1000000
namespace Ev
open PySem PySem.Spec PyProof.Rows L2

/-- the value of a state list's item -/
def stV (hand : Nat → Addr) : D → V
  | .int i => .int i
  | .st n => .ref (hand n)
  | _ => .non
/-- what a law's run stands on: the written part, the source of draws (at s, over the addresses foot, its state at a heap), the own exception classes with their fields -/
structure Wd where
  K : PySem.W.Frag
  S : Type
  hand : Nat → Addr
  foot : Addr → Prop
  At : Hp → S → Prop
  stk : ∀ {H H' : Hp} {x : S}, At H x → (∀ b, foot b → H' b = H b) → At H' x
  lists : ∀ {H : Hp} {x : S} {b : Addr}, At H x → foot b → ∃ xs, H b = some (.lst xs)
  eC : Nat → Option (Addr × List PySem.Str)
  xs : Addr → Prop := fun _ => False
  ops : StOps S
  hget : ∀ {H : Hp} {x : S} {n : Nat} {l : List D}, At H x → ops.get x n = some l → foot (hand n) ∧ H (hand n) = some (.lst (l.map (stV hand))) ∧ l.all stOk = true
  hput : ∀ {H : Hp} {x : S} {n : Nat} {l l' : List D}, At H x → ops.get x n = some l → l'.length = l.length → l'.all stOk = true → At (upd H (hand n) (.lst (l'.map (stV hand)))) (ops.put x n l')
instance (W : Wd) : StOps W.S := W.ops

mutual
def toPy : D → PyData
  | .non => .none
  | .bl b => .bool b
  | .int i => .int i
  | .str x => .str x
  | .tup l => .tuple (toPys l)
  | .lst l => .list (toPys l)
  | .st _ => .none
  | .dct _ _ _ => .none
  | .ins _ _ => .none
  | .rep _ => .none
def toPys : List D → List PyData
  | [] => []
  | d :: r => toPy d :: toPys r
end
/-- a list that is only read: tracked, or the locked script -/
def LsAt (W : Wd) (Z : Addr → Prop) (H : Hp) (a : Addr) (xs : List V) : Prop := ¬ Z a ∧ Rd H a (.lst xs)
def DcAt (Z : Addr → Prop) (H : Hp) (a : Addr) (o : HO) : Prop := ¬ Z a ∧ H a = some o
def hd1 : Ky → Key
  | k :: _ => k
  | [] => .inl 0
/-- a dict's content: its keys, what stands at them -/
def dO : Bool → List Ky → List V → HO
  | true, ks, us => .dT (ks.zip us)
  | false, ks, us => .dK ((ks.map hd1).zip us)
theorem dO_nolst (tk : Bool) (ks : List Ky) (us : List V) (xs : List V) : dO tk ks us ≠ .lst xs := by cases tk <;> (intro h; cases h)
theorem dO_notup (tk : Bool) (ks : List Ky) (us : List V) (xs : List V) : dO tk ks us ≠ .tup xs := by cases tk <;> (intro h; cases h)
def dOk (tk : Bool) (ks : List Ky) (vs : List D) : Prop := ks.length = vs.length ∧ (tk = false → ∀ k ∈ ks, ∃ x, k = [x])
/-- a tuple (a display's, a slice's: always one that the heap knows) -/
def TpAt (W : Wd) (H : Hp) (a : Addr) (xs : List V) : Prop := H a = some (.tup xs) ∨ False
theorem TpAt.hp {W : Wd} {H : Hp} {a : Addr} {xs : List V} (h : TpAt W H a xs) : H a = some (.tup xs) := h.elim id False.elim
theorem LsAt.seq {W : Wd} {Z : Addr → Prop} {H : Hp} {a : Addr} {xs : List V} (h : LsAt W Z H a xs) : SqL W.K H a xs := .inl h.2
theorem rd_map {H H' : Hp} {a : Addr} {u : HO} (h : Rd H a u) (k : ∀ o, H a = some o → H' a = some o) : Rd H' a u := h.elim (fun e => .inl (k _ e)) fun ⟨o, e⟩ => .inr ⟨o, k _ e⟩
theorem rd_some {H : Hp} {a : Addr} {u : HO} (h : Rd H a u) (n : H a = none) : False := by
  rcases h with e | ⟨o, e⟩ <;> (rw [n] at e; cases e)
theorem TpAt.seq {W : Wd} {H : Hp} {a : Addr} {xs : List V} (h : TpAt W H a xs) : SqT W.K H a xs := .inl (.inl h.hp)

mutual
/-- the value v, at the heap H, is the datum d; no list of it stands where Z says -/
def Rp (W : Wd) (Z : Addr → Prop) (H : Hp) : D → V → Prop
  | .non, v => v = .non
  | .bl b, v => v = .bl b
  | .int i, v => v = .int i
  | .str x, v => v = .str x
  | .tup l, v => ∃ a vs, v = .ref a ∧ TpAt W H a vs ∧ Rps W Z H l vs
  | .lst l, v => ∃ a vs, v = .ref a ∧ LsAt W Z H a vs ∧ Rps W Z H l vs
  | .st n, v => v = .ref (W.hand n)
  | .dct tk ks l, v => ∃ a us, v = .ref a ∧ DcAt Z H a (dO tk ks us) ∧ dOk tk ks l ∧ Rps W Z H l us
  | .ins c [d], v => c = 0 ∧ d.isObj = true ∧ Rp W Z H d v
  | .ins _ _, _ => False
  | .rep d, v => v = .str (PyData.shown (toPy d))
def Rps (W : Wd) (Z : Addr → Prop) (H : Hp) : List D → List V → Prop
  | [], vs => vs = []
  | d :: r, vs => ∃ v us, vs = v :: us ∧ Rp W Z H d v ∧ Rps W Z H r us
end

section
variable {W : Wd} {Z Z' : Addr → Prop} {H H' : Hp}
mutual
theorem rp_map (hl : ∀ a o, DcAt Z H a o → DcAt Z' H' a o) (hq : ∀ a xs, LsAt W Z H a xs → LsAt W Z' H' a xs) (ht : ∀ a xs, TpAt W H a xs → TpAt W H' a xs) : ∀ (d : D) (v : V), Rp W Z H d v → Rp W Z' H' d v
  | .non, _, h => h
  | .bl _, _, h => h
  | .int _, _, h => h
  | .str _, _, h => h
  | .st _, _, h => h
  | .dct tk ks l, v, h => by
    obtain ⟨a, us, e, p, ok, q⟩ := h
    exact ⟨a, us, e, hl _ _ p, ok, rps_map hl hq ht l us q⟩
  | .ins c [d], v, h => ⟨h.1, h.2.1, rp_map hl hq ht d v h.2.2⟩
  | .ins _ [], _, h => h.elim
  | .ins _ (_ :: _ :: _), _, h => h.elim
  | .rep _, _, h => h
  | .tup l, v, h => by
    obtain ⟨a, vs, e, p, q⟩ := h
    exact ⟨a, vs, e, ht _ _ p, rps_map hl hq ht l vs q⟩
  | .lst l, v, h => by
    obtain ⟨a, vs, e, p, q⟩ := h
    exact ⟨a, vs, e, hq _ _ p, rps_map hl hq ht l vs q⟩
theorem rps_map (hl : ∀ a o, DcAt Z H a o → DcAt Z' H' a o) (hq : ∀ a xs, LsAt W Z H a xs → LsAt W Z' H' a xs) (ht : ∀ a xs, TpAt W H a xs → TpAt W H' a xs) : ∀ (ds : List D) (vs : List V), Rps W Z H ds vs → Rps W Z' H' ds vs
  | [], _, h => h
  | d :: r, vs, h => by
    obtain ⟨v, us, e, p, q⟩ := h
    exact ⟨v, us, e, rp_map hl hq ht d v p, rps_map hl hq ht r us q⟩
end
theorem rp_ins {c : Nat} {fs : List D} {v : V} (h : Rp W Z H (.ins c fs) v) : ∃ a, v = .ref a := by
  match fs, h with
  | [], h => exact h.elim
  | [d], h =>
    obtain ⟨_, ho, q⟩ := h
    cases d with
    | lst l => obtain ⟨a, _, e, _⟩ := q; exact ⟨a, e⟩
    | dct _ _ _ => obtain ⟨a, _, e, _⟩ := q; exact ⟨a, e⟩
    | _ => cases ho
  | _ :: _ :: _, h => exact h.elim
theorem rp_unw : ∀ {d : D} {v : V}, Rp W Z H d v → Rp W Z H (unw d) v
  | .ins 0 [d], v, h => h.2.2
  | .ins 0 [], _, h => h.elim
  | .ins 0 (_ :: _ :: _), _, h => h.elim
  | .ins (_ + 1) _, _, h => h
  | .non, _, h => h
  | .bl _, _, h => h
  | .int _, _, h => h
  | .str _, _, h => h
  | .st _, _, h => h
  | .dct _ _ _, _, h => h
  | .tup _, _, h => h
  | .lst _, _, h => h
  | .rep _, _, h => h
theorem rp_unC {e : IE} {d : D} {v : V} (h : Rp W Z H d v) : Rp W Z H (unC e d) v := by
  unfold unC
  split
  · exact rp_unw h
  · exact h
theorem unC_obj {e : IE} {d : D} (h : d.isObj = true) : unC e d = d := by
  unfold unC
  split
  · cases d <;> first | rfl | cases h
  · rfl
mutual
theorem rp_plain : ∀ (d : D) (v : V), d.plain = true → Rp W Z H d v → Rp W Z' H d v
  | .non, _, _, h => h
  | .bl _, _, _, h => h
  | .int _, _, _, h => h
  | .str _, _, _, h => h
  | .st _, _, c, _ => by simp [D.plain] at c
  | .dct _ _ _, _, c, _ => by simp [D.plain] at c
  | .ins _ _, _, c, _ => by simp [D.plain] at c
  | .rep _, _, _, h => h
  | .lst _, _, c, _ => by simp [D.plain] at c
  | .tup l, v, c, h => by
    obtain ⟨a, vs, e, p, q⟩ := h
    exact ⟨a, vs, e, p, rps_plain l vs (by simpa [D.plain] using c) q⟩
theorem rps_plain : ∀ (ds : List D) (vs : List V), plains ds = true → Rps W Z H ds vs → Rps W Z' H ds vs
  | [], _, _, h => h
  | d :: r, vs, c, h => by
    obtain ⟨v, us, e, p, q⟩ := h
    have c' : d.plain = true ∧ plains r = true := by simpa [plains] using c
    exact ⟨v, us, e, rp_plain d v c'.1 p, rps_plain r us c'.2 q⟩
end
theorem Rps.length : ∀ {ds : List D} {vs : List V}, Rps W Z H ds vs → vs.length = ds.length
  | [], _, h => by rw [show _ = [] from h]; rfl
  | d :: r, vs, h => by
    obtain ⟨v, us, e, _, q⟩ := h
    rw [e, List.length_cons, List.length_cons, Rps.length q]
theorem Rps.append : ∀ {ds es : List D} {vs us : List V}, Rps W Z H ds vs → Rps W Z H es us → Rps W Z H (ds ++ es) (vs ++ us)
  | [], _, vs, _, h, q => by rw [show vs = [] from h]; exact q
  | d :: r, es, vs, us, h, q => by
    obtain ⟨v, ws, e, p, t⟩ := h
    exact ⟨v, ws ++ us, by rw [e]; rfl, p, Rps.append t q⟩
theorem Rps.one {d : D} {v : V} (h : Rp W Z H d v) : Rps W Z H [d] [v] := ⟨v, [], rfl, h, rfl⟩
theorem Rps.get : ∀ {ds : List D} {vs : List V} {i : Nat} {d : D}, Rps W Z H ds vs → ds[i]? = some d → ∃ v, vs[i]? = some v ∧ Rp W Z H d v
  | [], _, _, _, _, e => by simp at e
  | d :: r, vs, 0, d', h, e => by
    obtain ⟨v, us, e1, p, q⟩ := h
    have : d = d' := by simpa using e
    subst this; subst e1
    exact ⟨v, rfl, p⟩
  | d :: r, vs, i + 1, _, h, e => by
    obtain ⟨v, us, e1, p, q⟩ := h
    subst e1
    obtain ⟨u, e2, p2⟩ := Rps.get (i := i) q (by simpa using e)
    exact ⟨u, by simpa using e2, p2⟩
theorem Rps.getV {ds : List D} {vs : List V} {i : Nat} {v : V} (h : Rps W Z H ds vs) (e : vs[i]? = some v) : ∃ d, ds[i]? = some d ∧ Rp W Z H d v := by
  have l := Rps.length h
  obtain ⟨hi, _⟩ := List.getElem?_eq_some_iff.mp e
  have hd : ds[i]? = some (ds[i]'(by omega)) := List.getElem?_eq_some_iff.mpr ⟨by omega, rfl⟩
  obtain ⟨u, e2, p⟩ := Rps.get h hd
  rw [e] at e2; cases e2
  exact ⟨_, hd, p⟩
theorem Rps.set : ∀ {ds : List D} {vs : List V} {i : Nat} {d : D} {v : V}, Rps W Z H ds vs → Rp W Z H d v → Rps W Z H (ds.set i d) (vs.set i v)
  | [], vs, i, _, _, h, _ => by rw [show vs = [] from h]; exact rfl
  | d :: r, vs, 0, e, v, h, p => by
    obtain ⟨u, us, e1, _, q⟩ := h
    subst e1
    exact ⟨v, us, rfl, p, q⟩
  | d :: r, vs, i + 1, e, v, h, p => by
    obtain ⟨u, us, e1, p1, q⟩ := h
    subst e1
    exact ⟨u, us.set i v, rfl, p1, Rps.set q p⟩
theorem Rps.drop : ∀ {ds : List D} {vs : List V} (n : Nat), Rps W Z H ds vs → Rps W Z H (ds.drop n) (vs.drop n)
  | _, _, 0, h => h
  | [], vs, n + 1, h => by rw [show vs = [] from h]; exact rfl
  | d :: r, vs, n + 1, h => by
    obtain ⟨u, us, e1, _, q⟩ := h
    subst e1
    exact Rps.drop n q
theorem Rps.take : ∀ {ds : List D} {vs : List V} (n : Nat), Rps W Z H ds vs → Rps W Z H (ds.take n) (vs.take n)
  | _, _, 0, _ => by simp [Rps]
  | [], vs, n + 1, h => by rw [show vs = [] from h]; exact rfl
  | d :: r, vs, n + 1, h => by
    obtain ⟨u, us, e1, p, q⟩ := h
    subst e1
    exact ⟨u, us.take n, rfl, p, Rps.take n q⟩
theorem Rps.reverse : ∀ {ds : List D} {vs : List V}, Rps W Z H ds vs → Rps W Z H ds.reverse vs.reverse
  | [], vs, h => by rw [show vs = [] from h]; exact rfl
  | d :: r, vs, h => by
    obtain ⟨u, us, e1, p, q⟩ := h
    subst e1
    rw [List.reverse_cons, List.reverse_cons]
    exact Rps.append (Rps.reverse q) (.one p)
theorem Rps.ints : ∀ {ds : List D} {vs : List V} {is : List Int}, D.ints ds = some is → Rps W Z H ds vs → vs = is.map V.int
  | [], vs, is, e, h => by
    have : is = [] := by simpa [D.ints] using e.symm
    rw [this]; exact h
  | .int i :: r, vs, is, e, h => by
    obtain ⟨v, us, e1, p, q⟩ := h
    cases c : D.ints r with
    | none => simp [D.ints, c] at e
    | some js =>
      have : is = i :: js := by simpa [D.ints, c] using e.symm
      subst this; subst e1
      rw [show v = .int i from p, Rps.ints c q]; rfl
  | .non :: _, _, _, e, _ => by simp [D.ints] at e
  | .bl _ :: _, _, _, e, _ => by simp [D.ints] at e
  | .str _ :: _, _, _, e, _ => by simp [D.ints] at e
  | .tup _ :: _, _, _, e, _ => by simp [D.ints] at e
  | .lst _ :: _, _, _, e, _ => by simp [D.ints] at e
  | .st _ :: _, _, _, e, _ => by simp [D.ints] at e
  | .dct _ _ _ :: _, _, _, e, _ => by simp [D.ints] at e
  | .ins _ _ :: _, _, _, e, _ => by simp [D.ints] at e
  | .rep _ :: _, _, _, e, _ => by simp [D.ints] at e
theorem Rps.bls : ∀ {ds : List D} {vs : List V} {is : List Bool}, D.bls ds = some is → Rps W Z H ds vs → vs = is.map V.bl
  | [], vs, is, e, h => by
    have : is = [] := by simpa [D.bls] using e.symm
    rw [this]; exact h
  | .bl i :: r, vs, is, e, h => by
    obtain ⟨v, us, e1, p, q⟩ := h
    cases c : D.bls r with
    | none => simp [D.bls, c] at e
    | some js =>
      have : is = i :: js := by simpa [D.bls, c] using e.symm
      subst this; subst e1
      rw [show v = .bl i from p, Rps.bls c q]; rfl
  | .non :: _, _, _, e, _ => by simp [D.bls] at e
  | .int _ :: _, _, _, e, _ => by simp [D.bls] at e
  | .str _ :: _, _, _, e, _ => by simp [D.bls] at e
  | .tup _ :: _, _, _, e, _ => by simp [D.bls] at e
  | .lst _ :: _, _, _, e, _ => by simp [D.bls] at e
  | .st _ :: _, _, _, e, _ => by simp [D.bls] at e
  | .dct _ _ _ :: _, _, _, e, _ => by simp [D.bls] at e
  | .ins _ _ :: _, _, _, e, _ => by simp [D.bls] at e
  | .rep _ :: _, _, _, e, _ => by simp [D.bls] at e
theorem rps_ints (is : List Int) : Rps W Z H (is.map D.int) (is.map V.int) := by
  induction is with
  | nil => rfl
  | cons i r ih => exact ⟨.int i, _, rfl, rfl, ih⟩
end

/-- an expression has run: all but the draws' own stands -/
structure Kp (W : Wd) (H H' : Hp) : Prop where
  keep : ∀ b o, ¬ W.foot b → H b = some o → H' b = some o
  tups : ∀ b xs, H b = some (.tup xs) → H' b = some (.tup xs)
  dom : ∀ b, H b ≠ none → H' b ≠ none
/-- a statement has run: all that is not owned stands -/
structure Stp (Z : Addr → Prop) (H : Hp) (Z' : Addr → Prop) (H' : Hp) : Prop where
  keep : ∀ b o, ¬ Z b → H b = some o → H' b = some o
  tups : ∀ b xs, H b = some (.tup xs) → H' b = some (.tup xs)
  dom : ∀ b, H b ≠ none → H' b ≠ none
  new : ∀ b, Z' b → Z b ∨ H b = none
section
variable {W : Wd} {Z Z' Z'' : Addr → Prop} {H H' H'' : Hp}
theorem Kp.refl (W : Wd) (H : Hp) : Kp W H H := ⟨fun _ _ _ h => h, fun _ _ h => h, fun _ h => h⟩
theorem Kp.trans (a : Kp W H H') (b : Kp W H' H'') : Kp W H H'' := ⟨fun x o n h => b.keep x o n (a.keep x o n h), fun x xs h => b.tups x xs (a.tups x xs h), fun x h => b.dom x (a.dom x h)⟩
theorem Kp.new {p : Addr} {o : HO} (h : H p = none) : Kp W H (upd H p o) :=
  ⟨fun b u _ e => by rw [upd_ne (ne_of_none e h)]; exact e, fun b u e => by rw [upd_ne (ne_of_none e h)]; exact e,
   fun b e => by
     by_cases hb : b = p
     · subst hb; exact absurd h e
     · rw [upd_ne hb]; exact e⟩
theorem Stp.refl (Z : Addr → Prop) (H : Hp) : Stp Z H Z H := ⟨fun _ _ _ h => h, fun _ _ h => h, fun _ h => h, fun _ h => .inl h⟩
theorem Stp.trans (a : Stp Z H Z' H') (b : Stp Z' H' Z'' H'') : Stp Z H Z'' H'' :=
  ⟨fun x o n h => b.keep x o (fun z => (a.new x z).elim n fun q => by rw [q] at h; cases h) (a.keep x o n h), fun x xs h => b.tups x xs (a.tups x xs h), fun x h => b.dom x (a.dom x h),
   fun x z => (b.new x z).elim (a.new x) fun q => by
     cases e : H x with
     | none => exact .inr rfl
     | some o => exact absurd q (a.dom x (by rw [e]; simp))⟩
theorem Kp.stp (k : Kp W H H') (hf : ∀ b, W.foot b → Z b) : Stp Z H Z H' := ⟨fun b o n h => k.keep b o (fun f => n (hf b f)) h, k.tups, k.dom, fun _ z => .inl z⟩
theorem Stp.rp (t : Stp Z H Z' H') {d : D} {v : V} (h : Rp W Z H d v) : Rp W Z' H' d v := rp_map
  (fun a xs q => ⟨fun z => (t.new a z).elim q.1 fun n => (by have := q.2; rw [n] at this; cases this), t.keep _ _ q.1 q.2⟩)
  (fun a xs q => ⟨fun z => (t.new a z).elim q.1 fun n => rd_some q.2 n, rd_map q.2 fun o e => t.keep _ _ q.1 e⟩)
  (fun a xs q => q.elim (fun q => .inl (t.tups _ _ q)) .inr) d v h
theorem Stp.rps (t : Stp Z H Z' H') {d : List D} {v : List V} (h : Rps W Z H d v) : Rps W Z' H' d v := rps_map
  (fun a xs q => ⟨fun z => (t.new a z).elim q.1 fun n => (by have := q.2; rw [n] at this; cases this), t.keep _ _ q.1 q.2⟩)
  (fun a xs q => ⟨fun z => (t.new a z).elim q.1 fun n => rd_some q.2 n, rd_map q.2 fun o e => t.keep _ _ q.1 e⟩)
  (fun a xs q => q.elim (fun q => .inl (t.tups _ _ q)) .inr) d v h
theorem Kp.rp (k : Kp W H H') (hf : ∀ b, W.foot b → Z b) {d : D} {v : V} (h : Rp W Z H d v) : Rp W Z H' d v := (k.stp hf).rp h
theorem Kp.rps (k : Kp W H H') (hf : ∀ b, W.foot b → Z b) {d : List D} {v : List V} (h : Rps W Z H d v) : Rps W Z H' d v := (k.stp hf).rps h
theorem rp_anti (hz : ∀ b, Z' b → Z b) {d : D} {v : V} (h : Rp W Z H d v) : Rp W Z' H d v :=
  rp_map (fun _ _ q => ⟨fun z => q.1 (hz _ z), q.2⟩) (fun _ _ q => ⟨fun z => q.1 (hz _ z), q.2⟩) (fun _ _ q => q) d v h
theorem rps_anti (hz : ∀ b, Z' b → Z b) {d : List D} {v : List V} (h : Rps W Z H d v) : Rps W Z' H d v :=
  rps_map (fun _ _ q => ⟨fun z => q.1 (hz _ z), q.2⟩) (fun _ _ q => ⟨fun z => q.1 (hz _ z), q.2⟩) (fun _ _ q => q) d v h
/-- what is represented stands apart from an address that the heap does not know -/
theorem rp_apart {a : Addr} (ha : H a = none) {d : D} {v : V} (h : Rp W Z H d v) : Rp W (fun b => Z b ∨ b = a) H d v :=
  rp_map (fun c xs q => ⟨fun z => z.elim q.1 fun e => (by subst e; have := q.2; rw [ha] at this; cases this), q.2⟩) (fun c xs q => ⟨fun z => z.elim q.1 fun e => (by subst e; exact rd_some q.2 ha), q.2⟩) (fun _ _ q => q) d v h
theorem rps_apart {a : Addr} (ha : H a = none) {d : List D} {v : List V} (h : Rps W Z H d v) : Rps W (fun b => Z b ∨ b = a) H d v :=
  rps_map (fun c xs q => ⟨fun z => z.elim q.1 fun e => (by subst e; have := q.2; rw [ha] at this; cases this), q.2⟩) (fun c xs q => ⟨fun z => z.elim q.1 fun e => (by subst e; exact rd_some q.2 ha), q.2⟩) (fun _ _ q => q) d v h
end

/-- an own list, an own dict: it stands at a -/
def OwnAt (W : Wd) (Z : Addr → Prop) (H : Hp) : D → Addr → Prop
  | .lst l, a => ∃ vs, H a = some (.lst vs) ∧ Rps W Z H l vs
  | .dct tk ks l, a => ∃ us, H a = some (dO tk ks us) ∧ dOk tk ks l ∧ Rps W Z H l us
  | _, _ => False
theorem OwnAt.some {W : Wd} {Z : Addr → Prop} {H : Hp} {d : D} {a : Addr} (o : OwnAt W Z H d a) : ∃ x, H a = some x ∧ ∀ xs, x ≠ .tup xs := by
  cases d with
  | lst l => obtain ⟨vs, q, _⟩ := o; exact ⟨_, q, fun xs h => by cases h⟩
  | dct tk ks l => obtain ⟨vs, q, _⟩ := o; exact ⟨_, q, dO_notup tk ks vs⟩
  | _ => exact o.elim
theorem OwnAt.move {W : Wd} {Z Z' : Addr → Prop} {H H' : Hp} {d : D} {a : Addr} (o : OwnAt W Z H d a) (h : ∀ x, H a = .some x → H' a = .some x) (r : ∀ l vs, Rps W Z H l vs → Rps W Z' H' l vs) : OwnAt W Z' H' d a := by
  cases d with
  | lst l => obtain ⟨vs, q, p⟩ := o; exact ⟨vs, h _ q, r _ _ p⟩
  | dct tk ks l => obtain ⟨vs, q, ok, p⟩ := o; exact ⟨vs, h _ q, ok, r _ _ p⟩
  | _ => exact o.elim
theorem OwnAt.rp {W : Wd} {Z Z' : Addr → Prop} {H : Hp} {d : D} {a : Addr} (o : OwnAt W Z H d a) (n : ¬ Z' a) (hz : ∀ b, Z' b → Z b) : Rp W Z' H d (.ref a) := by
  cases d with
  | lst l => obtain ⟨vs, q, p⟩ := o; exact ⟨a, vs, rfl, ⟨n, .inl q⟩, rps_anti hz p⟩
  | dct tk ks l => obtain ⟨vs, q, ok, p⟩ := o; exact ⟨a, vs, rfl, ⟨n, q⟩, ok, rps_anti hz p⟩
  | _ => exact o.elim
/-- the slots σ at the heap H are the names' data ρ; H0: the heap at the def's entry; Z: what is owned -/
structure SR (W : Wd) (H0 : Hp) (Z : Addr → Prop) (ρ : Env) (σ : L2.St) (H : Hp) : Prop where
  kp : Kp W H0 H
  ft : ∀ b, W.foot b → Z b
  own : ∀ b, Z b → W.foot b ∨ ((W.xs b ∨ H0 b = none) ∧ H b ≠ none)
  fr : ∀ (i : Nat) d, ρ[i]? = some (some (false, d)) → ∃ v, σ[i]? = some (some v) ∧ Rp W Z H d v
  ow : ∀ (i : Nat) d, ρ[i]? = some (some (true, d)) → ∃ a, σ[i]? = some (some (.ref a)) ∧ Z a ∧ ¬ W.foot a ∧ OwnAt W Z H d a
  ds : ∀ (i j : Nat) d e a, ρ[i]? = some (some (true, d)) → ρ[j]? = some (some (true, e)) → σ[i]? = some (some (.ref a)) → σ[j]? = some (some (.ref a)) → i = j
  len : ρ.length = σ.length
  on : ∀ (i : Nat) d a, ρ[i]? = some (some (true, d)) → σ[i]? = some (some (.ref a)) → H0 a = none
  nd : ∀ b, W.xs b → Z b ∧ H0 b ≠ none
theorem SR.mono {W : Wd} {H0 : Hp} {Z : Addr → Prop} {ρ : Env} {σ : L2.St} {H H' : Hp} (s : SR W H0 Z ρ σ H) (k : Kp W H H') : SR W H0 Z ρ σ H' where
  kp := s.kp.trans k
  ft := s.ft
  own := fun b z => (s.own b z).elim .inl fun q => .inr ⟨q.1, k.dom b q.2⟩
  fr := fun i d e => let ⟨v, e1, p⟩ := s.fr i d e; ⟨v, e1, k.rp s.ft p⟩
  ow := fun i d e => by
    obtain ⟨a, e1, z, nf, o⟩ := s.ow i d e
    refine ⟨a, e1, z, nf, ?_⟩
    exact o.move (fun x e => k.keep _ _ nf e) fun l vs r => k.rps s.ft r
  ds := s.ds
  len := s.len
  on := s.on
  nd := s.nd
/-- a value that is only looked at: what it is, or an own list by its name -/
def Bw (W : Wd) (Z : Addr → Prop) (ρ : Env) (σ : L2.St) (H : Hp) (d : D) (v : V) : Prop := Rp W Z H d v ∨ ∃ i : Nat, ρ[i]? = some (some (true, d)) ∧ σ[i]? = some (some v)
theorem Bw.mono {W : Wd} {H0 : Hp} {Z : Addr → Prop} {ρ : Env} {σ : L2.St} {H H' : Hp} {d : D} {v : V} (b : Bw W Z ρ σ H d v) (s : SR W H0 Z ρ σ H) (k : Kp W H H') : Bw W Z ρ σ H' d v := b.elim (fun q => .inl (k.rp s.ft q)) .inr
/-- what it is, for whoever only reads -/
theorem Bw.rd {W : Wd} {H0 : Hp} {Z : Addr → Prop} {ρ : Env} {σ : L2.St} {H : Hp} {d : D} {v : V} (b : Bw W Z ρ σ H d v) (s : SR W H0 Z ρ σ H) : Rp W W.foot H d v := by
  rcases b with h | ⟨i, e1, e2⟩
  · exact rp_anti s.ft h
  · obtain ⟨a, e3, z, nf, o⟩ := s.ow i d e1
    rw [e2] at e3; cases e3
    exact o.rp nf s.ft
/-- a new value: a list of it stands at a new address -/
def Fr (W : Wd) (Z : Addr → Prop) (H H' : Hp) : D → V → Prop
  | .lst l, v => ∃ a vs, v = .ref a ∧ H a = none ∧ H' a = some (.lst vs) ∧ Rps W (fun b => Z b ∨ b = a) H' l vs
  | .dct tk ks l, v => ∃ a us, v = .ref a ∧ H a = none ∧ H' a = some (dO tk ks us) ∧ dOk tk ks l ∧ Rps W (fun b => Z b ∨ b = a) H' l us
  | d, v => Rp W Z H' d v
theorem Fr.rp {W : Wd} {Z : Addr → Prop} {H H' : Hp} {d : D} {v : V} (h : Fr W Z H H' d v) (hz : ∀ b, Z b → H b ≠ none) : Rp W Z H' d v := by
  cases d with
  | lst l =>
    obtain ⟨a, vs, e, n, q, p⟩ := h
    exact ⟨a, vs, e, ⟨fun z => hz a z n, .inl q⟩, rps_anti (fun b z => .inl z) p⟩
  | dct tk ks l =>
    obtain ⟨a, vs, e, n, q, ok, p⟩ := h
    exact ⟨a, vs, e, ⟨fun z => hz a z n, q⟩, ok, rps_anti (fun b z => .inl z) p⟩
  | _ => exact h
/-- a new value, from an earlier heap -/
theorem Fr.back {W : Wd} {Z : Addr → Prop} {H H1 H' : Hp} {d : D} {v : V} (k : Kp W H H1) (h : Fr W Z H1 H' d v) : Fr W Z H H' d v := by
  cases d with
  | lst l =>
    obtain ⟨a, vs, e, n, q, p⟩ := h
    refine ⟨a, vs, e, ?_, q, p⟩
    cases e : H a with
    | none => rfl
    | some o => exact absurd n (k.dom a (by rw [e]; simp))
  | dct tk ks l =>
    obtain ⟨a, vs, e, n, q, p⟩ := h
    refine ⟨a, vs, e, ?_, q, p⟩
    cases e : H a with
    | none => rfl
    | some o => exact absurd n (k.dom a (by rw [e]; simp))
  | _ => exact h
theorem SR.zdom {W : Wd} {H0 : Hp} {Z : Addr → Prop} {ρ : Env} {σ : L2.St} {H : Hp} {st : W.S} (s : SR W H0 Z ρ σ H) (a : W.At H st) : ∀ b, Z b → H b ≠ none := fun b z =>
  (s.own b z).elim (fun f => by obtain ⟨xs, e⟩ := W.lists a f; rw [e]; simp) fun q => q.2

/-- the error's own dict holds its fields -/
def ExAt (W : Wd) (H : Hp) : Exc → Addr → Addr → Prop
  | .mk n names fs, dx, C => ∃ (vs : List V) (l : List (PySem.Str × V)), W.eC n = some (C, names) ∧ names.length = vs.length ∧ H dx = some (.xd l) ∧ (∀ (i : Nat) x v, names[i]? = some x → vs[i]? = some v → l.lookup x = some v) ∧
      plains fs = true ∧ Rps W W.foot H fs vs
/-- what becomes of r: K of its value; an error as it is wished -/
def Go {α : Type} (W : Wd) (Wx : WX) (σ : L2.St) (H : Hp) (r : R W.S α) (Kk : α → W.S → Prop) : Prop := match r with
  | .ok a st => Kk a st
  | .ex e st => ∀ H' dx C, W.At H' st → Kp W H H' → ExAt W H' e dx C → Wx (.ref C) (some dx) σ H'
  | .bad => False
section
variable {W : Wd} {Wx : WX} {σ : L2.St} {H H1 : Hp} {α β : Type}
theorem Go.imp {r : R W.S α} {Kk Kk' : α → W.S → Prop} (h : Go W Wx σ H r Kk) (f : ∀ a st, Kk a st → Kk' a st) : Go W Wx σ H r Kk' := by
  cases r with
  | ok a st => exact f a st h
  | ex e st => exact h
  | bad => exact h
theorem Go.mono {r : R W.S α} {Kk : α → W.S → Prop} (h : Go W Wx σ H r Kk) (k : Kp W H H1) : Go W Wx σ H1 r Kk := by
  cases r with
  | ok a st => exact h
  | ex e st => exact fun H' dx C a q x => h H' dx C a (k.trans q) x
  | bad => exact h
theorem go_bind {x : R W.S α} {g : α → W.S → R W.S β} {Kk : β → W.S → Prop} (h : Go W Wx σ H (x.bind g) Kk) : Go W Wx σ H x fun a st => ∀ H1, Kp W H H1 → Go W Wx σ H1 (g a st) Kk := by
  cases x with
  | ok a st => exact fun H1 k => Go.mono h k
  | ex e st => exact h
  | bad => exact h
theorem go_lift {o : Option α} {st : W.S} {Kk : α → W.S → Prop} (h : Go W Wx σ H (R.lift o st) Kk) : ∃ a, o = some a ∧ Kk a st := by
  cases o with
  | none => exact h.elim
  | some a => exact ⟨a, rfl, h⟩
end
/-- the kinds of an expression's value: looked at, plain, new -/
abbrev Pq := (Addr → Prop) → Env → L2.St → Hp → Hp → D → V → Prop
def qB (W : Wd) : Pq := fun Z ρ σ _ H' d v => Bw W Z ρ σ H' d v
def qN (W : Wd) : Pq := fun Z _ _ _ H' d v => Rp W Z H' d v
def qF (W : Wd) : Pq := fun Z _ _ H H' d v => Fr W Z H H' d v
def tEv (W : Wd) (Wx : WX) (q : Pq) (f : Env → W.S → R W.S D) : TE := fun σ H Q => ∃ H0 Z ρ st, SR W H0 Z ρ σ H ∧ W.At H st ∧
  Go W Wx σ H (f ρ st) fun d st' => ∀ H' v, W.At H' st' → Kp W H H' → q Z ρ σ H H' d v → Q v H'
theorem PE.imp {X : Cx} {e : Expr} {t t' : TE} (h : PE X e t) (i : ∀ σ H Q, t' σ H Q → t σ H Q) : PE X e t' := ⟨fun pins s σ H Q I q => h.run pins s σ H Q I (i σ H Q q)⟩
theorem PT.imp {X : Cx} {e : Expr} {t t' : TT} (h : PT X e t) (i : ∀ σ H Q, t' σ H Q → t σ H Q) : PT X e t' := ⟨fun pins s σ H Q I q => h.run pins s σ H Q I (i σ H Q q)⟩
theorem PA.imp {X : Cx} {e : List Expr} {t t' : TA} (h : PA X e t) (i : ∀ σ H Q, t' σ H Q → t σ H Q) : PA X e t' := ⟨fun pos pins s σ H Q I q => h.run pos pins s σ H Q I (i σ H Q q)⟩
theorem PS.imp {X : Cx} {e : Stmt} {t t' : TS} (h : PS X e t) (i : ∀ D σ H, t' D σ H → t D σ H) : PS X e t' := ⟨fun pins s σ H D I q => h.run pins s σ H D I (i D σ H q)⟩
theorem PSs.imp {X : Cx} {e : List Stmt} {t t' : TS} (h : PSs X e t) (i : ∀ D σ H, t' D σ H → t D σ H) : PSs X e t' := ⟨fun pins s σ H D I q => h.run pins s σ H D I (i D σ H q)⟩
theorem ev_NB {W : Wd} {Wx : WX} {f : Env → W.S → R W.S D} {σ : L2.St} {H : Hp} {Q : VK} (h : tEv W Wx (qB W) f σ H Q) : tEv W Wx (qN W) f σ H Q := by
  obtain ⟨H0, Z, ρ, st, s, a, g⟩ := h
  exact ⟨H0, Z, ρ, st, s, a, g.imp fun d st' k H' v a' k' q => k H' v a' k' (.inl q)⟩
theorem ev_FN {W : Wd} {Wx : WX} {f : Env → W.S → R W.S D} {σ : L2.St} {H : Hp} {Q : VK} (h : tEv W Wx (qN W) f σ H Q) : tEv W Wx (qF W) f σ H Q := by
  obtain ⟨H0, Z, ρ, st, s, a, g⟩ := h
  exact ⟨H0, Z, ρ, st, s, a, g.imp fun d st' k H' v a' k' q => k H' v a' k' (Fr.rp q (s.zdom a))⟩
end Ev
end
section
set_option Elab.async false
set_option linter.all false
set_option maxRecDepth 100000
set_option maxHeartbeats 4000000
/-! EvXi: isinstance of an exception that a suite holds, where it has a dict of its own. -/
namespace Ev
open PySem PySem.Spec PyProof.Rows L2
section
variable {P : Program} {w : World} {A : Around} {E : Value → Shared → Prop} {s : Shared} {K : PySem.W.Frag} {x D : Addr} {ox : Obj} {od : Option Obj}
open PySem.W in
theorem own_data {C : Addr} {name : PySem.Str} {a g : Value} (hc : (clsIn K C).isSome = true) (h1 : findIn K (.ref C) name = some (some a)) (h2 : specialIn K a "__get__" = some (some g)) (h3 : takesIn K a = some true) : findObj K C od name = some (.bind g a) := by
  obtain ⟨cd, e⟩ := Option.isSome_iff_exists.mp hc
  simp [findObj, e, h1, h2, h3]
open PySem.W in
theorem class_of_exc {Q : Option Value → Shared → Prop} (C : ExcC K D) (Y : K.In s.heap) (I : PySem.W.InstAt s.heap x ox D od) (h : Q (some (.ref D)) { s with toks := s.toks + 1 }) : wpAny (model P w) A (getAttr? (.ref x) "__class__") Q E s := by
  have hf : findObj K D od "__class__" = some (.bind (.builtin "getset_descriptor.__get__") (.builtin "object.__class__")) :=
    own_data (by obtain ⟨cd, hc, _⟩ := any_some C.hd; rw [hc]; rfl) C.ha C.hn C.ht
  obtain ⟨hp, g, dr, t, os⟩ := s
  have T0 := I.type (M := model P w); have T1 := looks_findIn (M := model P w) Y C.hg
  have T2 := looks_findIn (M := model P w) Y C.hk; have T3 := looks_find (M := model P w) Y I hf
  have isB : Looks (model P w) hp (isInstance (.ref x) (.type "BaseException")) true := T0.andThen (looks_subIn Y C.hs)
  have b0 : (false && onTheHeap (Value.builtin "BaseException.__getattribute__")) = false := rfl
  have b2 : (Value.builtin "BaseException.__getattribute__" == Value.builtin "object.__getattribute__") = false := by decide +kernel
  have b1 : (onTheHeap (Value.ref D) && Value.builtin "BaseException.__getattribute__" == Value.builtin "object.__getattribute__") = false := by rw [b2]; rfl
  unfold getAttr? getAttrBy? getAttrBy; refine wpAny_bind (wpAny_mkText (wpAny_bind (wpAny_attempt (wpAny_holding (wpAny_bind (T0.at (wpAny_bind (T1.at ?_))))))))
  show wpAny _ _ (if (onTheHeap (Value.ref D) && Value.builtin "BaseException.__getattribute__" == Value.builtin "object.__getattribute__") = true then _ else _) _ _ _; rw [b1, if_neg Bool.false_ne_true]
  unfold getAttrByItsOwn hookBefore; refine wpAny_bind ?_; rw [if_pos (show onTheHeap (Value.ref D) = true from rfl)]; refine T2.at ?_
  refine wpAny_bind (wpAny_attempt (wpAny_holding ?_)); unfold callGetattribute
  rw [b0, if_neg Bool.false_ne_true]
  unfold boundAndCalled; rw [PySem.F.excAttr_ValueError.ga.bind (.ref x)]; refine wpAny_bind (wpAny_pure ?_)
  show wpAny _ _ (call (.builtin "BaseException.__getattribute__") [.ref x, .str "__class__" t]) _ _ _; refine wpAny_call (codeAny_call_builtin PySem.F.excAttr_ValueError.ga.plain PySem.F.entry_bexc_ga ?_)
  refine @check_slot (model P w) _ _ ⟨hp, g, dr, t + 1, os⟩ "BaseException.__getattribute__" "BaseException" "__getattribute__" (.ref x) [.str "__class__" t] [] _ (by decide +kernel) (by decide +kernel) isB (PySem.F.args_bexc_ga (.ref x) (.str "__class__" t)) ?_
  unfold Builtin.«object.__getattribute__»; refine wpAny_bind (wpAny_of_eq (a := ((Value.ref x : Value), [Value.str "__class__" t])) (by first | rfl | (simp only [slotArgs]; rfl)) ?_)
  refine wpAny_bind (wpAny_pure (wpAny_bind (T0.at (wpAny_bind (T3.at ?_)))))
  show wpAny _ _ (holding [Value.builtin "object.__class__"] (call (.builtin "getset_descriptor.__get__") [.builtin "object.__class__", .ref x, .ref D]) >>= ret) _ _ _; refine wpAny_bind (wpAny_holding (wpAny_call (class_get (s := ⟨hp, g, dr, t + 1, os⟩) (ox := ox) (od := od) Y I C.hm ?_)))
  refine wpAny_pure ?_; show wpAny _ _ (handedOut (.ref D)) _ _ _; rw [handedOut_of (v := .ref D) rfl]
  first | exact wpAny_pure (wpAny_pure h) | exact wpAny_pure h | exact wpAny_pure (wpAny_bind (wpAny_pure (wpAny_pure h)))
open PySem.W in
theorem kitx_own (C : ExcC K D) (em : exmOne K (.ref D) (.ref D) = some true) : KitX K (.ref x) (.ref D) (fun h => PySem.W.InstAt h x ox D od) where
  ty := fun _ _ _ I => I.type
  it := fun M h Y _ => by
    have e : kitCls K (.ref D) (.ref D) = some true := by
      unfold exmOne at em
      split at em
      · exact em
      · cases em
    exact (kit_cls (M := M) Y e).2.1
  ne := fun h tp dd its n sl Y htp => by
    cases q : (Value.ref D == Value.ref tp) with
    | false => rfl
    | true =>
      exfalso
      have e : D = tp := Value.ref.inj (beq_iff_eq.mp q)
      subst e
      obtain ⟨cd, hc, _⟩ := any_some C.hd
      unfold clsIn at hc
      split at hc
      · rename_i c1 d1 cd1 sl1 ho
        have z := (Y _ _ ho).symm.trans htp
        cases z
      · cases hc
  ca := fun Y I k => class_of_exc C Y I k
/-- isinstance(e, c), e the exception that the suite holds, its fields in a dict -/
def rIsX (K : PySem.W.Frag) (D a dx : Addr) : List V → Hp → VK → Prop := fun xs H Q => ∃ (c : V) (cv : Value) (b : Bool) (fs : List (PySem.Str × V)), xs = [.ref a, c] ∧ (∀ u, RelV c u → u = cv) ∧ PySem.W.kitOne K (.ref D) cv = some b ∧ H dx = some (.xd fs) ∧ Q (.bl b) H
theorem call_isX {X : Cx} {a D dx : Addr} {oe : Obj} {pn : List (Addr × Obj)} (C : ExcC X.K D) (em : PySem.W.exmOne X.K (.ref D) (.ref D) = some true) (hz : Zc (.ref D) (some dx) oe) (hf : ∃ vs, oe.data = .fields vs) : CallR (X.suite a ((a, oe) :: pn)) (.builtin "isinstance") (rIsX X.K D a dx) := by
  intro pins s σ H xs us Q I r h
  obtain ⟨c, cv, b, fs, rfl, hcv, e, ea, q⟩ := h
  match us, r with
  | [u1, u2], .cons rx (.cons rt .nil) =>
    obtain rfl : u1 = Value.ref a := rx
    obtain rfl := hcv _ rt
    obtain ⟨ha, _⟩ := I.pin (a, oe) (List.mem_append_left _ List.mem_cons_self)
    obtain ⟨vs, hd⟩ := hf
    obtain ⟨mA, hns, _⟩ := show ObjOk X.prog X.w H s.heap dx (.xd fs) from I.hok dx _ ea
    obtain ⟨od, ho, _⟩ := lookIn_ns hns
    have J : PySem.W.InstAt s.heap a oe D (some od) := ⟨ha, hz.1, by unfold PySem.W.notCls; rw [hd] <;> rfl, by rw [hz.2]; exact ho⟩
    exact PySem.W.kia_one (kitx_own C em) I.kIn J e (fun z => nomatch z) fun tk => ⟨.bl b, H, I.kept (t' := tk) fun _ _ z => z, rfl, q⟩
end
end Ev
end
section
set_option Elab.async false
set_option linter.all false
set_option maxRecDepth 100000
set_option maxHeartbeats 4000000
/-! EvFn: what a def promises where nothing is being shown (no repr under way). -/
namespace Ev
open PySem PySem.Spec PyProof.Rows L2

structure FnG (P : Program) (w : World) (K : PySem.W.Frag) (mg : PySem.Str → Option Value) (base : Heap) (CX : CXT) (k : Nat) (f : Addr) (fd : FuncData) (ps : List PySem.Str) (sp : Sp) : Prop where
  len : ∀ vs H Q E, sp vs H Q E → vs.length = ps.length
  run : ∀ {A : Around} {outer : List PySem.Env} {s : Shared} {H : Hp} {args : Args} {us : List Value} {vs : List V} {Q : VK} {E : XK}, Room k A → A.guards = some [] → Env0 P w K mg base A outer s H → BindsTo s fd args (ps.zip us) → Vals vs us → sp vs H Q E → codeAny (model P w) A (.call (.ref f) args) (CR CX outer P w H s Q E) s
section
variable {P : Program} {w : World} {K : PySem.W.Frag} {mg : PySem.Str → Option Value} {base : Heap} {CX : CXT} {j k : Nat} {f : Addr} {fd : FuncData} {ps : List PySem.Str} {sp : Sp}
theorem _root_.L2.FnOk.g (F : FnOk P w K mg base CX k f fd ps sp) : FnG P w K mg base CX k f fd ps sp := ⟨F.len, fun {A outer s H args us vs Q E} r _ e b v h => F.run A outer s H args us vs Q E r e b v h⟩
theorem FnG.mono (F : FnG P w K mg base CX j f fd ps sp) (h : j ≤ k) : FnG P w K mg base CX k f fd ps sp := ⟨F.len, fun r g e b v q => F.run (r.mono h) g e b v q⟩
/-- a def by its body -/
theorem fn_g {x q : PySem.Str} {st : Stmt} {N : List PySem.Str} (F : Fun K x q st f fd) (S : FnScope N ps (defScope st)) (hl : ∀ vs H Q E, sp vs H Q E → vs.length = ps.length)
    (hb : ∀ (cdv : Value) (A : Around) (outer : List PySem.Env) (s : Shared) (H : Hp) (vs : List V) (Q : VK) (E : XK), Room k (A.deeper (envOfC q (defScope st) s.heap.objs.size f cdv)) → A.guards = some [] → sp vs H Q E →
      ∃ t, PSs (cxOf CX P w K mg base N q (defScope st) f cdv A outer s H E) (defBody st) t ∧ t { nx := fun _ H' => Q .non H', rt := Q } (start N vs) H) : FnG P w K mg base CX (k + 1) f fd ps sp := by
  obtain ⟨oc, od, kV, doc, pm, an, cdv, ct, osl, rfl, lk, hcd⟩ := F.ex
  refine ⟨hl, fun {A outer s H args us vs Q E} room hg env bnd rel wish => ?_⟩
  have KX : K.In s.heap := env.mod.kin.keeps fun b o e => (env.bs b o e).1
  have NL : s.heap.NoLimit := env.mod.nolimit.keeps fun b o e => (env.bs b o e).1
  have kinds : ∀ y ∈ ps.zip us, (defScope st).names.lookup y.1 = some .local ∨ ((defScope st).names.lookup y.1 = some .cell ∧ ((cellsFrom (s.heap.objs.size + 1) (defScope st).names []).lookup y.1).isSome = true) := by
    rintro ⟨n, v⟩ hy
    exact (S.par n (List.of_mem_zip hy).1).elim .inl fun c => .inr ⟨c, PySem.W.cellsFrom_some _ _ _ (.inl c)⟩
  refine codeAny_call_function room.depth (KX _ _ lk) rfl S.co S.gen rfl (PySem.W.codeRec_of KX hcd) (bnd _ _ _ _ (wpAny_newFunctionEnv_cells S.kind kinds fun env' he s1 x => ?_))
  subst he
  refine ⟨NL.keeps x.toInCall.keep, codeAny_func ?_⟩
  obtain ⟨t, ht, hq⟩ := hb cdv A outer s H vs Q E (room.deeper _) hg wish
  have I0 : Inv (cxOf CX P w K mg base N q (defScope st) f cdv A outer s H E) [] (start N vs) H s1 := inv_start S room.hd env (hl _ _ _ _ wish) rel x
  refine wpAny_mono (ht.run [] s1 (start N vs) H _ I0 hq) (fun fl s' hs => ?_) fun e s' hs => hs
  cases fl with
  | ret u => obtain ⟨v, σ', H', J, rv, q⟩ := hs; exact ⟨v, H', J.os, J.bare, J.base, J.hok, rv, q⟩
  | next => obtain ⟨σ', H', J, q⟩ := hs; exact ⟨V.non, H', J.os, J.bare, J.base, J.hok, rfl, q⟩
  | brk => obtain ⟨_, _, _, q⟩ := hs; exact q.elim
  | cont => obtain ⟨_, _, _, q⟩ := hs; exact q.elim
end
section
variable {X : Cx} {CX : CXT} {k : Nat} {f : Addr} {fd : FuncData} {ps : List PySem.Str} {sp : Sp} {E : L2.St → XK} {x : PySem.Str} {p pos : Pos} {e : Expr} {es : List Expr} {t : TA}
theorem run_g {pins : List (Addr × Obj)} {σ : L2.St} {H : Hp} {s : Shared} {Q : VK} {us : List Value} {vs : List V} (F : FnG X.prog X.w X.K X.mg X.base CX k f fd ps sp) (hr : Room k X.A) (hg : X.A.guards = some []) (hb : Binds X.K fd ps []) (hx : PassesAt CX X σ (E σ))
    (I : Inv X pins σ H s) (r : Vals vs us) (h : sp vs H Q (E σ)) : wpAny (model X.prog X.w) X.A (call (.ref f) us) (EP X pins σ Q) X.xe s := by
  have nu : us.length = ps.length := r.length ▸ F.len _ _ _ _ h
  have b := hb s us I.kIn (by simpa using nu)
  rw [List.append_nil] at b
  refine wpAny_call (codeAny_mono (F.run hr hg I.env0 b r h) fun res s' hq => ?_)
  match res, hq with
  | .error e, hq => exact hx pins H s e s' I hq
  | .ok (.ret u), hq => exact I.after hq
  | .ok .next, hq => exact hq.elim
  | .ok .brk, hq => exact hq.elim
  | .ok .cont, hq => exact hq.elim
theorem pe_callG (F : FnG X.prog X.w X.K X.mg X.base CX k f fd ps sp) (hr : Room k X.A) (hgd : X.A.guards = some []) (hg : Gl X x) (hm : X.mg x = some (.ref f)) (hk : PySem.W.keepIn X.K (.ref f) = true) (hb : Binds X.K fd ps []) (hx : ∀ σ, PassesAt CX X σ (E σ))
    (ha : PA X (e :: es) t) (hdb : (x == ("__debug__" : PySem.Str)) = false) (he : starEach (e :: es) X.env = (false, eval e X.env) :: starEach es X.env) (hpl : (backTo pos (starEach es X.env)).any (·.1) = false) :
    PE X (.Call (.Name x p) (e :: es) [] pos) (tCallS sp E t) := by
  refine ⟨fun pins s σ H Q I h => wpAny_Call_Name_kw (ld_glob I hg hm ?_ hdb)⟩
  exact PySem.W.callWith_K (h₀ := X.base) I.ok.mod.kin hk (thn (ha.run pos pins s σ H _ I h) fun us s1 ⟨vs, H1, I1, r, q⟩ => ⟨I1.kIn, run_g F hr hgd hb (hx σ) I1 r q⟩) he hpl
end
end Ev
end
section
set_option Elab.async false
set_option linter.all false
set_option maxRecDepth 100000
set_option maxHeartbeats 1000000
namespace Ev
open PySem PySem.Spec PyProof.Rows L2

theorem At.new {W : Wd} {H : Hp} {st : W.S} {p : Addr} {o : HO} (a : W.At H st) (h : H p = none) : W.At (upd H p o) st :=
  W.stk a fun b f => by
    obtain ⟨xs, e⟩ := W.lists a f
    exact upd_ne (ne_of_none e h)
theorem L_eq : L = sizeLine := by rw [sizeLine_eq]; rfl

section
variable {X : Cx} {W : Wd} {Wx : WX} {σ : L2.St} {H : Hp}
/-! ### names, constants -/
theorem look_some {bor : Bool} {ρ : Env} {i : Nat} {d : D} (h : look bor ρ i = some d) : ∃ own, ρ[i]? = some (some (own, d)) ∧ (own = true → bor = true) := by
  unfold look at h
  split at h
  · rename_i own d' e
    split at h
    · cases h
    · rename_i c
      cases h
      refine ⟨own, e, fun z => ?_⟩
      subst z
      cases bor with
      | true => rfl
      | false => simp at c
  · cases h
theorem ev_varB {i : Nat} {Q : VK} (h : tEv W Wx (qB W) (fun ρ s => R.lift (look true ρ i) s) σ H Q) : tVar i σ H Q := by
  obtain ⟨H0, Z, ρ, st, s, a, g⟩ := h
  obtain ⟨d, e, k⟩ := go_lift g
  obtain ⟨own, e1, _⟩ := look_some e
  cases own with
  | false =>
    obtain ⟨v, e2, p⟩ := s.fr i d e1
    exact ⟨v, e2, k H v a (.refl W H) (.inl p)⟩
  | true =>
    obtain ⟨b, e2, _⟩ := s.ow i d e1
    exact ⟨_, e2, k H _ a (.refl W H) (.inr ⟨i, e1, e2⟩)⟩
theorem ev_varN {i : Nat} {Q : VK} (h : tEv W Wx (qN W) (fun ρ s => R.lift (look false ρ i) s) σ H Q) : tVar i σ H Q := by
  obtain ⟨H0, Z, ρ, st, s, a, g⟩ := h
  obtain ⟨d, e, k⟩ := go_lift g
  obtain ⟨own, e1, e3⟩ := look_some e
  cases own with
  | false =>
    obtain ⟨v, e2, p⟩ := s.fr i d e1
    exact ⟨v, e2, k H v a (.refl W H) p⟩
  | true => exact absurd (e3 rfl) (by simp)
theorem ev_c {d : D} {v : V} {Q : VK} (hd : ∀ Z H, Rp W Z H d v) (h : tEv W Wx (qN W) (fun _ s => .ok d s) σ H Q) : tC v σ H Q := by
  obtain ⟨H0, Z, ρ, st, s, a, g⟩ := h
  exact g H v a (.refl W H) (hd Z H)

/-! ### two operands, one operand -/
structure Back (W : Wd) (q : Pq) : Prop where
  back : ∀ {Z ρ σ H H1 H' d v}, Kp W H H1 → q Z ρ σ H1 H' d v → q Z ρ σ H H' d v
theorem backB : Back W (qB W) := ⟨fun _ h => h⟩
theorem backN : Back W (qN W) := ⟨fun _ h => h⟩
theorem backF : Back W (qF W) := ⟨fun k h => Fr.back k h⟩
theorem ev_op {r : R2} {q : Pq} {g : D → D → Option D} {f1 f2 : Env → W.S → R W.S D} (bk : Back W q)
    (hr : ∀ {H0 Z ρ σ H st d1 d2 v1 v2 d Q}, SR W H0 Z ρ σ H → W.At H st → Bw W Z ρ σ H d1 v1 → Bw W Z ρ σ H d2 v2 → g d1 d2 = some d → (∀ H' v, W.At H' st → Kp W H H' → q Z ρ σ H H' d v → Q v H') → r v1 v2 H Q) {Q : VK}
    (h : tEv W Wx q (fun ρ s => (f1 ρ s).bind fun x s1 => (f2 ρ s1).bind fun y s2 => R.lift (g x y) s2) σ H Q) : tOp r (tEv W Wx (qB W) f1) (tEv W Wx (qB W) f2) σ H Q := by
  obtain ⟨H0, Z, ρ, st, s, a, g1⟩ := h
  refine ⟨H0, Z, ρ, st, s, a, (go_bind g1).imp fun d1 st1 k1 H1 v1 a1 kp1 b1 => ?_⟩
  have s1 := s.mono kp1
  refine ⟨H0, Z, ρ, st1, s1, a1, (go_bind (k1 H1 kp1)).imp fun d2 st2 k2 H2 v2 a2 kp2 b2 => ?_⟩
  have s2 := s1.mono kp2
  obtain ⟨d, e, k3⟩ := go_lift (k2 H2 kp2)
  exact hr s2 a2 (b1.mono s1 kp2) b2 e fun H' v a' k' p => k3 H' v a' ((kp1.trans kp2).trans k') (bk.back (kp1.trans kp2) p)
theorem ev_opS {r : R2} {q : Pq} {g : W.S → D → D → Option D} {f1 f2 : Env → W.S → R W.S D} (bk : Back W q)
    (hr : ∀ {H0 Z ρ σ H st d1 d2 v1 v2 d Q}, SR W H0 Z ρ σ H → W.At H st → Bw W Z ρ σ H d1 v1 → Bw W Z ρ σ H d2 v2 → g st d1 d2 = some d → (∀ H' v, W.At H' st → Kp W H H' → q Z ρ σ H H' d v → Q v H') → r v1 v2 H Q) {Q : VK}
    (h : tEv W Wx q (fun ρ s => (f1 ρ s).bind fun x s1 => (f2 ρ s1).bind fun y s2 => R.lift (g s2 x y) s2) σ H Q) : tOp r (tEv W Wx (qB W) f1) (tEv W Wx (qB W) f2) σ H Q := by
  obtain ⟨H0, Z, ρ, st, s, a, g1⟩ := h
  refine ⟨H0, Z, ρ, st, s, a, (go_bind g1).imp fun d1 st1 k1 H1 v1 a1 kp1 b1 => ?_⟩
  have s1 := s.mono kp1
  refine ⟨H0, Z, ρ, st1, s1, a1, (go_bind (k1 H1 kp1)).imp fun d2 st2 k2 H2 v2 a2 kp2 b2 => ?_⟩
  have s2 := s1.mono kp2
  obtain ⟨d, e, k3⟩ := go_lift (k2 H2 kp2)
  exact hr s2 a2 (b1.mono s1 kp2) b2 e fun H' v a' k' p => k3 H' v a' ((kp1.trans kp2).trans k') (bk.back (kp1.trans kp2) p)
theorem ev_un {r : V → Hp → VK → Prop} {q : Pq} {g : D → Option D} {f1 : Env → W.S → R W.S D} (bk : Back W q)
    (hr : ∀ {H0 Z ρ σ H st d1 v1 d Q}, SR W H0 Z ρ σ H → W.At H st → Bw W Z ρ σ H d1 v1 → g d1 = some d → (∀ H' v, W.At H' st → Kp W H H' → q Z ρ σ H H' d v → Q v H') → r v1 H Q) {Q : VK}
    (h : tEv W Wx q (fun ρ s => (f1 ρ s).bind fun x s1 => R.lift (g x) s1) σ H Q) : tUn r (tEv W Wx (qB W) f1) σ H Q := by
  obtain ⟨H0, Z, ρ, st, s, a, g1⟩ := h
  refine ⟨H0, Z, ρ, st, s, a, (go_bind g1).imp fun d1 st1 k1 H1 v1 a1 kp1 b1 => ?_⟩
  obtain ⟨d, e, k3⟩ := go_lift (k1 H1 kp1)
  exact hr (s.mono kp1) a1 b1 e fun H' v a' k' p => k3 H' v a' (kp1.trans k') (bk.back kp1 p)

/-! ### data by their kinds -/
variable {Z : Addr → Prop} {ρ : Env} {st : W.S} {H0 : Hp}
theorem Bw.int {i : Int} {v : V} (b : Bw W Z ρ σ H (.int i) v) (s : SR W H0 Z ρ σ H) : v = .int i := b.rd s
theorem Bw.str {x : PySem.Str} {v : V} (b : Bw W Z ρ σ H (.str x) v) (s : SR W H0 Z ρ σ H) : v = .str x := b.rd s
theorem Bw.tup {l : List D} {v : V} (b : Bw W Z ρ σ H (.tup l) v) (s : SR W H0 Z ρ σ H) : ∃ a vs, v = .ref a ∧ TpAt W H a vs ∧ Rps W Z H l vs := by
  rcases b with h | ⟨i, e1, _⟩
  · exact h
  · obtain ⟨a, _, _, _, o⟩ := s.ow i _ e1
    exact o.elim
/-- a list that is read: its items are plain values -/
theorem Bw.lst {l : List D} {v : V} (b : Bw W Z ρ σ H (.lst l) v) (s : SR W H0 Z ρ σ H) : ∃ a vs, v = .ref a ∧ Rd H a (.lst vs) ∧ Rps W Z H l vs := by
  rcases b with h | ⟨i, e1, e2⟩
  · obtain ⟨a, vs, e, p, q⟩ := h
    exact ⟨a, vs, e, p.2, q⟩
  · obtain ⟨a, e3, z, nf, vs, q, p⟩ := s.ow i _ e1
    rw [e2] at e3; cases e3
    exact ⟨a, vs, rfl, .inl q, p⟩
theorem Rps.refl_len {ds : List D} {vs : List V} (h : Rps W Z H ds vs) : (ds = [] ↔ vs = []) := by
  have := Rps.length h
  constructor
  · intro e; subst e; exact h
  · intro e; subst e; exact List.length_eq_zero_iff.mp (by simpa using this.symm)

/-! ### + - * // % ** -/
theorem ha_new {d : D} {Q : VK} {p : Addr} {o : HO} {v : V} (a : W.At H st) (hp : H p = none) (k : ∀ H' v, W.At H' st → Kp W H H' → qF W Z ρ σ H H' d v → Q v H') (hq : qF W Z ρ σ H (upd H p o) d v) : Q v (upd H p o) :=
  k _ _ (At.new a hp) (.new hp) hq
theorem rp_new {p : Addr} {o : HO} (s : SR W H0 Z ρ σ H) (hp : H p = none) {d : D} {v : V} (h : Rp W Z H d v) : Rp W Z (upd H p o) d v := (Kp.new hp).rp s.ft h
theorem rps_new {p : Addr} {o : HO} (s : SR W H0 Z ρ σ H) (hp : H p = none) {d : List D} {v : List V} (h : Rps W Z H d v) : Rps W Z (upd H p o) d v := (Kp.new hp).rps s.ft h
/-- a new list is a new value -/
theorem fr_lst {p : Addr} {l : List D} {vs : List V} (s : SR W H0 Z ρ σ H) (hp : H p = none) (h : Rps W Z H l vs) : Fr W Z H (upd H p (.lst vs)) (.lst l) (.ref p) :=
  ⟨p, vs, rfl, hp, upd_same, (Stp.mk (Z := fun b => Z b ∨ b = p) (Z' := fun b => Z b ∨ b = p) (fun b o n e => by rw [upd_ne (ne_of_none e hp)]; exact e) (fun b xs e => by rw [upd_ne (ne_of_none e hp)]; exact e) (Kp.new (W := W) hp).dom fun _ z => .inl z).rps (rps_apart hp h)⟩
theorem fr_tup {p : Addr} {l : List D} {vs : List V} (s : SR W H0 Z ρ σ H) (hp : H p = none) (h : Rps W Z H l vs) : Rp W Z (upd H p (.tup vs)) (.tup l) (.ref p) :=
  ⟨p, vs, rfl, .inl upd_same, rps_new s hp h⟩
/-! list + list, list * int, each list only read -/
def rCatR : R2 := fun x y H Q => ∃ l b xs zs, x = .ref l ∧ y = .ref b ∧ Rd H l (.lst xs) ∧ Rd H b (.lst zs) ∧
  xs.length + zs.length ≤ sizeLine ∧ ∀ p, H p = none → Q (.ref p) (upd H p (.lst (xs ++ zs)))
theorem op_catR : OpR X (binaryOp .Add) rCatR := by
  intro pins s σ H x y v u Q I hx hy h
  obtain ⟨l, b, xs, zs, rfl, rfl, r1, r2, hz, q⟩ := h
  cases hx; cases hy
  obtain ⟨_, i1, n1, w1, e1⟩ := r1.ok I.hok
  obtain ⟨_, i2, n2, w2, e2⟩ := r2.ok I.hok
  have l1 := w1.length
  have l2 := w2.length
  refine PySem.P.add_list e1 e2 ?_ (by simp only [List.size_toArray]; omega)
  rw [show i1.toArray ++ i2.toArray = (i1 ++ i2).toArray from by simp]
  refine ⟨.ref _, _, I.lnew (t' := s.toks) (w1.append w2) ?_, rfl, q _ I.fresh⟩
  rw [List.length_append]; exact hz
def rAddD0 (K : PySem.W.Frag) : R2 := fun x y H Q => (((rI0 (fun i j => .int (i + j)) x y H Q ∨ (∃ i j, x = .str i ∧ y = .str j ∧ i.length + j.length ≤ sizeLine ∧ Q (.str (i ++ j)) H)) ∨ rCatA K x y H Q) ∨ rCatR x y H Q)
theorem op_addD0 : OpR X (binaryOp .Add) (rAddD0 X.K) := OpR.or (OpR.or (OpR.or op_add op_add_str) op_catA) op_catR
def rRepR : R2 := fun x y H Q => ∃ l k xs, x = .ref l ∧ y = .int k ∧ Rd H l (.lst xs) ∧
  (-(2 ^ 63) ≤ k ∧ k < 2 ^ 63) ∧ xs.length * k.toNat ≤ sizeLine ∧ ∀ p, H p = none → Q (.ref p) (upd H p (.lst (List.replicate k.toNat xs).flatten))
theorem fold_rep (i1 : List Value) (m : Nat) : List.foldl (fun p q => p ++ q) (#[] : Array Value) (List.replicate m i1.toArray) = (List.replicate m i1).flatten.toArray := by
  have f := foldl_rep i1 m []
  rwa [List.nil_append] at f
theorem op_repR : OpR X (binaryOp .Mult) rRepR := by
  intro pins s σ H x y v u Q I hx hy h
  obtain ⟨l, k, xs, rfl, rfl, r1, hk, hz, q⟩ := h
  cases hx
  obtain ⟨t, rfl⟩ := hy
  obtain ⟨_, i1, n1, w1, e1⟩ := r1.ok I.hok
  have l1 := w1.length
  have c0 : i1.toArray.size * k.toNat ≤ sizeLine := by
    rw [List.size_toArray, ← l1]; exact hz
  have c1 : (sizeLine : Nat) ≤ (2 ^ 63 - 1) / 8 := by decide
  have c2 := fitsIndex_both hk.1 hk.2
  have c3 := notLongL c0
  have c4 : List.foldl (fun p q => p ++ q) #[] (List.replicate (if i1.toArray.isEmpty = true then 0 else k.toNat) i1.toArray) = (List.replicate k.toNat i1).flatten.toArray := by
    rw [fold_rep]
    cases i1 with
    | nil => simp
    | cons a r => simp
  have done_ := AutoListH.list___mul___list_int_3 l i1.toArray n1 k t (by rw [c2]; simp) (by omega) (by rw [c3]; simp)
  refine wpAny_binaryOp_repeat_ref (T := "list") (U := "int") (by decide) ⟨_, e1, rfl⟩
    (fun s' => typeIs_int s' k t) noFill_list_mul F.fills_int_mul F.slot_int_rmul
    repeat_list F.slot_int_index.lookup ?_
  refine call_meets F.slot_int_rmul (typeIs_int s k t) F.entry_int_rmul
    (F.args_int_rmul_2 _ _) (int___rmul___int_list k t l i1.toArray n1) ⟨e1, rfl, ⟨_, e1, rfl⟩, ?_⟩
  refine call_meets F.slot_list_mul ⟨_, e1, rfl⟩ F.entry_list_mul
    (F.args_list_mul_2 _ _) done_ ⟨e1, ?_⟩
  rw [c4]
  refine ⟨.ref _, _, I.lnew (t' := s.toks) (w1.rep k.toNat) ?_, rfl, q _ I.fresh⟩
  rw [PyProof.Rows.lm_len_rep_flat, Nat.mul_comm]; exact hz
def rMulD0 : R2 := fun x y H Q => ((rI CMul (fun i j => .int (i * j)) x y H Q ∨ rI CMulW (fun i j => .int (i * j)) x y H Q) ∨ rRepR x y H Q)
theorem op_mulD0 : OpR X (binaryOp .Mult) rMulD0 := OpR.or (OpR.or op_mul op_mulW) op_repR
theorem rr_add0 (hK : X.K = W.K) {H0 Z ρ σ H st d1 d2 v1 v2 d} {Q : VK} (s : SR W H0 Z ρ σ H) (a : W.At H st) (b1 : Bw W Z ρ σ H d1 v1) (b2 : Bw W Z ρ σ H d2 v2) (e : addD0 d1 d2 = some d)
    (k : ∀ H' v, W.At H' st → Kp W H H' → qF W Z ρ σ H H' d v → Q v H') : rAddD0 X.K v1 v2 H Q := by
  unfold addD0 at e
  split at e <;> try (cases e; done)
  · cases e
    exact .inl (.inl (.inl ⟨_, _, b1.int s, b2.int s, k H _ a (.refl W H) rfl⟩))
  · split at e <;> try (cases e; done)
    rename_i c
    cases e
    exact .inl (.inl (.inr ⟨_, _, b1.str s, b2.str s, by rw [← L_eq]; exact c, k H _ a (.refl W H) rfl⟩))
  · split at e <;> try (cases e; done)
    rename_i c
    cases e
    obtain ⟨p, vs, rfl, t1, r1⟩ := b1.tup s
    obtain ⟨p2, us, rfl, t2, r2⟩ := b2.tup s
    have l1 := Rps.length r1
    have l2 := Rps.length r2
    refine .inl (.inr ⟨p, p2, vs, us, rfl, rfl, hK ▸ t1.seq, hK ▸ t2.seq, by rw [l1, l2, ← L_eq]; exact c, fun z => ?_, fun _ z => ?_, fun z1 z2 q hq => ?_⟩)
    · subst z
      have e2 : _ = [] := (Rps.refl_len r1).mpr rfl
      rw [e2, List.nil_append] at k
      exact k H _ a (.refl W H) ⟨p2, us, rfl, t2, r2⟩
    · subst z
      have e2 : _ = [] := (Rps.refl_len r2).mpr rfl
      rw [e2, List.append_nil] at k
      exact k H _ a (.refl W H) ⟨p, vs, rfl, t1, r1⟩
    · exact k _ _ (At.new a hq) (.new hq) (fr_tup s hq (Rps.append r1 r2))
  · split at e <;> try (cases e; done)
    rename_i c
    cases e
    obtain ⟨p, vs, rfl, t1, r1⟩ := b1.lst s
    obtain ⟨p2, us, rfl, t2, r2⟩ := b2.lst s
    have l1 := Rps.length r1
    have l2 := Rps.length r2
    exact .inr ⟨p, p2, vs, us, rfl, rfl, t1, t2, by rw [l1, l2, ← L_eq]; exact c, fun q hq => k _ _ (At.new a hq) (.new hq) (fr_lst s hq (Rps.append r1 r2))⟩
theorem Rps.rep {l : List D} {vs : List V} (h : Rps W Z H l vs) : ∀ n : Nat, Rps W Z H (List.replicate n l).flatten (List.replicate n vs).flatten
  | 0 => rfl
  | n + 1 => by
    rw [List.replicate_succ, List.replicate_succ, List.flatten_cons, List.flatten_cons]
    exact Rps.append h (Rps.rep h n)
theorem rr_mul0 {H0 Z ρ σ H st d1 d2 v1 v2 d} {Q : VK} (s : SR W H0 Z ρ σ H) (a : W.At H st) (b1 : Bw W Z ρ σ H d1 v1) (b2 : Bw W Z ρ σ H d2 v2) (e : mulD0 d1 d2 = some d)
    (k : ∀ H' v, W.At H' st → Kp W H H' → qF W Z ρ σ H H' d v → Q v H') : rMulD0 v1 v2 H Q := by
  unfold mulD0 at e
  split at e <;> try (cases e; done)
  · split at e <;> try (cases e; done)
    rename_i i j _ c
    cases e
    have c' := of_decide_eq_true c
    have q := k H _ a (.refl W H) rfl
    rcases c' with c' | c' | c'
    · exact .inl (.inl ⟨_, _, b1.int s, b2.int s, .inl c', q⟩)
    · exact .inl (.inl ⟨_, _, b1.int s, b2.int s, .inr c', q⟩)
    · exact .inl (.inr ⟨_, _, b1.int s, b2.int s, c', q⟩)
  · split at e <;> try (cases e; done)
    rename_i c
    cases e
    obtain ⟨p, vs, rfl, t1, r1⟩ := b1.lst s
    have l1 := Rps.length r1
    exact .inr ⟨p, _, vs, rfl, b2.int s, t1, ⟨c.1, c.2.1⟩, by rw [l1, ← L_eq]; exact c.2.2, fun q hq => k _ _ (At.new a hq) (.new hq) (fr_lst s hq (Rps.rep r1 _))⟩
theorem rr_sub0 {H0 Z ρ σ H st d1 d2 v1 v2 d} {Q : VK} (s : SR W H0 Z ρ σ H) (a : W.At H st) (b1 : Bw W Z ρ σ H d1 v1) (b2 : Bw W Z ρ σ H d2 v2) (e : subtD0 d1 d2 = some d)
    (k : ∀ H' v, W.At H' st → Kp W H H' → qF W Z ρ σ H H' d v → Q v H') : rI0 (fun i j => .int (i - j)) v1 v2 H Q := by
  unfold subtD0 at e
  split at e <;> try (cases e; done)
  cases e
  exact ⟨_, _, b1.int s, b2.int s, k H _ a (.refl W H) rfl⟩
theorem Bw.bl {b : Bool} {v : V} (h : Bw W Z ρ σ H (.bl b) v) (s : SR W H0 Z ρ σ H) : v = .bl b := h.rd s
/-! a bool among ints -/
def rIB (g : Int → Int → Int) : R2 := fun x y H Q => (∃ i k, x = .int i ∧ y = .bl k ∧ Q (.int (g i (b1 k))) H) ∨ (∃ k i, x = .bl k ∧ y = .int i ∧ Q (.int (g (b1 k) i)) H)
theorem op_ib {f : Value → Value → Sem Value} {g : Int → Int → Int}
    (r1 : ∀ (i : Int) (t : Tok) (b : Bool) (s : Shared) (Q : Value → Shared → Prop) (E : Value → Shared → Prop), Q (.int (g i (b1 b)) s.toks) { s with toks := s.toks + 1 } → wpAny (model X.prog X.w) X.A (f (.int i t) (.bool b)) Q E s)
    (r2 : ∀ (b : Bool) (i : Int) (t : Tok) (s : Shared) (Q : Value → Shared → Prop) (E : Value → Shared → Prop), Q (.int (g (b1 b) i) s.toks) { s with toks := s.toks + 1 } → wpAny (model X.prog X.w) X.A (f (.bool b) (.int i t)) Q E s) : OpR X f (rIB g) := by
  intro pins s σ H x y v u Q I rx ry h
  rcases h with ⟨i, k, rfl, rfl, q⟩ | ⟨k, i, rfl, rfl, q⟩
  · obtain ⟨t, rfl⟩ := rx
    cases ry
    exact r1 _ _ _ _ _ _ ⟨.int (g i (b1 k)), H, I.tok _, ⟨_, rfl⟩, q⟩
  · obtain ⟨t, rfl⟩ := ry
    cases rx
    exact r2 _ _ _ _ _ _ ⟨.int (g (b1 k) i), H, I.tok _, ⟨_, rfl⟩, q⟩
theorem op_addIB : OpR X (binaryOp .Add) (rIB fun i j => i + j) := op_ib (fun _ _ _ _ _ _ q => add_int_bool q) (fun _ _ _ _ _ _ q => PySem.IntBool.add_bool_int q)
theorem op_subIB : OpR X (binaryOp .Sub) (rIB fun i j => i - j) := op_ib (fun _ _ _ _ _ _ q => PySem.IntBool.sub_int_bool q) (fun _ _ _ _ _ _ q => PySem.IntBool.sub_bool_int q)
theorem op_mulIB : OpR X (binaryOp .Mult) (rIB fun i j => i * j) := op_ib (fun _ _ _ _ _ _ q => PySem.IntBool.mul_int_bool q) (fun _ _ _ _ _ _ q => PySem.IntBool.mul_bool_int q)
def rAddD (K : PySem.W.Frag) : R2 := fun x y H Q => rAddD0 K x y H Q ∨ rIB (fun i j => i + j) x y H Q
def rSubD : R2 := fun x y H Q => rI0 (fun i j => .int (i - j)) x y H Q ∨ rIB (fun i j => i - j) x y H Q
def rMulD : R2 := fun x y H Q => rMulD0 x y H Q ∨ rIB (fun i j => i * j) x y H Q
theorem op_addD : OpR X (binaryOp .Add) (rAddD X.K) := OpR.or op_addD0 op_addIB
theorem op_subD : OpR X (binaryOp .Sub) rSubD := OpR.or op_sub op_subIB
theorem op_mulD : OpR X (binaryOp .Mult) rMulD := OpR.or op_mulD0 op_mulIB
theorem rr_add (hK : X.K = W.K) {H0 Z ρ σ H st d1 d2 v1 v2 d} {Q : VK} (s : SR W H0 Z ρ σ H) (a : W.At H st) (b1 : Bw W Z ρ σ H d1 v1) (b2 : Bw W Z ρ σ H d2 v2) (e : addD d1 d2 = some d)
    (k : ∀ H' v, W.At H' st → Kp W H H' → qF W Z ρ σ H H' d v → Q v H') : rAddD X.K v1 v2 H Q := by
  unfold addD at e
  split at e
  · cases e; exact .inr (.inl ⟨_, _, b1.int s, b2.bl s, k H _ a (.refl W H) rfl⟩)
  · cases e; exact .inr (.inr ⟨_, _, b1.bl s, b2.int s, k H _ a (.refl W H) rfl⟩)
  · exact .inl (rr_add0 hK s a b1 b2 e k)
theorem rr_sub {H0 Z ρ σ H st d1 d2 v1 v2 d} {Q : VK} (s : SR W H0 Z ρ σ H) (a : W.At H st) (b1 : Bw W Z ρ σ H d1 v1) (b2 : Bw W Z ρ σ H d2 v2) (e : subtD d1 d2 = some d)
    (k : ∀ H' v, W.At H' st → Kp W H H' → qF W Z ρ σ H H' d v → Q v H') : rSubD v1 v2 H Q := by
  unfold subtD at e
  split at e
  · cases e; exact .inr (.inl ⟨_, _, b1.int s, b2.bl s, k H _ a (.refl W H) rfl⟩)
  · cases e; exact .inr (.inr ⟨_, _, b1.bl s, b2.int s, k H _ a (.refl W H) rfl⟩)
  · exact .inl (rr_sub0 s a b1 b2 e k)
theorem rr_mul {H0 Z ρ σ H st d1 d2 v1 v2 d} {Q : VK} (s : SR W H0 Z ρ σ H) (a : W.At H st) (b1 : Bw W Z ρ σ H d1 v1) (b2 : Bw W Z ρ σ H d2 v2) (e : mulD d1 d2 = some d)
    (k : ∀ H' v, W.At H' st → Kp W H H' → qF W Z ρ σ H H' d v → Q v H') : rMulD v1 v2 H Q := by
  unfold mulD at e
  split at e
  · cases e; exact .inr (.inl ⟨_, _, b1.int s, b2.bl s, k H _ a (.refl W H) rfl⟩)
  · cases e; exact .inr (.inr ⟨_, _, b1.bl s, b2.int s, k H _ a (.refl W H) rfl⟩)
  · exact .inl (rr_mul0 s a b1 b2 e k)
theorem rr_fdiv {H0 Z ρ σ H st d1 d2 v1 v2 d} {Q : VK} (s : SR W H0 Z ρ σ H) (a : W.At H st) (b1 : Bw W Z ρ σ H d1 v1) (b2 : Bw W Z ρ σ H d2 v2) (e : fdivD d1 d2 = some d)
    (k : ∀ H' v, W.At H' st → Kp W H H' → qF W Z ρ σ H H' d v → Q v H') : rI CDivW (fun i j => .int (i / j)) v1 v2 H Q := by
  unfold fdivD at e
  split at e <;> try (cases e; done)
  split at e <;> try (cases e; done)
  rename_i c
  cases e
  exact ⟨_, _, b1.int s, b2.int s, (by unfold divOk at c; have q := of_decide_eq_true c; exact q), k H _ a (.refl W H) rfl⟩
theorem rr_mod {H0 Z ρ σ H st d1 d2 v1 v2 d} {Q : VK} (s : SR W H0 Z ρ σ H) (a : W.At H st) (b1 : Bw W Z ρ σ H d1 v1) (b2 : Bw W Z ρ σ H d2 v2) (e : modD d1 d2 = some d)
    (k : ∀ H' v, W.At H' st → Kp W H H' → qF W Z ρ σ H H' d v → Q v H') : rI (fun _ j => 0 < j) (fun i j => .int (i % j)) v1 v2 H Q := by
  unfold modD at e
  split at e <;> try (cases e; done)
  split at e <;> try (cases e; done)
  rename_i c
  cases e
  exact ⟨_, _, b1.int s, b2.int s, c, k H _ a (.refl W H) rfl⟩
theorem rr_pow {H0 Z ρ σ H st d1 d2 v1 v2 d} {Q : VK} (s : SR W H0 Z ρ σ H) (a : W.At H st) (b1 : Bw W Z ρ σ H d1 v1) (b2 : Bw W Z ρ σ H d2 v2) (e : powD d1 d2 = some d)
    (k : ∀ H' v, W.At H' st → Kp W H H' → qF W Z ρ σ H H' d v → Q v H') : rI CPow (fun i j => .int (i ^ j.toNat)) v1 v2 H Q := by
  unfold powD at e
  split at e <;> try (cases e; done)
  split at e <;> try (cases e; done)
  rename_i c
  cases e
  exact ⟨_, _, b1.int s, b2.int s, (by unfold powOk at c; have q := of_decide_eq_true c; exact q), k H _ a (.refl W H) rfl⟩
end

/-! ### ==, in -/
theorem fit0 {n : Nat} {d : D} (h : D.fit n d = true) : (∀ k, d ≠ .st k) ∧ (∀ a b c, d ≠ .dct a b c) ∧ (∀ a b, d ≠ .ins a b) ∧ ∀ a, d ≠ .rep a := by
  refine ⟨fun k e => ?_, fun a b c e => ?_, fun a b e => ?_, fun a e => ?_⟩ <;> subst e <;> cases n <;> simp [D.fit] at h
mutual
theorem eqv_py : ∀ (a b : D) (n m : Nat), D.fit n a = true → D.fit m b = true → PyData.eqv (toPy a) (toPy b) = D.eqv a b
  | .non, b, _, _, _, hb => by have q := fit0 hb; cases b <;> first | rfl | exact absurd rfl (q.1 _) | exact absurd rfl (q.2.1 _ _ _) | exact absurd rfl (q.2.2.1 _ _) | exact absurd rfl (q.2.2.2 _)
  | .bl _, b, _, _, _, hb => by have q := fit0 hb; cases b <;> first | rfl | exact absurd rfl (q.1 _) | exact absurd rfl (q.2.1 _ _ _) | exact absurd rfl (q.2.2.1 _ _) | exact absurd rfl (q.2.2.2 _)
  | .int _, b, _, _, _, hb => by have q := fit0 hb; cases b <;> first | rfl | exact absurd rfl (q.1 _) | exact absurd rfl (q.2.1 _ _ _) | exact absurd rfl (q.2.2.1 _ _) | exact absurd rfl (q.2.2.2 _)
  | .str _, b, _, _, _, hb => by have q := fit0 hb; cases b <;> first | rfl | exact absurd rfl (q.1 _) | exact absurd rfl (q.2.1 _ _ _) | exact absurd rfl (q.2.2.1 _ _) | exact absurd rfl (q.2.2.2 _)
  | .st _, _, _, _, ha, _ => absurd rfl ((fit0 ha).1 _)
  | .dct _ _ _, _, _, _, ha, _ => absurd rfl ((fit0 ha).2.1 _ _ _)
  | .ins _ _, _, _, _, ha, _ => absurd rfl ((fit0 ha).2.2.1 _ _)
  | .rep _, _, _, _, ha, _ => absurd rfl ((fit0 ha).2.2.2 _)
  | .tup x, .tup y, n + 1, m + 1, ha, hb => by
    have e := eqvs_py x y n m (by simpa [D.fit] using ha) (by simpa [D.fit] using hb)
    exact e
  | .tup _, .tup _, 0, _, ha, _ => by simp [D.fit] at ha
  | .tup _, .tup _, _, 0, _, hb => by simp [D.fit] at hb
  | .tup _, .non, _, _, _, _ => rfl
  | .tup _, .bl _, _, _, _, _ => rfl
  | .tup _, .int _, _, _, _, _ => rfl
  | .tup _, .str _, _, _, _, _ => rfl
  | .tup _, .lst _, _, _, _, _ => rfl
  | .tup _, .st _, _, _, _, hb => absurd rfl ((fit0 hb).1 _)
  | .tup _, .dct _ _ _, _, _, _, hb => absurd rfl ((fit0 hb).2.1 _ _ _)
  | .tup _, .ins _ _, _, _, _, hb => absurd rfl ((fit0 hb).2.2.1 _ _)
  | .tup _, .rep _, _, _, _, hb => absurd rfl ((fit0 hb).2.2.2 _)
  | .lst x, .lst y, n + 1, m + 1, ha, hb => by
    have e := eqvs_py x y n m (by simpa [D.fit] using ha) (by simpa [D.fit] using hb)
    exact e
  | .lst _, .lst _, 0, _, ha, _ => by simp [D.fit] at ha
  | .lst _, .lst _, _, 0, _, hb => by simp [D.fit] at hb
  | .lst _, .non, _, _, _, _ => rfl
  | .lst _, .bl _, _, _, _, _ => rfl
  | .lst _, .int _, _, _, _, _ => rfl
  | .lst _, .str _, _, _, _, _ => rfl
  | .lst _, .tup _, _, _, _, _ => rfl
  | .lst _, .st _, _, _, _, hb => absurd rfl ((fit0 hb).1 _)
  | .lst _, .dct _ _ _, _, _, _, hb => absurd rfl ((fit0 hb).2.1 _ _ _)
  | .lst _, .ins _ _, _, _, _, hb => absurd rfl ((fit0 hb).2.2.1 _ _)
  | .lst _, .rep _, _, _, _, hb => absurd rfl ((fit0 hb).2.2.2 _)
theorem eqvs_py : ∀ (a b : List D) (n m : Nat), fits n a = true → fits m b = true → PyData.eqvAll (toPys a) (toPys b) = eqvs a b
  | [], [], _, _, _, _ => rfl
  | [], _ :: _, _, _, _, _ => rfl
  | _ :: _, [], _, _, _, _ => rfl
  | a :: r, b :: t, n, m, ha, hb => by
    have ha' : D.fit n a = true ∧ fits n r = true := by simpa [fits] using ha
    have hb' : D.fit m b = true ∧ fits m t = true := by simpa [fits] using hb
    show (PyData.eqv (toPy a) (toPy b) && PyData.eqvAll (toPys r) (toPys t)) = (D.eqv a b && eqvs r t)
    rw [eqv_py a b n m ha'.1 hb'.1, eqvs_py r t n m ha'.2 hb'.2]
end
mutual
theorem fit_shape : ∀ (n : Nat) (a : D), D.fit n a = true → (toPy a).canLay0 = true ∧ (toPy a).depth ≤ n
  | n, .non, _ => ⟨by simp [toPy, PyData.canLay0], by simp [toPy, PyData.depth]⟩
  | n, .bl _, _ => ⟨by simp [toPy, PyData.canLay0], by simp [toPy, PyData.depth]⟩
  | n, .int _, _ => ⟨by simp [toPy, PyData.canLay0], by simp [toPy, PyData.depth]⟩
  | n, .str x, h => ⟨by
      have h' : x.cps.all (· < 1114112) = true := by cases n <;> simpa [D.fit] using h
      simp only [toPy, PyData.canLay0, PyData.strOk]
      exact h', by simp [toPy, PyData.depth]⟩
  | 0, .tup _, h => by simp [D.fit] at h
  | n + 1, .tup l, h => by
    obtain ⟨a, b⟩ := fits_shape n l (by simpa [D.fit] using h)
    exact ⟨by simpa [toPy, PyData.canLay0] using a, by simp only [toPy, PyData.depth]; omega⟩
  | 0, .lst _, h => by simp [D.fit] at h
  | n + 1, .lst l, h => by
    obtain ⟨a, b⟩ := fits_shape n l (by simpa [D.fit] using h)
    exact ⟨by simpa [toPy, PyData.canLay0] using a, by simp only [toPy, PyData.depth]; omega⟩
  | n, .st _, h => by cases n <;> simp [D.fit] at h
  | n, .dct _ _ _, h => by cases n <;> simp [D.fit] at h
  | n, .ins _ _, h => by cases n <;> simp [D.fit] at h
  | n, .rep _, h => by cases n <;> simp [D.fit] at h
theorem fits_shape : ∀ (n : Nat) (a : List D), fits n a = true → PyData.canLayAll0 (toPys a) = true ∧ PyData.depthAll (toPys a) ≤ n
  | _, [], _ => ⟨by simp [toPys, PyData.canLayAll0], by simp [toPys, PyData.depthAll]⟩
  | n, d :: r, h => by
    have h' : D.fit n d = true ∧ fits n r = true := by simpa [fits] using h
    obtain ⟨a1, b1⟩ := fit_shape n d h'.1
    obtain ⟨a2, b2⟩ := fits_shape n r h'.2
    exact ⟨by simp [toPys, PyData.canLayAll0, a1, a2], by simp only [toPys, PyData.depthAll]; omega⟩
end
section
variable {X : Cx} {W : Wd} {Z : Addr → Prop} {H : Hp}
mutual
theorem rp_dp (n : Nat) : ∀ (d : D) (v : V), D.fit n d = true → Rp W Z H d v → Dp W.K H v (toPy d)
  | .non, v, _, h => by rw [show v = .non from h]; exact .non
  | .bl b, v, _, h => by rw [show v = .bl b from h]; exact .bl b
  | .int i, v, _, h => by rw [show v = .int i from h]; exact .int i
  | .str x, v, _, h => by rw [show v = .str x from h]; exact .str x
  | .tup l, v, hf, h => by
    obtain ⟨a, vs, e, p, q⟩ := h
    subst e
    cases n with
    | zero => simp [D.fit] at hf
    | succ n => exact .tup p.seq (rps_dp n l vs (by simpa [D.fit] using hf) q)
  | .lst l, v, hf, h => by
    obtain ⟨a, vs, e, p, q⟩ := h
    subst e
    cases n with
    | zero => simp [D.fit] at hf
    | succ n => exact .lst p.seq (rps_dp n l vs (by simpa [D.fit] using hf) q)
  | .st _, _, h, _ => by cases n <;> simp [D.fit] at h
  | .dct _ _ _, _, h, _ => by cases n <;> simp [D.fit] at h
  | .ins _ _, _, h, _ => by cases n <;> simp [D.fit] at h
  | .rep _, _, h, _ => by cases n <;> simp [D.fit] at h
theorem rps_dp (n : Nat) : ∀ (d : List D) (v : List V), fits n d = true → Rps W Z H d v → DpAll W.K H v (toPys d)
  | [], v, _, h => by rw [show v = [] from h]; exact .nil
  | d :: r, v, hf, h => by
    obtain ⟨u, us, e, p, q⟩ := h
    subst e
    have h' : D.fit n d = true ∧ fits n r = true := by simpa [fits] using hf
    exact .cons (rp_dp n d u h'.1 p) (rps_dp n r us h'.2 q)
end
end
end Ev
end
section
set_option Elab.async false
set_option linter.all false
set_option maxRecDepth 100000
set_option maxHeartbeats 1000000
namespace Ev
open PySem PySem.Spec PyProof.Rows L2

section
variable {X : Cx} {W : Wd} {Wx : WX} {σ : L2.St} {H H0 : Hp} {Z : Addr → Prop} {ρ : Env} {st : W.S} {d1 d2 d : D} {v1 v2 v : V}
/-! ### comparisons -/
theorem Bw.dp {n : Nat} (b : Bw W Z ρ σ H d v) (s : SR W H0 Z ρ σ H) (f : D.fit n d = true) : Dp W.K H v (toPy d) := rp_dp n d v f (b.rd s)
theorem fit_sh (f : D.fit 40 d = true) : SeqAt.shaped (toPy d) = true := by
  obtain ⟨a, b⟩ := fit_shape 40 d f
  unfold SeqAt.shaped
  rw [a, Bool.true_and]
  exact decide_eq_true (by omega)
theorem cmp_eqs {α : Type} {b : Bool} {g : D → D → Option Bool} {Kk : α} (h : (g d1 d2).map D.bl = some d) : ∃ b, g d1 d2 = some b ∧ d = .bl b := by
  cases e : g d1 d2 with
  | none => rw [e] at h; cases h
  | some b => rw [e] at h; cases h; exact ⟨b, rfl, rfl⟩
/-- a comparison's rule from its answer -/
theorem rr_cmp {r : R2} {o : Cop} (hr : ∀ {H0 Z ρ σ H st d1 d2 v1 v2 b Q}, SR W H0 Z ρ σ H → W.At H st → Bw W Z ρ σ H d1 v1 → Bw W Z ρ σ H d2 v2 → cmpD o d1 d2 = some b → Q (.bl b) H → r v1 v2 H Q)
    {H0 Z ρ σ H st d1 d2 v1 v2 d} {Q : VK} (s : SR W H0 Z ρ σ H) (a : W.At H st) (b1 : Bw W Z ρ σ H d1 v1) (b2 : Bw W Z ρ σ H d2 v2) (e : (cmpD o d1 d2).map D.bl = some d)
    (k : ∀ H' v, W.At H' st → Kp W H H' → qF W Z ρ σ H H' d v → Q v H') : r v1 v2 H Q := by
  cases c : cmpD o d1 d2 with
  | none => rw [c] at e; cases e
  | some b => rw [c] at e; cases e; exact hr s a b1 b2 c (k H _ a (.refl W H) rfl)
mutual
theorem same_eq : ∀ (a b : D), D.same a b = true → toPy a = toPy b
  | .non, .non, _ => rfl
  | .bl a, .bl b, h => by rw [show a = b from by simpa [D.same] using h]
  | .int a, .int b, h => by rw [show a = b from by simpa [D.same] using h]
  | .str a, .str b, h => by rw [show a = b from by simpa [D.same] using h]
  | .tup a, .tup b, h => by show PyData.tuple (toPys a) = PyData.tuple (toPys b); rw [sames_eq a b (by simpa [D.same] using h)]
  | .lst a, .lst b, h => by show PyData.list (toPys a) = PyData.list (toPys b); rw [sames_eq a b (by simpa [D.same] using h)]
  | .non, .bl _, h | .non, .int _, h | .non, .str _, h | .non, .tup _, h | .non, .lst _, h | .non, .st _, h | .non, .dct _ _ _, h | .non, .ins _ _, h | .non, .rep _, h => by simp [D.same] at h
  | .bl _, .non, h | .bl _, .int _, h | .bl _, .str _, h | .bl _, .tup _, h | .bl _, .lst _, h | .bl _, .st _, h | .bl _, .dct _ _ _, h | .bl _, .ins _ _, h | .bl _, .rep _, h => by simp [D.same] at h
  | .int _, .non, h | .int _, .bl _, h | .int _, .str _, h | .int _, .tup _, h | .int _, .lst _, h | .int _, .st _, h | .int _, .dct _ _ _, h | .int _, .ins _ _, h | .int _, .rep _, h => by simp [D.same] at h
  | .str _, .non, h | .str _, .bl _, h | .str _, .int _, h | .str _, .tup _, h | .str _, .lst _, h | .str _, .st _, h | .str _, .dct _ _ _, h | .str _, .ins _ _, h | .str _, .rep _, h => by simp [D.same] at h
  | .tup _, .non, h | .tup _, .bl _, h | .tup _, .int _, h | .tup _, .str _, h | .tup _, .lst _, h | .tup _, .st _, h | .tup _, .dct _ _ _, h | .tup _, .ins _ _, h | .tup _, .rep _, h => by simp [D.same] at h
  | .lst _, .non, h | .lst _, .bl _, h | .lst _, .int _, h | .lst _, .str _, h | .lst _, .tup _, h | .lst _, .st _, h | .lst _, .dct _ _ _, h | .lst _, .ins _ _, h | .lst _, .rep _, h => by simp [D.same] at h
  | .st _, b, h => by cases b <;> simp [D.same] at h
  | .dct _ _ _, b, h => by cases b <;> simp [D.same] at h
  | .ins _ _, b, h => by cases b <;> simp [D.same] at h
  | .rep _, b, h => by cases b <;> simp [D.same] at h
theorem sames_eq : ∀ (a b : List D), sames a b = true → toPys a = toPys b
  | [], [], _ => rfl
  | [], _ :: _, h => by simp [sames] at h
  | _ :: _, [], h => by simp [sames] at h
  | a :: r, b :: t, h => by
    have h' : D.same a b = true ∧ sames r t = true := by simpa [sames] using h
    show toPy a :: toPys r = toPy b :: toPys t
    rw [same_eq a b h'.1, sames_eq r t h'.2]
end
/-- one text compared with itself -/
def rEqT (K : PySem.W.Frag) : R2 := fun x y H Q => rEqD K x y H Q ∨ ∃ i, x = .str i ∧ y = .str i ∧ Q (.bl true) H
def rNeT (K : PySem.W.Frag) : R2 := fun x y H Q => rNeD K x y H Q ∨ ∃ i, x = .str i ∧ y = .str i ∧ Q (.bl false) H
theorem op_eqT (hu : X.A.units + 64 < cLine) : OpR X (compareOp .Eq) (rEqT X.K) := OpR.or (op_eqD hu) (by
  intro pins s σ H x y v u Q I rx ry ⟨i, e1, e2, q⟩
  subst e1; subst e2
  obtain ⟨t, rfl⟩ := rx
  obtain ⟨t', rfl⟩ := ry
  exact eq_str ⟨.bl true, H, I, by simp [L2.RelV], q⟩)
theorem op_neT (hu : X.A.units + 64 < cLine) : OpR X (compareOp .NotEq) (rNeT X.K) := OpR.or (op_neD hu) (by
  intro pins s σ H x y v u Q I rx ry ⟨i, e1, e2, q⟩
  subst e1; subst e2
  obtain ⟨t, rfl⟩ := rx
  obtain ⟨t', rfl⟩ := ry
  exact ne_str ⟨.bl false, H, I, by simp [L2.RelV], q⟩)
theorem cc_eq (hK : X.K = W.K) {Q : VK} {b : Bool} (s : SR W H0 Z ρ σ H) (a : W.At H st) (b1 : Bw W Z ρ σ H d1 v1) (b2 : Bw W Z ρ σ H d2 v2) (e : cmpD .eq d1 d2 = some b) (q : Q (.bl b) H) : rEqT X.K v1 v2 H Q := by
  have e' : (∃ x y, d1 = .rep x ∧ d2 = .rep y ∧ (if D.same x y then some true else none) = some b) ∨ (if (D.fit 40 d1 && D.fit 40 d2) = true then some (D.eqv d1 d2) else none) = some b := by
    cases d1 <;> first | (exact .inr e) | (cases d2 <;> first | exact .inr e | exact .inl ⟨_, _, rfl, rfl, e⟩)
  rcases e' with ⟨x, y, rfl, rfl, e'⟩ | e'
  · split at e'
    · rename_i c
      cases e'
      have h1 : v1 = .str (PyData.shown (toPy x)) := b1.rd s
      have h2 : v2 = .str (PyData.shown (toPy y)) := b2.rd s
      rw [← same_eq x y c] at h2
      exact .inr ⟨_, h1, h2, q⟩
    · cases e'
  · split at e'
    · rename_i c
      cases e'
      rw [Bool.and_eq_true] at c
      exact .inl ⟨_, _, hK ▸ b1.dp s c.1, hK ▸ b2.dp s c.2, fit_sh c.1, fit_sh c.2, by rw [eqv_py _ _ _ _ c.1 c.2]; exact q⟩
    · cases e'
theorem cc_ne (hK : X.K = W.K) {Q : VK} {b : Bool} (s : SR W H0 Z ρ σ H) (a : W.At H st) (b1 : Bw W Z ρ σ H d1 v1) (b2 : Bw W Z ρ σ H d2 v2) (e : cmpD .ne d1 d2 = some b) (q : Q (.bl b) H) : rNeT X.K v1 v2 H Q := by
  have e' : (∃ x y, d1 = .rep x ∧ d2 = .rep y ∧ (if D.same x y then some false else none) = some b) ∨ (if (D.fit 40 d1 && D.fit 40 d2) = true then some (!D.eqv d1 d2) else none) = some b := by
    cases d1 <;> first | (exact .inr e) | (cases d2 <;> first | exact .inr e | exact .inl ⟨_, _, rfl, rfl, e⟩)
  rcases e' with ⟨x, y, rfl, rfl, e'⟩ | e'
  · split at e'
    · rename_i c
      cases e'
      have h1 : v1 = .str (PyData.shown (toPy x)) := b1.rd s
      have h2 : v2 = .str (PyData.shown (toPy y)) := b2.rd s
      rw [← same_eq x y c] at h2
      exact .inr ⟨_, h1, h2, q⟩
    · cases e'
  · split at e'
    · rename_i c
      cases e'
      rw [Bool.and_eq_true] at c
      exact .inl ⟨_, _, hK ▸ b1.dp s c.1, hK ▸ b2.dp s c.2, fit_sh c.1, fit_sh c.2, by rw [eqv_py _ _ _ _ c.1 c.2]; exact q⟩
    · cases e'
theorem Bw.row {l : List D} {is : List Int} (b : Bw W Z ρ σ H (.tup l) v) (s : SR W H0 Z ρ σ H) (e : D.ints l = some is) : ∃ a, v = .ref a ∧ SqT W.K H a (is.map V.int) := by
  obtain ⟨a, vs, rfl, p, q⟩ := b.tup s
  have := Rps.ints e q
  subst this
  exact ⟨a, rfl, p.seq⟩
theorem lexLt_same : ∀ a b : List Int, HT.lexLt a b = lexLt a b
  | [], [] => rfl
  | [], _ :: _ => rfl
  | _ :: _, [] => rfl
  | x :: xs, y :: ys => by
    rw [HT.lexLt_cons, lexLt_same xs ys]
    rfl
def rLtD (K : PySem.W.Frag) : R2 := fun x y H Q => rI0 (fun i j => .bl (decide (i < j))) x y H Q ∨ rLtT K x y H Q
theorem op_ltD (hu : X.A.units < cLine) : OpR X (compareOp .Lt) (rLtD X.K) := OpR.or op_lt (op_ltT hu)
theorem cc_lt (hK : X.K = W.K) {Q : VK} {b : Bool} (s : SR W H0 Z ρ σ H) (a : W.At H st) (b1 : Bw W Z ρ σ H d1 v1) (b2 : Bw W Z ρ σ H d2 v2) (e : cmpD .lt d1 d2 = some b) (q : Q (.bl b) H) : rLtD X.K v1 v2 H Q := by
  cases d1 <;> cases d2 <;> try (cases e; done)
  · cases e
    exact .inl ⟨_, _, b1.int s, b2.int s, q⟩
  · rename_i x y
    have e' : (match D.ints x, D.ints y with | some a, some b => some (lexLt a b) | _, _ => none) = some b := e
    split at e'
    · rename_i is js ei ej
      cases e'
      obtain ⟨p, rfl, t⟩ := b1.row s ei
      obtain ⟨p2, rfl, t2⟩ := b2.row s ej
      exact .inr ⟨p, p2, is, js, rfl, rfl, hK ▸ t, hK ▸ t2, by rw [lexLt_same]; exact q⟩
    · cases e'
theorem lexAt_le {f g : Nat → Int} : ∀ (ns ms : List Int) (i : Nat), (∀ (j : Nat) (h : j < ns.length), f (i + j) = ns[j]) → (∀ (j : Nat) (h : j < ms.length), g (i + j) = ms[j]) →
    Ob.lexAt (fun j => decide (f j = g j)) (fun j => decide (f j ≤ g j)) (decide (ns.length ≤ ms.length)) i (min ns.length ms.length) = !lexLt ms ns
  | [], [], _, _, _ => by simp [Ob.lexAt_zero, lexLt]
  | [], _ :: _, _, _, _ => by simp [Ob.lexAt_zero, lexLt]
  | _ :: _, [], _, _, _ => by simp [Ob.lexAt_zero, lexLt]
  | x :: xs, y :: ys, i, hf, hg => by
    have h1 : f i = x := hf 0 (by simp)
    have h2 : g i = y := hg 0 (by simp)
    have ih := lexAt_le (f := f) (g := g) xs ys (i + 1) (fun j h => by
      have := hf (j + 1) (by simpa using h)
      rw [show i + 1 + j = i + (j + 1) by omega, this]; rfl) (fun j h => by
      have := hg (j + 1) (by simpa using h)
      rw [show i + 1 + j = i + (j + 1) by omega, this]; rfl)
    rw [show min (x :: xs).length (y :: ys).length = min xs.length ys.length + 1 by simp only [List.length_cons]; omega, Ob.lexAt_succ, h1, h2,
      show decide ((x :: xs).length ≤ (y :: ys).length) = decide (xs.length ≤ ys.length) by simp, ih, lexLt]
    by_cases c : x = y
    · rw [if_pos (decide_eq_true c), if_pos c.symm]
    · rw [if_neg (by simpa using c), if_neg (fun e => c e.symm)]
      by_cases d : x ≤ y
      · rw [decide_eq_true d, decide_eq_false (by omega)]; rfl
      · rw [decide_eq_false d, decide_eq_true (by omega)]; rfl
def rLeD (K : PySem.W.Frag) : R2 := fun x y H Q => rI0 (fun i j => .bl (decide (i ≤ j))) x y H Q ∨ rLeT K x y H Q
theorem op_leD (hu : X.A.units < cLine) : OpR X (compareOp .LtE) (rLeD X.K) := OpR.or op_le (op_leT hu)
theorem cc_le (hK : X.K = W.K) {Q : VK} {b : Bool} (s : SR W H0 Z ρ σ H) (a : W.At H st) (b1 : Bw W Z ρ σ H d1 v1) (b2 : Bw W Z ρ σ H d2 v2) (e : cmpD .le d1 d2 = some b) (q : Q (.bl b) H) : rLeD X.K v1 v2 H Q := by
  cases d1 <;> cases d2 <;> try (cases e; done)
  · cases e
    exact .inl ⟨_, _, b1.int s, b2.int s, q⟩
  · rename_i x y
    have e' : (match D.ints x, D.ints y with | some a, some b => some (!lexLt b a) | _, _ => none) = some b := e
    split at e'
    · rename_i is js ei ej
      cases e'
      obtain ⟨p, rfl, t⟩ := b1.row s ei
      obtain ⟨p2, rfl, t2⟩ := b2.row s ej
      refine .inr ⟨p, p2, is, js, rfl, rfl, hK ▸ t, hK ▸ t2, ?_⟩
      rw [lexAt_le is js 0 (fun j h => by simp [h]) (fun j h => by simp [h])]
      exact q
    · cases e'
theorem cc_gt {Q : VK} {b : Bool} (s : SR W H0 Z ρ σ H) (a : W.At H st) (b1 : Bw W Z ρ σ H d1 v1) (b2 : Bw W Z ρ σ H d2 v2) (e : cmpD .gt d1 d2 = some b) (q : Q (.bl b) H) : rI0 (fun i j => .bl (decide (j < i))) v1 v2 H Q := by
  cases d1 <;> cases d2 <;> try (cases e; done)
  cases e
  exact ⟨_, _, b1.int s, b2.int s, q⟩
theorem cc_ge {Q : VK} {b : Bool} (s : SR W H0 Z ρ σ H) (a : W.At H st) (b1 : Bw W Z ρ σ H d1 v1) (b2 : Bw W Z ρ σ H d2 v2) (e : cmpD .ge d1 d2 = some b) (q : Q (.bl b) H) : rI0 (fun i j => .bl (decide (j ≤ i))) v1 v2 H Q := by
  cases d1 <;> cases d2 <;> try (cases e; done)
  cases e
  exact ⟨_, _, b1.int s, b2.int s, q⟩
/-! in, not in -/
theorem scal_flat (h : d.scalar = true) (r : Rp W Z H d v) : flatV v = true := by
  cases d <;> first | (rw [show v = _ from r]; rfl) | (simp [D.scalar] at h)
theorem eqv_flat {e : D} {u : V} (h1 : d.scalar = true) (h2 : e.scalar = true) (r1 : Rp W Z H d v) {Z' : Addr → Prop} (r2 : Rp W Z' H e u) : eqV v u = D.eqv d e := by
  cases d <;> first | (simp [D.scalar] at h1; done) | skip
  all_goals (cases e <;> first | (simp [D.scalar] at h2; done) | (rw [show v = _ from r1, show u = _ from r2]; rfl))
theorem in_flat {e : D} {u : V} {Z' : Addr → Prop} (h2 : e.scalar = true) (r2 : Rp W Z' H e u) : ∀ {l : List D} {vs : List V}, l.all D.scalar = true → Rps W Z H l vs → vs.all flatV = true ∧ inV u vs = l.any fun y => D.eqv y e
  | [], vs, _, h => by rw [show vs = [] from h]; exact ⟨rfl, rfl⟩
  | d :: r, vs, c, h => by
    obtain ⟨w, us, rfl, p, q⟩ := h
    rw [List.all_cons, Bool.and_eq_true] at c
    obtain ⟨i1, i2⟩ := in_flat h2 r2 c.2 q
    refine ⟨by rw [List.all_cons, scal_flat c.1 p, i1]; rfl, ?_⟩
    show (eqV w u || inV u us) = _
    rw [List.any_cons, ← i2, eqv_flat c.1 h2 p r2]
/-- a key's value -/
theorem ky_one {x : Sum Int PySem.Str} (e : kyOne d = some x) (r : Rp W Z H d v) : v = kV x := by
  cases d <;> first | (cases e; done) | skip
  · cases e; exact r
  · cases e; exact r
theorem ky_all : ∀ {l : List D} {q : Ky} {vs : List V}, kyAll l = some q → Rps W Z H l vs → vs = q.map kV
  | [], q, vs, e, r => by cases e; exact r
  | d :: l, q, vs, e, r => by
    obtain ⟨u, us, rfl, p, t⟩ := r
    unfold kyAll at e
    split at e
    · rename_i h1 h2
      cases e
      rw [ky_one h1 p, ky_all h2 t]; rfl
    · cases e
theorem look_val {ks : List Ky} : ∀ {vs : List D} {us : List V} (q : Ky), Rps W Z H vs us → (∀ x, dlook ks vs q = some x → ∃ u, valV (ks.zip us) q = some u ∧ Rp W Z H x u) ∧ (dlook ks vs q = none → valV (ks.zip us) q = none) := by
  induction ks with
  | nil => exact fun q r => ⟨fun x e => (by cases e), fun _ => rfl⟩
  | cons k ks ih =>
    intro vs us q r
    cases vs with
    | nil =>
      have : us = [] := r
      subst this
      exact ⟨fun x e => (by cases e), fun _ => rfl⟩
    | cons d vs =>
      obtain ⟨u, us, rfl, p, t⟩ := r
      unfold dlook
      rw [List.zip_cons_cons]
      by_cases c : k = q
      · rw [if_pos c, valV_pos (p := (k, u)) c]
        exact ⟨fun x e => (by cases e; exact ⟨u, rfl, p⟩), fun e => (by cases e)⟩
      · rw [if_neg c, valV_neg (p := (k, u)) c]
        exact ih q t
theorem look_val1 {ks : List Ky} : ∀ {vs : List D} {us : List V} (x0 : Sum Int PySem.Str), (∀ k ∈ ks, ∃ x, k = [x]) → Rps W Z H vs us → (∀ x, dlook ks vs [x0] = some x → ∃ u, valV ((ks.map hd1).zip us) x0 = some u ∧ Rp W Z H x u) ∧ (dlook ks vs [x0] = none → valV ((ks.map hd1).zip us) x0 = none) := by
  induction ks with
  | nil => exact fun q _ r => ⟨fun x e => (by cases e), fun _ => rfl⟩
  | cons k ks ih =>
    intro vs us q h1 r
    obtain ⟨y, rfl⟩ := h1 k List.mem_cons_self
    cases vs with
    | nil =>
      have : us = [] := r
      subst this
      exact ⟨fun x e => (by cases e), fun _ => rfl⟩
    | cons d vs =>
      obtain ⟨u, us, rfl, p, t⟩ := r
      unfold dlook
      rw [List.map_cons, List.zip_cons_cons]
      by_cases c : y = q
      · subst c
        rw [if_pos rfl, valV_pos (p := (hd1 [y], u)) (show (hd1 [y], u).1 = y from rfl)]
        exact ⟨fun x e => (by cases e; exact ⟨u, rfl, p⟩), fun e => (by cases e)⟩
      · rw [if_neg (fun e => c (by injection e)), valV_neg (p := (hd1 [y], u)) (show ¬ (hd1 [y], u).1 = q from c)]
        exact ih q (fun k hk => h1 k (List.mem_cons_of_mem _ hk)) t
theorem look_mem {ks : List Ky} : ∀ {vs : List D} (q : Ky), ks.length = vs.length → (dlook ks vs q).isSome = kyIn q ks := by
  induction ks with
  | nil => intro vs q _; rfl
  | cons k ks ih =>
    intro vs q h
    cases vs with
    | nil => cases h
    | cons v vs =>
      unfold dlook kyIn
      rw [List.any_cons]
      by_cases c : k = q
      · rw [if_pos c, decide_eq_true c]; rfl
      · rw [if_neg c, decide_eq_false c, Bool.false_or]
        exact ih q (by simpa using h)
theorem fit_each : ∀ {n : Nat} {l : List D}, fits n l = true → ∀ y ∈ l, D.fit n y = true
  | _, [], _, y, h => nomatch h
  | n, d :: r, e, y, h => by
    have e' : (D.fit n d && fits n r) = true := e
    rw [Bool.and_eq_true] at e'
    rcases List.mem_cons.mp h with rfl | h
    · exact e'.1
    · exact fit_each e'.2 y h
/-- what the dict holds at the key -/
theorem dget_ok {tk : Bool} {ks : List Ky} {vs : List D} {us : List V} {a : Addr} {q : Ky} (ha : H a = some (dO tk ks us)) (ok : dOk tk ks vs) (r : Rps W Z H vs us) (ek : kyOf tk d = some q) (rk : Rp W Z H d v) :
    ∃ o, DGet H a v o ∧ (∀ x, dlook ks vs q = some x → ∃ u, o = some u ∧ Rp W Z H x u) ∧ (dlook ks vs q = none → o = none) := by
  cases tk with
  | true =>
    cases d <;> first | (cases ek; done) | skip
    obtain ⟨b, ws, rfl, t, p⟩ := rk
    have e := ky_all ek p
    subst e
    obtain ⟨h1, h2⟩ := look_val (ks := ks) q r
    exact ⟨_, .t ha t.hp, h1, h2⟩
  | false =>
    obtain ⟨x, e1, rfl⟩ : ∃ x, kyOne d = some x ∧ q = [x] := by
      have ek' : (kyOne d).map (fun k => [k]) = some q := by cases d <;> exact ek
      cases e : kyOne d with
      | none => rw [e] at ek'; cases ek'
      | some x => rw [e] at ek'; cases ek'; exact ⟨x, rfl, rfl⟩
    have e := ky_one e1 rk
    subst e
    obtain ⟨h1, h2⟩ := look_val1 (ks := ks) x (ok.2 rfl) r
    exact ⟨_, .k ha, h1, h2⟩
theorem Bw.dct {tk : Bool} {ks : List Ky} {vs : List D} (b : Bw W Z ρ σ H (.dct tk ks vs) v) (s : SR W H0 Z ρ σ H) : ∃ a us, v = .ref a ∧ H a = some (dO tk ks us) ∧ dOk tk ks vs ∧ Rps W Z H vs us := by
  rcases b with ⟨a, us, e, q, ok, r⟩ | ⟨i, e1, e2⟩
  · exact ⟨a, us, e, q.2, ok, r⟩
  · obtain ⟨a, e3, _, _, us, q, ok, r⟩ := s.ow i _ e1
    rw [e2] at e3; cases e3
    exact ⟨a, us, rfl, q, ok, r⟩
/-- a key that is looked at is plain -/
theorem Bw.key {tk : Bool} {q : Ky} (b : Bw W Z ρ σ H d v) (s : SR W H0 Z ρ σ H) (e : kyOf tk d = some q) : Rp W Z H d v := by
  rcases b with h | ⟨i, e1, e2⟩
  · exact h
  · obtain ⟨a, _, _, _, o⟩ := s.ow i _ e1
    cases d with
    | lst l => cases tk <;> cases e
    | dct _ _ _ => cases tk <;> cases e
    | _ => exact o.elim
def rInAll (K : PySem.W.Frag) (neg : Bool) : R2 := fun x y H Q => rIn K neg x y H Q ∨ (∃ d ds, Dp K H x d ∧ Dp K H y (.list ds) ∧ SeqAt.shaped d = true ∧ SeqAt.shaped (.list ds) = true ∧ Q (.bl (if neg then !(ds.any fun z => PyData.eqv z d) else ds.any fun z => PyData.eqv z d)) H) ∨
  ∃ a o, y = .ref a ∧ DGet H a x o ∧ Q (.bl (if neg then !o.isSome else o.isSome)) H
theorem op_inAll (hu : X.A.units + 65 < cLine) : OpR X (compareOp .In) (rInAll X.K false) := by
  intro pins s σ H x y v u Q I rx ry h
  rcases h with h | ⟨d, ds, h1, h2, h3, h4, q⟩ | ⟨a, o, rfl, g, q⟩
  · exact op_in_seq pins s σ H x y v u Q I rx ry h
  · exact op_inD hu pins s σ H x y v u Q I rx ry ⟨d, ds, h1, h2, h3, h4, q⟩
  · obtain rfl : u = Value.ref a := ry
    exact d_in (by omega) I g rx fun s3 I3 => ⟨.bl o.isSome, H, I3, rfl, q⟩
theorem op_notInAll (hu : X.A.units + 65 < cLine) : OpR X (compareOp .NotIn) (rInAll X.K true) := by
  intro pins s σ H x y v u Q I rx ry h
  rcases h with h | ⟨d, ds, h1, h2, h3, h4, q⟩ | ⟨a, o, rfl, g, q⟩
  · exact op_notIn_seq pins s σ H x y v u Q I rx ry h
  · exact op_notInD hu pins s σ H x y v u Q I rx ry ⟨d, ds, h1, h2, h3, h4, q⟩
  · obtain rfl : u = Value.ref a := ry
    exact d_notIn (by omega) I g rx fun s3 I3 => ⟨.bl (!o.isSome), H, I3, rfl, q⟩
theorem toPys_map : ∀ l : List D, toPys l = l.map toPy
  | [] => rfl
  | d :: r => by unfold toPys; rw [toPys_map r]; rfl
theorem cc_in (hK : X.K = W.K) {neg : Bool} {o : Cop} (ho : o = if neg then .notin else .isin) {Q : VK} {b : Bool} (s : SR W H0 Z ρ σ H) (a : W.At H st) (b1 : Bw W Z ρ σ H d1 v1) (b2 : Bw W Z ρ σ H d2 v2) (e : cmpD o d1 d2 = some b) (q : Q (.bl b) H) : rInAll X.K neg v1 v2 H Q := by
  obtain ⟨r0, hr, rfl⟩ : ∃ r, inD d1 d2 = some r ∧ b = if neg then !r else r := by
    subst ho
    cases neg with
    | true =>
      have e' : (inD d1 d2).map (fun r => !r) = some b := by cases d1 <;> cases d2 <;> exact e
      cases c : inD d1 d2 with
      | none => rw [c] at e'; cases e'
      | some r => rw [c] at e'; cases e'; exact ⟨r, rfl, rfl⟩
    | false =>
      have e' : inD d1 d2 = some b := by cases d1 <;> cases d2 <;> exact e
      exact ⟨b, e', rfl⟩
  have r1 := b1.rd s
  unfold inD at hr
  split at hr
  · rename_i x l
    split at hr
    · rename_i c
      cases hr
      rw [Bool.or_eq_true, Bool.and_eq_true, Bool.and_eq_true] at c
      rcases c with c | c
      · obtain ⟨p, vs, rfl, t, r⟩ := b2.lst s
        obtain ⟨i1, i2⟩ := in_flat c.1 r1 c.2 r
        exact .inl ⟨p, vs, rfl, .inl (.inl t), scal_flat c.1 r1, i1, by rw [i2]; exact q⟩
      · refine .inr (.inl ⟨toPy d1, toPys l, hK ▸ b1.dp s c.1, hK ▸ b2.dp s c.2, fit_sh c.1, fit_sh c.2, ?_⟩)
        have fl : ∀ y ∈ l, D.fit 39 y = true := fit_each (show fits 39 l = true from c.2)
        have : (toPys l).any (fun z => PyData.eqv z (toPy d1)) = l.any fun y => D.eqv y d1 := by
          rw [toPys_map, List.any_map]
          have gen : ∀ m : List D, (∀ y ∈ m, D.fit 39 y = true) → m.any ((fun z => PyData.eqv z (toPy d1)) ∘ toPy) = m.any fun y => D.eqv y d1 := by
            intro m
            induction m with
            | nil => exact fun _ => rfl
            | cons y m ih =>
              intro h
              rw [List.any_cons, List.any_cons, ih fun z hz => h z (List.mem_cons_of_mem _ hz)]
              show (PyData.eqv (toPy y) (toPy d1) || _) = _
              rw [eqv_py _ _ _ _ (h y List.mem_cons_self) c.1]
          exact gen l fl
        rw [this]; exact q
    · cases hr
  · rename_i x l
    split at hr
    · rename_i c
      cases hr
      rw [Bool.and_eq_true] at c
      obtain ⟨p, vs, rfl, t, r⟩ := b2.tup s
      obtain ⟨i1, i2⟩ := in_flat c.1 r1 c.2 r
      exact .inl ⟨p, vs, rfl, .inr (hK ▸ t.seq), scal_flat c.1 r1, i1, by rw [i2]; exact q⟩
    · cases hr
  · rename_i x tk ks vs
    cases ek : kyOf tk d1 with
    | none => rw [ek] at hr; cases hr
    | some qk =>
      rw [ek] at hr
      cases hr
      obtain ⟨p, us, rfl, ha, ok, r⟩ := b2.dct s
      obtain ⟨o, g, h1, h2⟩ := dget_ok ha ok r ek (b1.key s ek)
      refine .inr (.inr ⟨p, o, rfl, g, ?_⟩)
      have : o.isSome = kyIn qk ks := by
        rw [← look_mem qk ok.1]
        cases c : dlook ks vs qk with
        | none => rw [h2 c]; rfl
        | some x => obtain ⟨u, e1, _⟩ := h1 x c; rw [e1]; rfl
      rw [this]; exact q
  · cases hr
/-! ### truth -/
theorem truD_ok (hK : X.K = W.K) {b : Bool} (s : SR W H0 Z ρ σ H) (b1 : Bw W Z ρ σ H d v) (e : truD d = some b) : TruV X.K v H b := by
  cases d with
  | non => cases e; rw [show v = .non from b1.rd s]; rfl
  | bl c => cases e; rw [show v = .bl _ from b1.rd s]; rfl
  | int i => cases e; rw [show v = .int _ from b1.rd s]; rfl
  | str x =>
    have e' : (if x.length ≤ L then some ((x.length : Int) != 0) else none) = some b := e
    split at e' <;> try (cases e'; done)
    rename_i c
    cases e'
    rw [show v = .str _ from b1.rd s]
    exact ⟨by rw [← L_eq]; exact c, rfl⟩
  | tup l =>
    cases e
    obtain ⟨p, vs, rfl, t, r⟩ := b1.tup s
    refine .inr (.inl ⟨vs, hK ▸ t.seq, ?_⟩)
    have := Rps.length r
    cases l <;> cases vs <;> first | rfl | (simp at this)
  | lst l =>
    cases e
    obtain ⟨p, vs, rfl, t, r⟩ := b1.lst s
    refine .inl ⟨vs, .inl t, ?_⟩
    have := Rps.length r
    cases l <;> cases vs <;> first | rfl | (simp at this)
  | st _ => cases e
  | dct _ _ _ => cases e
  | ins _ _ => cases e
  | rep _ => cases e

/-! ### isinstance -/
def tyName : Ty → String
  | .int => "int" | .bool => "bool" | .str => "str" | .tuple => "tuple" | .list => "list"
theorem isi_ok (hK : X.K = W.K) {t : Ty} {b : Bool} {Q : VK} (s : SR W H0 Z ρ σ H) (b1 : Bw W Z ρ σ H d v) (e : isiD d t = some b) (q : Q (.bl b) H) : rIsi X.K [v, .ty (tyName t)] H Q := by
  have mk : ∀ {T : String}, TyX X.K H v (.type T) → kitB T (tyName t) = some b → rIsi X.K [v, .ty (tyName t)] H Q := fun {T} hT hb =>
    ⟨v, .ty (tyName t), .type T, .type (tyName t), b, rfl, .ty _, hT, kit_ty hb, q⟩
  cases d with
  | non => have hv : v = .non := b1.rd s; subst hv; cases e; exact mk (T := "NoneType") (.base .non) (by cases t <;> decide +kernel)
  | bl c => have hv : v = .bl c := b1.rd s; subst hv; cases e; exact mk (T := "bool") (.base (.bl _)) (by cases t <;> decide +kernel)
  | int i => have hv : v = .int i := b1.rd s; subst hv; cases e; exact mk (T := "int") (.base (.int _)) (by cases t <;> decide +kernel)
  | str x => have hv : v = .str x := b1.rd s; subst hv; cases e; exact mk (T := "str") (.base (.str _)) (by cases t <;> decide +kernel)
  | tup l =>
    cases e
    obtain ⟨p, vs, rfl, tt, r⟩ := b1.tup s
    refine mk (T := "tuple") ?_ (by cases t <;> decide +kernel)
    exact .base (.tup tt.hp)
  | lst l =>
    cases e
    obtain ⟨p, vs, rfl, tt, r⟩ := b1.lst s
    refine mk (T := "list") (.base ?_) (by cases t <;> decide +kernel)
    rcases tt with tt | ⟨o, tt⟩
    · exact .lst tt
    · exact .frz tt
  | st _ => cases e
  | dct _ _ _ => cases e
  | ins _ _ => cases e
  | rep _ => cases e

/-! ### places -/
theorem ixN_same (n : Nat) (i : Int) : L2.ixN n i = ixN n i := rfl
theorem atD_ok {l : List D} {vs : List V} {i : Int} (r : Rps W Z H l vs) (e : atD l i = some d) : ∃ v, atI vs i = some v ∧ Rp W Z H d v := by
  unfold atD at e
  unfold atI
  rw [Rps.length r, ixN_same]
  cases c : ixN l.length i with
  | none => rw [c] at e; cases e
  | some j =>
    rw [c] at e
    obtain ⟨v, e2, p⟩ := r.get (show l[j]? = some d from e)
    exact ⟨v, e2, p⟩
def rIxD : R2 := fun x y H Q => ∃ a v, x = .ref a ∧ DGet H a y (some v) ∧ Q v H
theorem ix_dct (hu : X.A.units + 1 < cLine) : IxR X rIxD := by
  intro value slice pins s σ H x y v u Q I rx ry h hs
  obtain ⟨a, w, rfl, g, q⟩ := h
  obtain rfl : v = Value.ref a := rx
  exact tail_any (ops := [.ref a, u]) (dict_typeIs I g) PySem.F.slot_dict_getitem.lookup (d_getItem hu I g ry fun w' s3 I3 rw' => ⟨w, H, I3, rw', q⟩) hs
def rIxAll (K : PySem.W.Frag) : R2 := fun x y H Q => rIx K x y H Q ∨ rIxD x y H Q
theorem ix_all (hu : X.A.units + 1 < cLine) : IxR X (rIxAll X.K) := ix_seq.or (ix_dct hu)
theorem rr_ix (hK : X.K = W.K) {Q : VK} (s : SR W H0 Z ρ σ H) (a : W.At H st) (b1 : Bw W Z ρ σ H d1 v1) (b2 : Bw W Z ρ σ H d2 v2) (e : subD d1 d2 = some d)
    (k : ∀ H' v, W.At H' st → Kp W H H' → qN W Z ρ σ H H' d v → Q v H') : rIxAll X.K v1 v2 H Q := by
  unfold subD at e
  split at e <;> try (cases e; done)
  · obtain ⟨p, vs, rfl, t, r⟩ := b1.lst s
    obtain ⟨v, e2, q⟩ := atD_ok r e
    exact .inl (.inl ⟨p, vs, _, v, rfl, b2.int s, .inl t, e2, k H v a (.refl W H) q⟩)
  · obtain ⟨p, vs, rfl, t, r⟩ := b1.tup s
    obtain ⟨v, e2, q⟩ := atD_ok r e
    exact .inl (.inr (.inl ⟨p, vs, _, v, rfl, b2.int s, hK ▸ t.seq, e2, k H v a (.refl W H) q⟩))
  · rename_i tk ks vs
    cases ek : kyOf tk d2 with
    | none => rw [ek] at e; cases e
    | some qk =>
      rw [ek] at e
      obtain ⟨p, us, rfl, ha, ok, r⟩ := b1.dct s
      obtain ⟨o, g, h1, h2⟩ := dget_ok ha ok r ek (b2.key s ek)
      obtain ⟨u, rfl, pu⟩ := h1 _ e
      exact .inr ⟨p, u, rfl, g, k H u a (.refl W H) pu⟩
theorem st_rp {x : D} (h : stOk x = true) : Rp W Z H x (stV W.hand x) := by
  cases x <;> first | (cases h; done) | rfl
theorem rr_ixS (hK : X.K = W.K) {Q : VK} (s : SR W H0 Z ρ σ H) (a : W.At H st) (b1 : Bw W Z ρ σ H d1 v1) (b2 : Bw W Z ρ σ H d2 v2) (e : subS st d1 d2 = some d)
    (k : ∀ H' v, W.At H' st → Kp W H H' → qN W Z ρ σ H H' d v → Q v H') : rIxAll X.K v1 v2 H Q := by
  unfold subS at e
  split at e
  · rename_i n j
    cases c : StOps.get st n with
    | none => rw [c] at e; cases e
    | some l =>
      rw [c] at e
      obtain ⟨_, hl, hall⟩ := W.hget a c
      have hv : v1 = .ref (W.hand n) := b1.rd s
      subst hv
      have e' : (ixN l.length j).bind (fun i => l[i]?) = some d := e
      cases ci : ixN l.length j with
      | none => rw [ci] at e'; cases e'
      | some i =>
        rw [ci] at e'
        have r : Rps W Z H l (l.map (stV W.hand)) := by
          have gen : ∀ m : List D, m.all stOk = true → Rps W Z H m (m.map (stV W.hand)) := by
            intro m
            induction m with
            | nil => exact fun _ => rfl
            | cons x m ih =>
              intro h
              rw [List.all_cons, Bool.and_eq_true] at h
              exact ⟨_, _, rfl, st_rp h.1, ih h.2⟩
          exact gen l hall
        obtain ⟨v, e2, q⟩ := atD_ok r e
        exact .inl (.inl ⟨W.hand n, _, _, v, rfl, b2.int s, .inl (.inl hl), e2, k H v a (.refl W H) q⟩)
  · exact rr_ix hK s a b1 b2 e k
theorem sIx_same (n d : Nat) (o : Option Int) : HT.sIx n d o = sIx n d o := by cases o <;> rfl
theorem cut_ok {l : List D} {vs : List V} (lo hi : Option Int) (r : Rps W Z H l vs) : Rps W Z H (cutD l lo hi) (cutV vs lo hi) := by
  unfold cutD cutV
  rw [Rps.length r, sIx_same, sIx_same]
  exact (r.drop _).take _
end
end Ev
end
section
set_option Elab.async false
set_option linter.all false
set_option maxRecDepth 100000
set_option maxHeartbeats 1000000
namespace Ev
open PySem PySem.Spec PyProof.Rows L2

/-- values that are looked at, one for each datum -/
def Bws (W : Wd) (Z : Addr → Prop) (ρ : Env) (σ : L2.St) (H : Hp) : List D → List V → Prop
  | [], vs => vs = []
  | d :: r, vs => ∃ v us, vs = v :: us ∧ Bw W Z ρ σ H d v ∧ Bws W Z ρ σ H r us
section
variable {X : Cx} {W : Wd} {Wx : WX} {σ : L2.St} {H H' H0 : Hp} {Z : Addr → Prop} {ρ : Env} {st : W.S} {d1 d2 d : D} {v1 v2 v : V}
theorem Bws.mono (s : SR W H0 Z ρ σ H) (k : Kp W H H') : ∀ {ds : List D} {vs : List V}, Bws W Z ρ σ H ds vs → Bws W Z ρ σ H' ds vs
  | [], _, h => h
  | d :: r, vs, h => by
    obtain ⟨v, us, e, p, q⟩ := h
    exact ⟨v, us, e, p.mono s k, Bws.mono s k q⟩
theorem Bws.rd (s : SR W H0 Z ρ σ H) : ∀ {ds : List D} {vs : List V}, Bws W Z ρ σ H ds vs → Rps W W.foot H ds vs
  | [], _, h => h
  | d :: r, vs, h => by
    obtain ⟨v, us, e, p, q⟩ := h
    exact ⟨v, us, e, p.rd s, Bws.rd s q⟩
theorem Bws.of (h : Rps W Z H ds vs) : Bws W Z ρ σ H ds vs := by
  induction ds generalizing vs with
  | nil => exact h
  | cons d r ih =>
    obtain ⟨v, us, e, p, q⟩ := h
    exact ⟨v, us, e, .inl p, ih q⟩
theorem Bws.append : ∀ {ds es : List D} {vs us : List V}, Bws W Z ρ σ H ds vs → Bws W Z ρ σ H es us → Bws W Z ρ σ H (ds ++ es) (vs ++ us)
  | [], _, vs, _, h, q => by rw [show vs = [] from h]; exact q
  | d :: r, es, vs, us, h, q => by
    obtain ⟨v, ws, e, p, t⟩ := h
    exact ⟨v, ws ++ us, by rw [e]; rfl, p, Bws.append t q⟩
/-- argument lists: looked at, plain -/
abbrev Pqs := (Addr → Prop) → Env → L2.St → Hp → List D → List V → Prop
def qBs (W : Wd) : Pqs := fun Z ρ σ H' ds vs => Bws W Z ρ σ H' ds vs
def qNs (W : Wd) : Pqs := fun Z _ _ H' ds vs => Rps W Z H' ds vs
/-- looked at; and where no own list is named, plain -/
def qC (W : Wd) (x : IE) : Pq := fun Z ρ σ _ H' d v => Bw W Z ρ σ H' d v ∧ (isOwn ρ x = false → Rp W Z H' d v)
def qCs (W : Wd) (irs : IEs) : Pqs := fun Z ρ σ H' ds vs => Bws W Z ρ σ H' ds vs ∧ (irs.own ρ = false → Rps W Z H' ds vs)
def tEvs (W : Wd) (Wx : WX) (q : Pqs) (f : Env → W.S → R W.S (List D)) : TA := fun σ H Q => ∃ H0 Z ρ st, SR W H0 Z ρ σ H ∧ W.At H st ∧
  Go W Wx σ H (f ρ st) fun ds st' => ∀ H' vs, W.At H' st' → Kp W H H' → q Z ρ σ H' ds vs → Q vs H'
theorem evs_nil {q : Pqs} (hq : ∀ {Z ρ σ H}, q Z ρ σ H [] []) {Q : List V → Hp → Prop} (h : tEvs W Wx q (fun _ s => .ok [] s) σ H Q) : tNil σ H Q := by
  obtain ⟨H0, Z, ρ, st, s, a, g⟩ := h
  exact g H [] a (.refl W H) hq
theorem evs_consB {f1 : Env → W.S → R W.S D} {f2 : Env → W.S → R W.S (List D)} {Q : List V → Hp → Prop} (h : tEvs W Wx (qBs W) (fun ρ s => (f1 ρ s).bind fun x s1 => (f2 ρ s1).bind fun l s2 => .ok (x :: l) s2) σ H Q) : tCons (tEv W Wx (qB W) f1) (tEvs W Wx (qBs W) f2) σ H Q := by
  obtain ⟨H0, Z, ρ, st, s, a, g⟩ := h
  refine ⟨H0, Z, ρ, st, s, a, (go_bind g).imp fun d1 st1 k1 H1 v1 a1 kp1 b1 => ?_⟩
  have s1 := s.mono kp1
  refine ⟨H0, Z, ρ, st1, s1, a1, (go_bind (k1 H1 kp1)).imp fun l st2 k2 H2 vs a2 kp2 b2 => ?_⟩
  exact k2 H2 kp2 H2 _ a2 (kp1.trans kp2) ⟨v1, vs, rfl, b1.mono s1 kp2, b2⟩
theorem evs_consC {x : IE} {y : IEs} {f1 : Env → W.S → R W.S D} {f2 : Env → W.S → R W.S (List D)} {Q : List V → Hp → Prop} (h : tEvs W Wx (qCs W (.cons x y)) (fun ρ s => (f1 ρ s).bind fun x s1 => (f2 ρ s1).bind fun l s2 => .ok (x :: l) s2) σ H Q) : tCons (tEv W Wx (qC W x) f1) (tEvs W Wx (qCs W y) f2) σ H Q := by
  obtain ⟨H0, Z, ρ, st, s, a, g⟩ := h
  refine ⟨H0, Z, ρ, st, s, a, (go_bind g).imp fun d1 st1 k1 H1 v1 a1 kp1 b1 => ?_⟩
  have s1 := s.mono kp1
  refine ⟨H0, Z, ρ, st1, s1, a1, (go_bind (k1 H1 kp1)).imp fun l st2 k2 H2 vs a2 kp2 b2 => ?_⟩
  refine k2 H2 kp2 H2 _ a2 (kp1.trans kp2) ⟨⟨v1, vs, rfl, b1.1.mono s1 kp2, b2.1⟩, fun hq => ?_⟩
  have hq' : (isOwn ρ x || y.own ρ) = false := hq
  rw [Bool.or_eq_false_iff] at hq'
  exact ⟨v1, vs, rfl, kp2.rp s1.ft (b1.2 hq'.1), b2.2 hq'.2⟩
theorem evs_consN {f1 : Env → W.S → R W.S D} {f2 : Env → W.S → R W.S (List D)} {Q : List V → Hp → Prop} (h : tEvs W Wx (qNs W) (fun ρ s => (f1 ρ s).bind fun x s1 => (f2 ρ s1).bind fun l s2 => .ok (x :: l) s2) σ H Q) : tCons (tEv W Wx (qN W) f1) (tEvs W Wx (qNs W) f2) σ H Q := by
  obtain ⟨H0, Z, ρ, st, s, a, g⟩ := h
  refine ⟨H0, Z, ρ, st, s, a, (go_bind g).imp fun d1 st1 k1 H1 v1 a1 kp1 b1 => ?_⟩
  have s1 := s.mono kp1
  refine ⟨H0, Z, ρ, st1, s1, a1, (go_bind (k1 H1 kp1)).imp fun l st2 k2 H2 vs a2 kp2 b2 => ?_⟩
  exact k2 H2 kp2 H2 _ a2 (kp1.trans kp2) ⟨v1, vs, rfl, kp2.rp s1.ft b1, b2⟩
theorem seqD_ok (hK : X.K = W.K) {l : List D} (s : SR W H0 Z ρ σ H) (b : Bw W Z ρ σ H d v) (e : seqD d = some l) : ∃ p vs, v = .ref p ∧ (Rd H p (.lst vs) ∨ TpAt W H p vs) ∧ (SqT X.K H p vs ∨ SqL X.K H p vs) ∧ Rps W Z H l vs := by
  cases d with
  | lst l' => cases e; obtain ⟨p, vs, rfl, t, r⟩ := b.lst s; exact ⟨p, vs, rfl, .inl t, .inr (.inl t), r⟩
  | tup l' => cases e; obtain ⟨p, vs, rfl, t, r⟩ := b.tup s; exact ⟨p, vs, rfl, .inr t, .inl (hK ▸ t.seq), r⟩
  | _ => cases e
theorem evs_star (hK : X.K = W.K) {q : Pqs} (hq : ∀ {Z ρ σ H ds es vs us}, Rps W Z H ds vs → q Z ρ σ H es us → q Z ρ σ H (ds ++ es) (vs ++ us)) {f1 : Env → W.S → R W.S D} {f2 : Env → W.S → R W.S (List D)} {Q : List V → Hp → Prop}
    (h : tEvs W Wx q (fun ρ s => (f1 ρ s).bind fun x s1 => match seqD x with | some xs => (f2 ρ s1).bind fun l s2 => .ok (xs ++ l) s2 | none => .bad) σ H Q) : StX.tStar X.K (tEv W Wx (qB W) f1) (tEvs W Wx q f2) σ H Q := by
  obtain ⟨H0, Z, ρ, st, s, a, g⟩ := h
  refine ⟨H0, Z, ρ, st, s, a, (go_bind g).imp fun d1 st1 k1 H1 v1 a1 kp1 b1 => ?_⟩
  have s1 := s.mono kp1
  have g2 := k1 H1 kp1
  cases e : seqD d1 with
  | none => rw [e] at g2; exact g2.elim
  | some xs =>
    rw [e] at g2
    obtain ⟨p, vs, rfl, _, t, r⟩ := seqD_ok hK s1 b1 e
    refine ⟨p, vs, rfl, t, H0, Z, ρ, st1, s1, a1, (go_bind g2).imp fun l st2 k2 H2 us a2 kp2 b2 => ?_⟩
    exact k2 H2 kp2 H2 _ a2 (kp1.trans kp2) (hq (kp2.rps s1.ft r) b2)
/-! ### displays -/
theorem ev_tup {f : Env → W.S → R W.S (List D)} {Q : VK} (h : tEv W Wx (qF W) (fun ρ s => (f ρ s).bind fun l s1 => if l.length ≤ L then .ok (.tup l) s1 else .bad) σ H Q) : tTup (tEvs W Wx (qNs W) f) σ H Q := by
  obtain ⟨H0, Z, ρ, st, s, a, g⟩ := h
  refine ⟨H0, Z, ρ, st, s, a, (go_bind g).imp fun l st1 k1 H1 vs a1 kp1 b1 => ?_⟩
  have s1 := s.mono kp1
  have g2 := k1 H1 kp1
  split at g2
  · rename_i c
    exact ⟨by rw [Rps.length b1, ← L_eq]; exact c, fun p hp => g2 _ _ (At.new a1 hp) (kp1.trans (.new hp)) (fr_tup s1 hp b1)⟩
  · exact g2.elim
theorem ev_lst {f : Env → W.S → R W.S (List D)} {Q : VK} (h : tEv W Wx (qF W) (fun ρ s => (f ρ s).bind fun l s1 => if l.length ≤ L then .ok (.lst l) s1 else .bad) σ H Q) : tLst (tEvs W Wx (qNs W) f) σ H Q := by
  obtain ⟨H0, Z, ρ, st, s, a, g⟩ := h
  refine ⟨H0, Z, ρ, st, s, a, (go_bind g).imp fun l st1 k1 H1 vs a1 kp1 b1 => ?_⟩
  have s1 := s.mono kp1
  have g2 := k1 H1 kp1
  split at g2
  · rename_i c
    refine ⟨by rw [Rps.length b1, ← L_eq]; exact c, fun p hp => g2 _ _ (At.new a1 hp) (kp1.trans (.new hp)) (Fr.back kp1 (fr_lst s1 hp b1))⟩
  · exact g2.elim

/-! ### built-in functions -/
theorem Bws.one (b : Bws W Z ρ σ H [d] vs) : ∃ v, vs = [v] ∧ Bw W Z ρ σ H d v := by
  obtain ⟨v, us, e, p, q⟩ := b
  exact ⟨v, by rw [e, show us = [] from q], p⟩
theorem Bws.two (b : Bws W Z ρ σ H [d1, d2] vs) : ∃ v u, vs = [v, u] ∧ Bw W Z ρ σ H d1 v ∧ Bw W Z ρ σ H d2 u := by
  obtain ⟨v, us, e, p, u, ws, e2, p2, q⟩ := b
  exact ⟨v, u, by rw [e, e2, show ws = [] from q], p, p2⟩
theorem ev_blt {r : List V → Hp → VK → Prop} {b : Blt} {f : Env → W.S → R W.S (List D)}
    (hr : ∀ {H0 Z ρ σ H st ds vs d Q}, SR W H0 Z ρ σ H → W.At H st → Bws W Z ρ σ H ds vs → bltS st b ds = some d → (∀ H' v, W.At H' st → Kp W H H' → qF W Z ρ σ H H' d v → Q v H') → r vs H Q) {Q : VK}
    (h : tEv W Wx (qF W) (fun ρ s => (f ρ s).bind fun l s1 => R.lift (bltS s1 b l) s1) σ H Q) : tCB r (tEvs W Wx (qBs W) f) σ H Q := by
  obtain ⟨H0, Z, ρ, st, s, a, g⟩ := h
  refine ⟨H0, Z, ρ, st, s, a, (go_bind g).imp fun l st1 k1 H1 vs a1 kp1 b1 => ?_⟩
  obtain ⟨d, e, k3⟩ := go_lift (k1 H1 kp1)
  exact hr (s.mono kp1) a1 b1 e fun H' v a' k' p => k3 H' v a' (kp1.trans k') (Fr.back kp1 p)
variable {ds : List D} {vs : List V} {Q : VK}
theorem bb_len (hK : X.K = W.K) (s : SR W H0 Z ρ σ H) (a : W.At H st) (b : Bws W Z ρ σ H ds vs) (e : lenF ds = some d) (k : ∀ H' v, W.At H' st → Kp W H H' → qF W Z ρ σ H H' d v → Q v H') :
    ∃ x n, vs = [x] ∧ LenV X.K x H n ∧ Q (.int n) H := by
  unfold lenF at e
  split at e <;> try (cases e; done)
  · cases e
    obtain ⟨v, rfl, b1⟩ := b.one
    obtain ⟨p, vs, rfl, t, r⟩ := b1.lst s
    exact ⟨_, vs.length, rfl, .inl ⟨vs, .inl t, rfl⟩, by rw [Rps.length r]; exact k H _ a (.refl W H) rfl⟩
  · cases e
    obtain ⟨v, rfl, b1⟩ := b.one
    obtain ⟨p, vs, rfl, t, r⟩ := b1.tup s
    exact ⟨_, vs.length, rfl, .inr ⟨vs, hK ▸ t.seq, rfl⟩, by rw [Rps.length r]; exact k H _ a (.refl W H) rfl⟩
  · split at e <;> try (cases e; done)
    rename_i c
    cases e
    obtain ⟨v, rfl, b1⟩ := b.one
    have hv := b1.str s
    subst hv
    exact ⟨_, _, rfl, ⟨by rw [← L_eq]; exact c, rfl⟩, k H _ a (.refl W H) rfl⟩
theorem bb_lenS (hK : X.K = W.K) (s : SR W H0 Z ρ σ H) (a : W.At H st) (b : Bws W Z ρ σ H ds vs) (e : bltS st .len ds = some d) (k : ∀ H' v, W.At H' st → Kp W H H' → qF W Z ρ σ H H' d v → Q v H') :
    ∃ x n, vs = [x] ∧ LenV X.K x H n ∧ Q (.int n) H := by
  unfold bltS at e
  split at e
  · rename_i n _
    cases c : StOps.get st n with
    | none => rw [c] at e; cases e
    | some l =>
      rw [c] at e
      cases e
      obtain ⟨_, hl, hall⟩ := W.hget a c
      obtain ⟨v, rfl, b1⟩ := b.one
      have hv : v = .ref (W.hand n) := b1.rd s
      subst hv
      exact ⟨_, _, rfl, .inl ⟨_, .inl (.inl hl), rfl⟩, by rw [List.length_map]; exact k H _ a (.refl W H) rfl⟩
  · exact bb_len hK s a b e k
theorem bb_abs (s : SR W H0 Z ρ σ H) (a : W.At H st) (b : Bws W Z ρ σ H ds vs) (e : absF ds = some d) (k : ∀ H' v, W.At H' st → Kp W H H' → qF W Z ρ σ H H' d v → Q v H') :
    ∃ i, vs = [.int i] ∧ Q (.int (if i < 0 then -i else i)) H := by
  unfold absF at e
  split at e <;> try (cases e; done)
  cases e
  obtain ⟨v, rfl, b1⟩ := b.one
  have hv := b1.int s
  subst hv
  exact ⟨_, rfl, k H _ a (.refl W H) rfl⟩
theorem bb_min2 (s : SR W H0 Z ρ σ H) (a : W.At H st) (b : Bws W Z ρ σ H ds vs) (e : min2F ds = some d) (k : ∀ H' v, W.At H' st → Kp W H H' → qF W Z ρ σ H H' d v → Q v H') :
    ∃ i j, vs = [.int i, .int j] ∧ Q (.int (if j < i then j else i)) H := by
  unfold min2F at e
  split at e <;> try (cases e; done)
  cases e
  obtain ⟨v, u, rfl, b1, c⟩ := b.two
  have hv := b1.int s
  have hu := c.int s
  subst hv; subst hu
  exact ⟨_, _, rfl, k H _ a (.refl W H) rfl⟩
theorem bb_max2 (s : SR W H0 Z ρ σ H) (a : W.At H st) (b : Bws W Z ρ σ H ds vs) (e : max2F ds = some d) (k : ∀ H' v, W.At H' st → Kp W H H' → qF W Z ρ σ H H' d v → Q v H') :
    ∃ i j, vs = [.int i, .int j] ∧ Q (.int (if j > i then j else i)) H := by
  unfold max2F at e
  split at e <;> try (cases e; done)
  cases e
  obtain ⟨v, u, rfl, b1, c⟩ := b.two
  have hv := b1.int s
  have hu := c.int s
  subst hv; subst hu
  exact ⟨_, _, rfl, k H _ a (.refl W H) rfl⟩
theorem bb_gcd (s : SR W H0 Z ρ σ H) (a : W.At H st) (b : Bws W Z ρ σ H ds vs) (e : gcdF ds = some d) (k : ∀ H' v, W.At H' st → Kp W H H' → qF W Z ρ σ H H' d v → Q v H') :
    ∃ a b : Int, vs = [.int a, .int b] ∧ Q (.int ((Nat.gcd a.natAbs b.natAbs : Nat) : Int)) H := by
  unfold gcdF at e
  split at e <;> try (cases e; done)
  cases e
  obtain ⟨v, u, rfl, b1, c⟩ := b.two
  have hv := b1.int s
  have hu := c.int s
  subst hv; subst hu
  exact ⟨_, _, rfl, k H _ a (.refl W H) rfl⟩
theorem bb_int1 (s : SR W H0 Z ρ σ H) (a : W.At H st) (b : Bws W Z ρ σ H ds vs) (e : int1F ds = some d) (k : ∀ H' v, W.At H' st → Kp W H H' → qF W Z ρ σ H H' d v → Q v H') :
    (∃ i, vs = [.int i] ∧ Q (.int i) H) ∨ ∃ k, vs = [.bl k] ∧ Q (.int (if k then 1 else 0)) H := by
  unfold int1F at e
  split at e <;> try (cases e; done)
  · cases e
    obtain ⟨v, rfl, b1⟩ := b.one
    have hv := b1.int s
    subst hv
    exact .inl ⟨_, rfl, k H _ a (.refl W H) rfl⟩
  · cases e
    obtain ⟨v, rfl, b1⟩ := b.one
    have hv : v = .bl _ := b1.rd s
    subst hv
    exact .inr ⟨_, rfl, k H _ a (.refl W H) rfl⟩
theorem bb_sum (hK : X.K = W.K) (s : SR W H0 Z ρ σ H) (a : W.At H st) (b : Bws W Z ρ σ H ds vs) (e : sumF ds = some d) (k : ∀ H' v, W.At H' st → Kp W H H' → qF W Z ρ σ H H' d v → Q v H') : rSum X.K vs H Q := by
  unfold sumF at e
  split at e <;> try (cases e; done)
  rename_i l
  cases c : D.ints l with
  | none => rw [c] at e; cases e
  | some is =>
    rw [c] at e; cases e
    obtain ⟨v, rfl, b1⟩ := b.one
    obtain ⟨p, vs, rfl, t, r⟩ := b1.lst s
    have := Rps.ints c r
    subst this
    exact ⟨p, is, rfl, .inl t, k H _ a (.refl W H) rfl⟩
theorem min_fold : ∀ (r : List Int) (i m : Int), (m ∈ i :: r) → (∀ y ∈ i :: r, m ≤ y) → r.foldl (fun a b => if b < a then b else a) i = m
  | [], i, m, h, _ => (List.mem_singleton.mp h).symm
  | x :: r, i, m, h, hm => by
    rw [List.foldl_cons]
    refine min_fold r _ m ?_ ?_
    · have h1 := hm i (by simp)
      have h2 := hm x (by simp)
      rcases List.mem_cons.mp h with e | h
      · by_cases c : x < i
        · rw [if_pos c]
          have : x = m := by omega
          rw [this]; exact List.mem_cons_self
        · rw [if_neg c, e]; exact List.mem_cons_self
      · rcases List.mem_cons.mp h with e | h
        · by_cases c : x < i
          · rw [if_pos c, e]; exact List.mem_cons_self
          · rw [if_neg c]
            have : i = m := by omega
            rw [this]; exact List.mem_cons_self
        · exact List.mem_cons_of_mem _ h
    · intro y hy
      rcases List.mem_cons.mp hy with e | hy
      · split at e <;> (rw [e]; exact hm _ (by simp))
      · exact hm y (by simp [hy])
theorem max_fold : ∀ (r : List Int) (i m : Int), (m ∈ i :: r) → (∀ y ∈ i :: r, y ≤ m) → r.foldl (fun a b => if b > a then b else a) i = m
  | [], i, m, h, _ => (List.mem_singleton.mp h).symm
  | x :: r, i, m, h, hm => by
    rw [List.foldl_cons]
    refine max_fold r _ m ?_ ?_
    · have h1 := hm i (by simp)
      have h2 := hm x (by simp)
      rcases List.mem_cons.mp h with e | h
      · by_cases c : x > i
        · rw [if_pos c]
          have : x = m := by omega
          rw [this]; exact List.mem_cons_self
        · rw [if_neg c, e]; exact List.mem_cons_self
      · rcases List.mem_cons.mp h with e | h
        · by_cases c : x > i
          · rw [if_pos c, e]; exact List.mem_cons_self
          · rw [if_neg c]
            have : i = m := by omega
            rw [this]; exact List.mem_cons_self
        · exact List.mem_cons_of_mem _ h
    · intro y hy
      rcases List.mem_cons.mp hy with e | hy
      · split at e <;> (rw [e]; exact hm _ (by simp))
      · exact hm y (by simp [hy])
theorem bb_min1 (hK : X.K = W.K) (s : SR W H0 Z ρ σ H) (a : W.At H st) (b : Bws W Z ρ σ H ds vs) (e : min1F ds = some d) (k : ∀ H' v, W.At H' st → Kp W H H' → qF W Z ρ σ H H' d v → Q v H') : rMin X.K vs H Q := by
  unfold min1F at e
  split at e <;> try (cases e; done)
  split at e <;> try (cases e; done)
  rename_i i r c
  cases e
  obtain ⟨v, rfl, b1⟩ := b.one
  obtain ⟨p, vs, rfl, t, q⟩ := b1.lst s
  have := Rps.ints c q
  subst this
  exact ⟨p, i :: r, rfl, .inl t, by simp, fun m hm hle => by rw [← min_fold r i m hm hle]; exact k H _ a (.refl W H) rfl⟩
theorem bb_max1 (hK : X.K = W.K) (s : SR W H0 Z ρ σ H) (a : W.At H st) (b : Bws W Z ρ σ H ds vs) (e : max1F ds = some d) (k : ∀ H' v, W.At H' st → Kp W H H' → qF W Z ρ σ H H' d v → Q v H') : rMax X.K vs H Q := by
  unfold max1F at e
  split at e <;> try (cases e; done)
  split at e <;> try (cases e; done)
  rename_i i r c
  cases e
  obtain ⟨v, rfl, b1⟩ := b.one
  obtain ⟨p, vs, rfl, t, q⟩ := b1.lst s
  have := Rps.ints c q
  subst this
  exact ⟨p, i :: r, rfl, .inl t, by simp, fun m hm hle => by rw [← max_fold r i m hm hle]; exact k H _ a (.refl W H) rfl⟩
theorem bb_any (hK : X.K = W.K) (s : SR W H0 Z ρ σ H) (a : W.At H st) (b : Bws W Z ρ σ H ds vs) (e : anyF ds = some d) (k : ∀ H' v, W.At H' st → Kp W H H' → qF W Z ρ σ H H' d v → Q v H') : rAny X.K vs H Q := by
  unfold anyF at e
  split at e <;> try (cases e; done)
  rename_i l
  cases c : D.bls l with
  | none => rw [c] at e; cases e
  | some is =>
    rw [c] at e; cases e
    obtain ⟨v, rfl, b1⟩ := b.one
    obtain ⟨p, vs, rfl, t, r⟩ := b1.lst s
    have := Rps.bls c r
    subst this
    exact ⟨p, is, rfl, .inl t, k H _ a (.refl W H) rfl⟩
theorem bb_all (hK : X.K = W.K) (s : SR W H0 Z ρ σ H) (a : W.At H st) (b : Bws W Z ρ σ H ds vs) (e : allF ds = some d) (k : ∀ H' v, W.At H' st → Kp W H H' → qF W Z ρ σ H H' d v → Q v H') : rAll X.K vs H Q := by
  unfold allF at e
  split at e <;> try (cases e; done)
  rename_i l
  cases c : D.bls l with
  | none => rw [c] at e; cases e
  | some is =>
    rw [c] at e; cases e
    obtain ⟨v, rfl, b1⟩ := b.one
    obtain ⟨p, vs, rfl, t, r⟩ := b1.lst s
    have := Rps.bls c r
    subst this
    exact ⟨p, is, rfl, .inl t, k H _ a (.refl W H) rfl⟩
theorem bb_list (hK : X.K = W.K) (s : SR W H0 Z ρ σ H) (a : W.At H st) (b : Bws W Z ρ σ H ds vs) (e : listF ds = some d) (k : ∀ H' v, W.At H' st → Kp W H H' → qF W Z ρ σ H H' d v → Q v H') :
    ∃ p ys, vs = [.ref p] ∧ (SqL X.K H p ys ∨ SqT X.K H p ys) ∧ ∀ l, H l = none → Q (.ref l) (upd H l (.lst ys)) := by
  unfold listF at e
  split at e <;> try (cases e; done)
  · cases e
    obtain ⟨v, rfl, b1⟩ := b.one
    obtain ⟨p, vs, rfl, t, r⟩ := b1.lst s
    exact ⟨p, vs, rfl, .inl (.inl t), fun q hq => k _ _ (At.new a hq) (.new hq) (fr_lst s hq r)⟩
  · cases e
    obtain ⟨v, rfl, b1⟩ := b.one
    obtain ⟨p, vs, rfl, t, r⟩ := b1.tup s
    exact ⟨p, vs, rfl, .inr (hK ▸ t.seq), fun q hq => k _ _ (At.new a hq) (.new hq) (fr_lst s hq r)⟩
theorem bb_tuple (hK : X.K = W.K) (s : SR W H0 Z ρ σ H) (a : W.At H st) (b : Bws W Z ρ σ H ds vs) (e : tupleF ds = some d) (k : ∀ H' v, W.At H' st → Kp W H H' → qF W Z ρ σ H H' d v → Q v H') :
    ∃ p ys, vs = [.ref p] ∧ ((SqL X.K H p ys ∧ ∀ l, H l = none → Q (.ref l) (upd H l (.tup ys))) ∨ (SqT X.K H p ys ∧ Q (.ref p) H)) := by
  unfold tupleF at e
  split at e <;> try (cases e; done)
  · cases e
    obtain ⟨v, rfl, b1⟩ := b.one
    obtain ⟨p, vs, rfl, t, r⟩ := b1.lst s
    exact ⟨p, vs, rfl, .inl ⟨.inl t, fun q hq => k _ _ (At.new a hq) (.new hq) (fr_tup s hq r)⟩⟩
  · cases e
    obtain ⟨v, rfl, b1⟩ := b.one
    obtain ⟨p, vs, rfl, t, r⟩ := b1.tup s
    exact ⟨p, vs, rfl, .inr ⟨hK ▸ t.seq, k H _ a (.refl W H) ⟨p, vs, rfl, t, r⟩⟩⟩
end
end Ev
end
section
set_option Elab.async false
set_option linter.all false
set_option maxRecDepth 100000
set_option maxHeartbeats 2000000
/-! EvRp: repr of plain data. -/
namespace Ev
open PySem PySem.Spec PyProof.Rows L2
mutual
theorem shown_wt : ∀ (n : Nat) (d : D), D.fit n d = true → (PyData.shown (toPy d)).length ≤ D.wt d
  | _, .non, _ => by show (4 : Nat) ≤ 6; omega
  | _, .bl b, _ => by
    have e : (PyData.shown (.bool b)).length ≤ 5 := by cases b <;> decide
    show (PyData.shown (.bool b)).length ≤ 6; omega
  | _, .int i, _ => by
    have e1 := int_text_length_le (a := i) (k := i.natAbs.log2 + 1) (Nat.succ_pos _) (Nat.lt_succ_self _)
    have e : (PyData.shown (.int i)).length ≤ i.natAbs.log2 + 1 + 1 := by
      show (Str.ofString (toString i)).length ≤ _
      rw [PySem.ofString_length]; exact e1
    show (PyData.shown (.int i)).length ≤ i.natAbs.log2 + 4; omega
  | n, .str x, h => by
    have h' : x.cps.all (· < 1114112) = true := by cases n <;> simpa [D.fit] using h
    have h2 : ∀ c ∈ x.cps.toList, c < 16 ^ 8 := fun c hc => by
      have := Array.all_eq_true'.mp h' c (by simpa using hc)
      have : c < 1114112 := by simpa using this
      omega
    have e := StrLaws.reprText_len x h2
    show (reprText x).length ≤ 10 * x.length + 2
    exact e
  | 0, .tup l, h => by simp [D.fit] at h
  | n + 1, .tup l, h => by
    have e := tupleText_len_le (PyData.shownAll (toPys l))
    have e2 := shown_wts n l (by simpa [D.fit] using h)
    show (tupleText (PyData.shownAll (toPys l))).length ≤ wts l + 4
    omega
  | 0, .lst l, h => by simp [D.fit] at h
  | n + 1, .lst l, h => by
    have e := listText_len_le (PyData.shownAll (toPys l))
    have e2 := shown_wts n l (by simpa [D.fit] using h)
    show (listText (PyData.shownAll (toPys l))).length ≤ wts l + 4
    omega
  | n, .st _, h => by cases n <;> simp [D.fit] at h
  | n, .dct _ _ _, h => by cases n <;> simp [D.fit] at h
  | n, .ins _ _, h => by cases n <;> simp [D.fit] at h
  | n, .rep _, h => by cases n <;> simp [D.fit] at h
theorem shown_wts : ∀ (n : Nat) (l : List D), fits n l = true → ((PyData.shownAll (toPys l)).map (·.length)).sum + 2 * (PyData.shownAll (toPys l)).length ≤ wts l
  | _, [], _ => Nat.le_refl _
  | n, d :: r, h => by
    have h' : D.fit n d = true ∧ fits n r = true := by simpa [fits] using h
    have a := shown_wt n d h'.1
    have b := shown_wts n r h'.2
    show ((PyData.shown (toPy d)).length :: (PyData.shownAll (toPys r)).map (·.length)).sum + 2 * (PyData.shown (toPy d) :: PyData.shownAll (toPys r)).length ≤ D.wt d + 2 + wts r
    rw [List.sum_cons, List.length_cons]
    omega
end
mutual
theorem shw_ok : ∀ d : D, D.shw d = true → PyData.showable (toPy d) = true
  | .non, _ => rfl
  | .bl _, _ => rfl
  | .int i, h => h
  | .str _, _ => rfl
  | .tup l, h => shws_ok l h
  | .lst l, h => shws_ok l h
  | .st _, _ => rfl
  | .dct _ _ _, _ => rfl
  | .ins _ _, _ => rfl
  | .rep _, _ => rfl
theorem shws_ok : ∀ l : List D, shws l = true → PyData.showableAll (toPys l) = true
  | [], _ => rfl
  | d :: r, h => by
    have h' : D.shw d = true ∧ shws r = true := by simpa [shws] using h
    show (PyData.showable (toPy d) && PyData.showableAll (toPys r)) = true
    rw [shw_ok d h'.1, shws_ok r h'.2]; rfl
end
section
variable {X : Cx} {W : Wd} {σ : L2.St} {H H0 : Hp} {Z : Addr → Prop} {ρ : Env} {st : W.S} {ds : List D} {vs : List V} {d : D} {Q : VK}
/-- repr of what is known to its depth -/
def rRepr (K : PySem.W.Frag) : List V → Hp → VK → Prop := fun xs H Q => ∃ (x : V) (d : PyData), xs = [x] ∧ Dp K H x d ∧ d.showable = true ∧ d.hasDict = false ∧ d.depth ≤ 40 ∧ d.shown.length ≤ sizeLine ∧ Q (.str d.shown) H
theorem call_repr (hg : X.A.guards = some []) (hu : X.A.units + 65 < cLine) : CallR X (.builtin "repr") (rRepr X.K) := by
  intro pins s σ H xs us Q I r h
  obtain ⟨x, d, rfl, hd, hs, hn, hp, hl, q⟩ := h
  match us, r with
  | [u], .cons rx .nil =>
    obtain ⟨as, rd⟩ := Dp.reads I d x u hd rx
    have fin : ∀ {t : Tok}, EP X pins σ Q (.str d.shown t) { s with toks := s.toks + 1 } := fun {t} => ⟨.str d.shown, H, I.tok _, ⟨_, rfl⟩, q⟩
    cases rd with
    | none => exact PySem.P.repr_of_none fin
    | bool b => exact PySem.P.repr_of_bool fin
    | int i t => exact PySem.P.repr_of_int (by simpa [PyData.showable] using hs) fin
    | str y t => exact PySem.P.repr_of_str fin hl
    | list h1 h2 h3 h4 => exact repr_of_reads' (.list h1 h2 h3 h4) hs (fun c => by rw [hn] at c; cases c) hg (by omega) (fun _ _ e => e) (fun h' u tk kp => ⟨.str _, H, I.kept (t' := tk) kp, ⟨_, rfl⟩, q⟩) hl
    | tuple h1 h2 h3 h4 => exact repr_of_reads' (.tuple h1 h2 h3 h4) hs (fun c => by rw [hn] at c; cases c) hg (by omega) (fun _ _ e => e) (fun h' u tk kp => ⟨.str _, H, I.kept (t' := tk) kp, ⟨_, rfl⟩, q⟩) hl
    | dict h1 h2 h3 h4 h5 => simp [PyData.hasDict] at hn
theorem bb_repr (hK : X.K = W.K) (s : SR W H0 Z ρ σ H) (a : W.At H st) (b : Bws W Z ρ σ H ds vs) (e : reprF ds = some d) (k : ∀ H' v, W.At H' st → Kp W H H' → qF W Z ρ σ H H' d v → Q v H') : rRepr X.K vs H Q := by
  unfold reprF at e
  split at e <;> try (cases e; done)
  rename_i d0
  split at e <;> try (cases e; done)
  rename_i c
  cases e
  simp only [Bool.and_eq_true, decide_eq_true_eq] at c
  obtain ⟨⟨c1, c2⟩, c3⟩ := c
  obtain ⟨v, rfl, b1⟩ := b.one
  obtain ⟨f1, f2⟩ := fit_shape 40 d0 c1
  exact ⟨v, toPy d0, rfl, hK ▸ b1.dp s c1, shw_ok d0 c2, PyData.hasDict_of_canLay _ f1, f2, by rw [← L_eq]; exact Nat.le_trans (shown_wt 40 d0 c1) c3, k H _ a (.refl W H) rfl⟩
end
end Ev
end
section
set_option Elab.async false
set_option linter.all false
set_option maxRecDepth 100000
set_option maxHeartbeats 1000000
namespace Ev
open PySem PySem.Spec PyProof.Rows L2

/-! ### what a def promises, its call -/
/-- what a def hands back: its lists are all new -/
def Rt (W : Wd) (Y : Addr → Prop) (H H' : Hp) : D → V → Prop
  | .lst l, v => ∃ a vs, v = .ref a ∧ H a = none ∧ H' a = some (.lst vs) ∧ Rps W (fun b => W.foot b ∨ Y b ∨ b = a) H' l vs
  | .dct tk ks l, v => ∃ a us, v = .ref a ∧ H a = none ∧ H' a = some (dO tk ks us) ∧ dOk tk ks l ∧ Rps W (fun b => W.foot b ∨ Y b ∨ b = a) H' l us
  | d, v => Rp W (fun b => W.foot b ∨ Y b) H' d v
/-- Y: what the lists of the arguments and of the answer stand apart from -/
def spF (W : Wd) (m : Fn W.S) : Sp := fun vs H Q E => ∃ ds st Y, (∀ b, Y b → H b ≠ none) ∧ W.At H st ∧ Rps W (fun b => W.foot b ∨ Y b) H ds vs ∧ match m ds st with
  | .ok d st' => ∀ H' v, W.At H' st' → Kp W H H' → Rt W Y H H' d v → Q v H'
  | .ex e st' => ∀ H' dx C, W.At H' st' → Kp W H H' → ExAt W H' e dx C → E (.ref C) (some dx) H'
  | .bad => False
section
variable {X : Cx} {W : Wd} {Wx : WX} {σ : L2.St} {H H' H0 : Hp} {Z Z' : Addr → Prop} {ρ : Env} {st : W.S} {d1 d2 d : D} {v1 v2 v : V}
theorem Rt.fr (h : Rt W Z H H' d v) : Fr W Z H H' d v := by
  have an : ∀ (a : Addr) b, (Z b ∨ b = a) → (W.foot b ∨ Z b ∨ b = a) := fun a b z => Or.inr z
  cases d with
  | lst l =>
    obtain ⟨a, vs, e, n, q, r⟩ := h
    exact ⟨a, vs, e, n, q, rps_anti (an a) r⟩
  | dct tk ks l =>
    obtain ⟨a, vs, e, n, q, ok, r⟩ := h
    exact ⟨a, vs, e, n, q, ok, rps_anti (an a) r⟩
  | _ => exact rp_anti (Z := fun b => W.foot b ∨ Z b) (fun b z => Or.inr z) h
/-- an answer that holds no list in it -/
theorem Rt.frB {Y : Addr → Prop} (hb : d.back = true) (h : Rt W Y H H' d v) : Fr W Z H H' d v := by
  cases d with
  | lst l =>
    obtain ⟨a, vs, e, n, q, r⟩ := h
    exact ⟨a, vs, e, n, q, rps_plain l vs hb r⟩
  | dct tk ks l =>
    obtain ⟨a, vs, e, n, q, ok, r⟩ := h
    exact ⟨a, vs, e, n, q, ok, rps_plain l vs hb r⟩
  | _ => exact rp_plain (Z := fun b => W.foot b ∨ Y b) _ _ hb h
/-- what becomes of a call's answer: it may hold lists where no own one was handed over -/
def chk {S : Type} (own : Bool) (r : R S D) : R S D := r.bind fun d s => if own && !d.back then .bad else .ok d s
theorem sp_call {Q : VK} {m : Fn W.S} {irs : IEs} {ds : List D} {vs : List V} {own : Bool} (s : SR W H0 Z ρ σ H) (a : W.At H st) (b : Bws W Z ρ σ H ds vs) (hn : own = false → Rps W Z H ds vs)
    (g : Go W Wx σ H (chk own (m ds st)) fun d st' => ∀ H' v, W.At H' st' → Kp W H H' → Fr W Z H H' d v → Q v H') : spF W m vs H Q (WE Wx σ) := by
  unfold chk at g
  cases own with
  | true =>
    refine ⟨ds, st, fun _ => False, fun _ z => z.elim, a, rps_anti (fun b z => z.elim id False.elim) (b.rd s), ?_⟩
    cases hm : m ds st with
    | bad => rw [hm] at g; exact g
    | ex e s1 => rw [hm] at g; exact fun H' dx C a' k x => g H' dx C a' k x
    | ok d s1 =>
      rw [hm, R.bind_ok] at g
      cases hb : d.back with
      | false => rw [hb] at g; exact g.elim
      | true =>
        rw [hb] at g
        have g' : ∀ H' v, W.At H' s1 → Kp W H H' → Fr W Z H H' d v → Q v H' := g
        exact fun H' v a' k r => g' H' v a' k (r.frB hb)
  | false =>
    refine ⟨ds, st, Z, s.zdom a, a, rps_anti (fun b z => z.elim (s.ft b) id) (hn rfl), ?_⟩
    cases hm : m ds st with
    | bad => rw [hm] at g; exact g
    | ex e s1 => rw [hm] at g; exact fun H' dx C a' k x => g H' dx C a' k x
    | ok d s1 =>
      rw [hm, R.bind_ok] at g
      have g' : ∀ H' v, W.At H' s1 → Kp W H H' → Fr W Z H H' d v → Q v H' := g
      exact fun H' v a' k r => g' H' v a' k r.fr
theorem ev_call {m : Fn W.S} {irs : IEs} {f : Env → W.S → R W.S (List D)} {Q : VK} (h : tEv W Wx (qF W) (fun ρ s => (f ρ s).bind fun l s1 => chk (irs.own ρ) (m l s1)) σ H Q) : tCallS (spF W m) (fun σ => WE Wx σ) (tEvs W Wx (qCs W irs) f) σ H Q := by
  obtain ⟨H0, Z, ρ, st, s, a, g⟩ := h
  refine ⟨H0, Z, ρ, st, s, a, (go_bind g).imp fun l st1 k1 H1 vs a1 kp1 b1 => ?_⟩
  refine sp_call (irs := irs) (s.mono kp1) a1 b1.1 b1.2 ((k1 H1 kp1).imp fun d st2 g2 H' v a' k' r => ?_)
  exact g2 H' v a' (kp1.trans k') (Fr.back kp1 r)

/-! ### truth of a value, as a test -/
def tEvT (W : Wd) (Wx : WX) (f : Env → W.S → R W.S Bool) : TT := fun σ H Q => ∃ H0 Z ρ st, SR W H0 Z ρ σ H ∧ W.At H st ∧
  Go W Wx σ H (f ρ st) fun b st' => ∀ H', W.At H' st' → Kp W H H' → Q b H'
def asT {S : Type} (f : Env → S → R S D) : Env → S → R S Bool := fun ρ s => (f ρ s).bind fun x s1 => R.lift (truD x) s1
theorem evT_tru (hK : X.K = W.K) {f : Env → W.S → R W.S D} {Q : Bool → Hp → Prop} (h : tEvT W Wx (asT f) σ H Q) : tEv W Wx (qB W) f σ H fun x H' => ∃ k, TruV X.K x H' k ∧ Q k H' := by
  obtain ⟨H0, Z, ρ, st, s, a, g⟩ := h
  refine ⟨H0, Z, ρ, st, s, a, (go_bind g).imp fun x st1 k1 H1 v a1 kp1 b1 => ?_⟩
  obtain ⟨b, e, k2⟩ := go_lift (k1 H1 kp1)
  exact ⟨b, truD_ok hK (s.mono kp1) b1 e, k2 H1 a1 kp1⟩

/-! ### slots -/
theorem SR.free (s : SR W H0 Z ρ σ H) (i : Nat) (p : Rp W Z H d v) : SR W H0 Z (ρ.set i (some (false, d))) (σ.set i (some v)) H where
  kp := s.kp
  ft := s.ft
  own := s.own
  fr := fun j e q => by
    rw [List.getElem?_set] at q
    split at q
    · rename_i c
      subst c
      split at q
      · cases q
        rename_i c
        exact ⟨v, by rw [List.getElem?_set, if_pos rfl, if_pos (by rw [← s.len]; exact c)], p⟩
      · cases q
    · rename_i c
      obtain ⟨u, e1, p1⟩ := s.fr j e q
      exact ⟨u, by rw [List.getElem?_set, if_neg c]; exact e1, p1⟩
  ow := fun j e q => by
    rw [List.getElem?_set] at q
    split at q
    · split at q <;> cases q
    · rename_i c
      obtain ⟨a, e1, r⟩ := s.ow j e q
      exact ⟨a, by rw [List.getElem?_set, if_neg c]; exact e1, r⟩
  ds := fun j k e f a q1 q2 q3 q4 => by
    rw [List.getElem?_set] at q1 q2 q3 q4
    split at q1
    · split at q1 <;> cases q1
    · rename_i c1
      split at q2
      · split at q2 <;> cases q2
      · rename_i c2
        rw [if_neg c1] at q3
        rw [if_neg c2] at q4
        exact s.ds j k e f a q1 q2 q3 q4
  len := by rw [List.length_set, List.length_set]; exact s.len
  on := fun j e a q1 q2 => by
    rw [List.getElem?_set] at q1 q2
    split at q1
    · split at q1 <;> cases q1
    · rename_i c1
      rw [if_neg c1] at q2
      exact s.on j e a q1 q2
  nd := s.nd
theorem SR.forget (s : SR W H0 Z ρ σ H) (i : Nat) : SR W H0 Z (ρ.set i none) (σ.set i none) H where
  kp := s.kp
  ft := s.ft
  own := s.own
  fr := fun j e q => by
    rw [List.getElem?_set] at q
    split at q
    · split at q <;> cases q
    · rename_i c
      obtain ⟨u, e1, p1⟩ := s.fr j e q
      exact ⟨u, by rw [List.getElem?_set, if_neg c]; exact e1, p1⟩
  ow := fun j e q => by
    rw [List.getElem?_set] at q
    split at q
    · split at q <;> cases q
    · rename_i c
      obtain ⟨a, e1, r⟩ := s.ow j e q
      exact ⟨a, by rw [List.getElem?_set, if_neg c]; exact e1, r⟩
  ds := fun j k e f a q1 q2 q3 q4 => by
    rw [List.getElem?_set] at q1 q2 q3 q4
    split at q1
    · split at q1 <;> cases q1
    · rename_i c1
      split at q2
      · split at q2 <;> cases q2
      · rename_i c2
        rw [if_neg c1] at q3
        rw [if_neg c2] at q4
        exact s.ds j k e f a q1 q2 q3 q4
  len := by rw [List.length_set, List.length_set]; exact s.len
  on := fun j e a q1 q2 => by
    rw [List.getElem?_set] at q1 q2
    split at q1
    · split at q1 <;> cases q1
    · rename_i c1
      rw [if_neg c1] at q2
      exact s.on j e a q1 q2
  nd := s.nd
theorem SR.wipe (s : SR W H0 Z ρ σ H) : ∀ vs : List Nat, SR W H0 Z (wipeE ρ vs) (L2.wipe σ vs) H
  | [] => s
  | v :: vs => (s.wipe vs).forget v
/-- a new address is owned as well -/
theorem SR.more {a : Addr} (s : SR W H0 Z ρ σ H) (hn : H a = none) {H1 : Hp} (k : Kp W H H1) (h1 : H1 a ≠ none) : SR W H0 (fun b => Z b ∨ b = a) ρ σ H1 where
  kp := s.kp.trans k
  ft := fun b f => .inl (s.ft b f)
  own := fun b z => z.elim (fun z => (s.own b z).elim .inl fun q => .inr ⟨q.1, k.dom b q.2⟩) fun e => by
    subst e
    refine .inr ⟨.inr ?_, h1⟩
    cases c : H0 b with
    | none => rfl
    | some o => exact absurd hn (s.kp.dom b (by rw [c]; simp))
  fr := fun i d e => let ⟨v, e1, p⟩ := s.fr i d e; ⟨v, e1, k.rp (fun b f => .inl (s.ft b f)) (rp_apart hn p)⟩
  ow := fun i d e => by
    obtain ⟨b, e1, z, nf, o⟩ := s.ow i d e
    refine ⟨b, e1, .inl z, nf, ?_⟩
    exact o.move (fun x e => k.keep _ _ nf e) fun l vs r => k.rps (fun b f => .inl (s.ft b f)) (rps_apart hn r)
  ds := s.ds
  len := s.len
  on := s.on
  nd := fun b q => ⟨.inl (s.nd b q).1, (s.nd b q).2⟩

/-! ### targets -/
def gAll : List Nat → TGs
  | [] => gNil
  | i :: r => gCons (gName i) (gAll r)
def gOf (K : PySem.W.Frag) : Tg → TG
  | .name i => gName i
  | .tup l => gTup K l.length (gAll l)
def Tg.ids : Tg → List Nat
  | .name i => [i]
  | .tup l => l
theorem setAll_ok {Q : L2.St → Hp → Prop} : ∀ {l : List Nat} {ds : List D} {vs : List V} {ρ ρ1 : Env} {σ : L2.St}, setAll l ds ρ = some ρ1 → SR W H0 Z ρ σ H → Rps W Z H ds vs → (∀ σ1, SR W H0 Z ρ1 σ1 H → (∀ vs, (∀ i ∈ l, i ∈ vs) → L2.wipe σ1 vs = L2.wipe σ vs) → Q σ1 H) → gAll l vs σ H Q
  | [], [], vs, ρ, ρ1, σ, e, s, r, k => by
    cases e
    exact ⟨r, k σ s fun _ _ => rfl⟩
  | i :: l, d :: ds, vs, ρ, ρ1, σ, e, s, r, k => by
    obtain ⟨v, us, rfl, p, q⟩ := r
    refine ⟨v, us, rfl, ?_⟩
    show gAll l us (σ.set i (some v)) H Q
    refine setAll_ok (e : setAll l ds (ρ.set i (some (false, d))) = some ρ1) (s.free i p) q fun σ1 s1 w1 => k σ1 s1 fun vs hi => ?_
    rw [w1 vs fun j hj => hi j (List.mem_cons_of_mem _ hj)]
    exact wipe_put (hi i List.mem_cons_self)
  | [], _ :: _, _, _, _, _, e, _, _, _ => by cases e
  | _ :: _, [], _, _, _, _, e, _, _, _ => by cases e
where
  wipe_put {σ : L2.St} {i : Nat} {x : Option V} : ∀ {vs : List Nat}, i ∈ vs → L2.wipe (σ.set i x) vs = L2.wipe σ vs
  | [], h => nomatch h
  | j :: vs, h => by
    show (L2.wipe (σ.set i x) vs).set j none = (L2.wipe σ vs).set j none
    by_cases c : i ∈ vs
    · rw [wipe_put c]
    · have e : i = j := (List.mem_cons.mp h).resolve_right c
      subst e
      have hset : ∀ (ws : List Nat) (τ : L2.St), i ∉ ws → L2.wipe (τ.set i x) ws = (L2.wipe τ ws).set i x := by
        intro ws
        induction ws with
        | nil => intro τ _; rfl
        | cons w ws ih =>
          intro τ hw
          show (L2.wipe (τ.set i x) ws).set w none = ((L2.wipe τ ws).set w none).set i x
          rw [ih τ fun z => hw (List.mem_cons_of_mem _ z)]
          exact List.set_comm _ _ fun z => hw (by rw [z]; exact List.mem_cons_self)
      rw [hset vs σ c, List.set_set]
theorem bindTg_ok (hK : X.K = W.K) {tg : Tg} {ρ1 : Env} {Q : L2.St → Hp → Prop} (e : bindTg tg d ρ = some ρ1) (s : SR W H0 Z ρ σ H) (r : Rp W Z H d v) (k : ∀ σ1, SR W H0 Z ρ1 σ1 H → (∀ vs, (∀ i ∈ tg.ids, i ∈ vs) → L2.wipe σ1 vs = L2.wipe σ vs) → Q σ1 H) : gOf X.K tg v σ H Q := by
  cases tg with
  | name i =>
    cases e
    exact k _ (s.free i r) fun vs hi => setAll_ok.wipe_put (hi i List.mem_cons_self)
  | tup l =>
    cases d with
    | tup ds =>
      obtain ⟨a, vs, rfl, t, q⟩ := r
      refine ⟨a, vs, rfl, hK ▸ t.seq, ?_, setAll_ok e s q k⟩
      rw [Rps.length q]
      have hl : ∀ {l : List Nat} {ds : List D} {ρ ρ1 : Env}, setAll l ds ρ = some ρ1 → ds.length = l.length := by
        intro l
        induction l with
        | nil => intro ds ρ ρ1 e; cases ds with
          | nil => rfl
          | cons _ _ => cases e
        | cons i l ih => intro ds ρ ρ1 e; cases ds with
          | nil => cases e
          | cons d ds => rw [List.length_cons, List.length_cons, ih (show setAll l ds _ = some ρ1 from e)]
      exact hl e
    | _ => cases e
end
end Ev
end
section
set_option Elab.async false
set_option linter.all false
set_option maxRecDepth 100000
set_option maxHeartbeats 1000000
namespace Ev
open PySem PySem.Spec PyProof.Rows L2

/-- the own lists that are walked hold the same data -/
def OSt (W : Wd) (os : List (List D × Addr)) (Z : Addr → Prop) (H : Hp) : Prop := ∀ p ∈ os, OwnAt W Z H (.lst p.1) p.2
/-- what is walked gives just these items, as long as what Zs does not own stands, and the own lists os hold the same data -/
def ItOk (W : Wd) (Zs : Addr → Prop) (os : List (List D × Addr)) (J : It) (H' : Hp) (items : List D) : Prop :=
  ∃ (n : Nat) (G : Hp → Prop) (Y : Nat → Hp → V → Hp → Prop) (St : (Addr → Prop) → Hp → Prop), Walk J n G Y ∧ n = items.length ∧ (∀ Z'' H'', Stp Zs H' Z'' H'' → OSt W os Z'' H'' → St Z'' H'') ∧ (∀ Z'' H'', St Z'' H'' → G H'') ∧
    ∀ i x Z'' H1 H2, i < n → Y i H1 x H2 → (∀ b, W.foot b → Z'' b) → St Z'' H1 → (H2 = H1 ∨ ∃ T o, H1 T = none ∧ H2 = upd H1 T o) ∧ ∃ d, items[i]? = some d ∧ Rp W Z'' H2 d x
/-- lists walked by the names vars, without fr -/
def OsOk (vars fr : List Nat) (ρ : Env) (σ : L2.St) (os : List (List D × Addr)) : Prop := ∀ p ∈ os, ∃ i, i ∈ vars ∧ i ∉ fr ∧ ρ[i]? = some (some (true, .lst p.1)) ∧ σ[i]? = some (some (.ref p.2))
/-- Z without the own lists of the names vs -/
def Zout (Z : Addr → Prop) (ρ : Env) (σ : L2.St) (vs : List Nat) : Addr → Prop := fun b => Z b ∧ ¬ ∃ i, i ∈ vs ∧ (∃ d, ρ[i]? = some (some (true, d))) ∧ σ[i]? = some (some (.ref b))
def tSrc (W : Wd) (Wx : WX) (vars fr : List Nat) (f : Env → W.S → R W.S (List D)) : TI := fun σ H R => ∃ H0 Z ρ st, SR W H0 Z ρ σ H ∧ W.At H st ∧
  Go W Wx σ H (f ρ st) fun items st' => ∀ J H' os, OsOk vars fr ρ σ os → W.At H' st' → Kp W H H' → ItOk W (Zout Z ρ σ fr) os J H' items → R J H'
theorem PI.imp {X : Cx} {tg e : Expr} {t t' : TI} (h : PI X tg e t) (i : ∀ σ H R, t' σ H R → t σ H R) : PI X tg e t' := ⟨fun pins s σ H R I q => h.run pins s σ H R I (i σ H R q)⟩
theorem PI.or {X : Cx} {tg e : Expr} {t t' : TI} (h : PI X tg e t) (h' : PI X tg e t') : PI X tg e (fun σ H R => t σ H R ∨ t' σ H R) := ⟨fun pins s σ H R I q => q.elim (h.run pins s σ H R I) (h'.run pins s σ H R I)⟩
section
variable {X : Cx} {W : Wd} {Wx : WX} {σ : L2.St} {H H' H0 : Hp} {Z Z' : Addr → Prop} {ρ : Env} {st : W.S} {d1 d2 d : D} {v1 v2 v : V}
theorem fresh_kp {T : Addr} {o : HO} {H1 H2 : Hp} (h : H2 = H1 ∨ ∃ T o, H1 T = none ∧ H2 = upd H1 T o) : Kp W H1 H2 := by
  rcases h with rfl | ⟨T, o, n, rfl⟩
  · exact .refl W _
  · exact .new n
theorem fresh_kp' {H1 H2 : Hp} (h : H2 = H1 ∨ ∃ T o, H1 T = none ∧ H2 = upd H1 T o) : Kp W H1 H2 := by
  rcases h with rfl | ⟨T, o, n, rfl⟩
  · exact .refl W _
  · exact .new n
theorem fresh_at {H1 H2 : Hp} (h : H2 = H1 ∨ ∃ T o, H1 T = none ∧ H2 = upd H1 T o) (a : W.At H1 st) : W.At H2 st := by
  rcases h with rfl | ⟨T, o, n, rfl⟩
  · exact a
  · exact At.new a n

/-! ### a comprehension -/
theorem wipe_wipe (σ : L2.St) : ∀ vs : List Nat, L2.wipe (L2.wipe σ vs) vs = L2.wipe σ vs := by
  have one : ∀ (vs : List Nat) (τ : L2.St) (i : Nat), i ∈ vs → L2.wipe (τ.set i none) vs = L2.wipe τ vs := fun vs τ i h => setAll_ok.wipe_put h
  have gen : ∀ (us vs : List Nat) (τ : L2.St), (∀ i ∈ us, i ∈ vs) → L2.wipe (L2.wipe τ us) vs = L2.wipe τ vs := by
    intro us
    induction us with
    | nil => intro vs τ _; rfl
    | cons u us ih =>
      intro vs τ h
      show L2.wipe ((L2.wipe τ us).set u none) vs = _
      rw [one vs _ u (h u List.mem_cons_self), ih vs τ fun i hi => h i (List.mem_cons_of_mem _ hi)]
  intro vs
  exact gen vs vs σ fun _ h => h
abbrev W0 : WX := fun _ _ _ _ => False
/-- one turn's work -/
def turnF {S : Type} (tg : Tg) (own : List Nat) (ft : Env → S → R S Bool) (fe : Env → S → R S D) (ρ : Env) : D → S → R S (Option D) := fun d s2 => match bindTg tg d (wipeE ρ own) with
  | none => .bad
  | some ρ1 => (ft ρ1 s2).bind fun b s3 => if b then (fe ρ1 s3).bind fun y s4 => .ok (some y) s4 else .ok none s3
theorem go_ok {α : Type} {r : R W.S α} {a : α} {s : W.S} {Kk : α → W.S → Prop} (h : r = .ok a s) (k : Kk a s) : Go W Wx σ H r Kk := by
  rw [h]; exact k
theorem ev_lc (hK : X.K = W.K) {tg : Tg} {own : List Nat} {vars : List Nat} {fs : Env → W.S → R W.S (List D)} {ft : Env → W.S → R W.S Bool} {fe : Env → W.S → R W.S D} {tt : TT} (htg : ∀ i ∈ tg.ids, i ∈ own)
    (htt : ∀ σ H Q, tEvT W W0 ft σ H Q → tt σ H Q) {Q : VK}
    (h : tEv W Wx (qF W) (fun ρ s => (fs ρ s).bind fun items s1 => (turns (turnF tg own ft fe ρ) items [] s1).bind fun l s2 => .ok (.lst l) s2) σ H Q) :
    tLc (tSrc W Wx vars [] fs) (gOf X.K tg) tt (tEv W W0 (qN W) fe) own σ H Q := by
  obtain ⟨H0, Z, ρ, st, s, a, g⟩ := h
  refine ⟨H0, Z, ρ, st, s, a, (go_bind g).imp fun items st1 k1 J H1 os hos a1 kp1 it => ?_⟩
  have s1 := s.mono kp1
  have g2 := k1 H1 kp1
  intro Dp hD
  -- the turns run to their end
  cases ht : turns (turnF tg own ft fe ρ) items [] st1 with
  | bad => rw [ht] at g2; exact g2.elim
  | ex e st2 =>
    exfalso
    have : ∀ (l acc : List D) (st : W.S), turns (turnF tg own ft fe ρ) l acc st ≠ .ex e st2 := by
      intro l
      induction l with
      | nil => intro acc st q; cases q
      | cons d r ih =>
        intro acc st q
        unfold turns at q
        split at q
        · exact ih _ _ q
        · split at q
          · exact ih _ _ q
          · cases q
        · cases q
    exact this _ _ _ ht
  | ok L' st2 =>
    rw [ht] at g2
    have g2' : ∀ H' v, W.At H' st2 → Kp W H H' → qF W Z ρ σ H H' (.lst L') v → Q v H' := g2
    obtain ⟨n, G, Y, St, wk, hn, hSt, hG, hY⟩ := it
    let Zb : Addr → Prop := fun b => Z b ∨ b = Dp
    have zb : ∀ b, W.foot b → Zb b := fun b f => .inl (s.ft b f)
    have stOf : ∀ H2, Kp W H1 H2 → H2 Dp ≠ none → St Zb H2 := fun H2 kp hne => by
      refine hSt Zb H2 ⟨fun b o nz e => kp.keep b o (fun f => nz ⟨s.ft b f, fun ⟨i, hi, _⟩ => nomatch hi⟩) e, kp.tups, kp.dom, fun b z => z.elim (fun z => .inl ⟨z, fun ⟨i, hi, _⟩ => nomatch hi⟩) fun e => .inr (e ▸ hD)⟩ fun p hp => ?_
      obtain ⟨i, _, _, e1, e2⟩ := hos p hp
      obtain ⟨a', e3, _, _, o⟩ := (s1.more hD kp hne).ow i _ e1
      rw [e2] at e3; cases e3
      exact o
    let Pv : Nat → Hp → Prop := fun i H2 => ∃ acc accD sti, H2 Dp = some (.lst acc) ∧ Rps W Zb H2 accD acc ∧ W.At H2 sti ∧ Kp W H1 H2 ∧ turns (turnF tg own ft fe ρ) (items.drop i) accD sti = .ok L' st2
    refine lc_it wk Pv ⟨[], [], st1, upd_same, rfl, At.new a1 hD, .new hD, ht⟩ (fun i H2 _ ⟨_, _, _, hl, _, _, kp, _⟩ => hG _ _ (stOf H2 kp (by rw [hl]; simp))) ?_ ?_
    · intro i x H2 H3 hi ⟨acc, accD, sti, hDl, hr, ai, kp, hrun⟩ hy
      obtain ⟨hfr, d, hd, rd⟩ := hY i x Zb H2 H3 hi hy zb (stOf H2 kp (by rw [hDl]; simp))
      have kp3 : Kp W H2 H3 := fresh_kp' hfr
      have a3 : W.At H3 sti := fresh_at hfr ai
      have dneq : items.drop i = d :: items.drop (i + 1) := by
        obtain ⟨hi', e⟩ := List.getElem?_eq_some_iff.mp hd
        rw [List.drop_eq_getElem_cons hi', e]
      rw [dneq] at hrun
      unfold turns at hrun
      have kpall : Kp W H1 H3 := kp.trans kp3
      have hD3 : H3 Dp = some (.lst acc) := kp3.keep Dp _ (fun f => by
        obtain ⟨xs, e⟩ := W.lists a1 f
        rw [hD] at e; cases e) hDl
      have sb : SR W H0 Zb ρ σ H3 := s1.more hD kpall (by rw [hD3]; simp)
      have nD : ¬ W.foot Dp := fun f => by
        obtain ⟨xs, e⟩ := W.lists a1 f
        rw [hD] at e; cases e
      -- the turn's work
      cases hb : bindTg tg d (wipeE ρ own) with
      | none =>
        have : turnF tg own ft fe ρ d sti = .bad := by unfold turnF; rw [hb]
        rw [this] at hrun; cases hrun
      | some ρ1 =>
        have hF : turnF tg own ft fe ρ d sti = (ft ρ1 sti).bind fun b s3 => if b then (fe ρ1 s3).bind fun y s4 => .ok (some y) s4 else .ok none s3 := by unfold turnF; rw [hb]
        refine bindTg_ok hK hb (sb.wipe own) rd fun σ1 sr1 hw => ⟨?_, ?_⟩
        · rw [hw own htg, wipe_wipe]
        · refine htt _ _ _ ⟨H0, Zb, ρ1, sti, sr1, a3, ?_⟩
          rw [hF] at hrun
          cases hft : ft ρ1 sti with
          | bad => rw [hft] at hrun; cases hrun
          | ex e s3 => rw [hft] at hrun; cases hrun
          | ok b s3 =>
            rw [hft, R.bind_ok] at hrun
            intro H4 a4 kp4
            cases b with
            | false =>
              refine iteF ⟨acc, accD, s3, kp4.keep Dp _ nD hD3, (kp3.trans kp4).rps zb hr, a4, kpall.trans kp4, ?_⟩
              simpa using hrun
            | true =>
              refine iteT ⟨H0, Zb, ρ1, s3, sr1.mono kp4, a4, ?_⟩
              cases hfe : fe ρ1 s3 with
              | bad => simp [hfe] at hrun
              | ex e s4 => simp [hfe] at hrun
              | ok y s4 =>
                simp only [hfe, R.bind_ok, if_true] at hrun
                split at hrun
                · rename_i hl
                  intro H5 w a5 kp5 py
                  have hD5 : H5 Dp = some (.lst acc) := kp5.keep Dp _ nD (kp4.keep Dp _ nD hD3)
                  have hr5 : Rps W Zb H5 accD acc := ((kp3.trans kp4).trans kp5).rps zb hr
                  refine ⟨acc, hD5, by rw [Rps.length hr5, ← L_eq]; exact hl, acc ++ [w], accD ++ [y], s4, upd_same, ?_, ?_, ?_, hrun⟩
                  · have st' : Stp Zb H5 Zb (upd H5 Dp (.lst (acc ++ [w]))) := ⟨fun b o n e => by rw [upd_ne (fun z => n (.inr z))]; exact e, fun b xs e => by rw [upd_ne (ne_of e hD5 (by intro z; cases z))]; exact e, fun b e => by
                      by_cases hb : b = Dp
                      · subst hb; rw [upd_same]; simp
                      · rw [upd_ne hb]; exact e, fun b z => .inl z⟩
                    exact st'.rps (Rps.append hr5 (.one py))
                  · exact W.stk a5 fun b f => upd_ne fun z => nD (z ▸ f)
                  · have k5 := (kpall.trans kp4).trans kp5
                    exact ⟨fun b o nf e => by rw [upd_ne (ne_of_none e hD)]; exact k5.keep b o nf e, fun b xs e => by rw [upd_ne (ne_of_none e hD)]; exact k5.tups b xs e, fun b e => by
                      by_cases hb : b = Dp
                      · subst hb; rw [upd_same]; simp
                      · rw [upd_ne hb]; exact k5.dom b e⟩
                · cases hrun
    · intro H2 ⟨acc, accD, sti, hDl, hr, ai, kp, hrun⟩
      have e0 : items.drop n = [] := by rw [hn]; exact List.drop_length
      rw [e0] at hrun
      have e1 : accD = L' ∧ sti = st2 := by
        have q : (R.ok accD sti : R W.S (List D)) = .ok L' st2 := hrun
        injection q with q1 q2
        exact ⟨q1, q2⟩
      obtain ⟨rfl, rfl⟩ := e1
      refine g2' H2 _ ai (kp1.trans kp) ⟨Dp, acc, rfl, ?_, hDl, hr⟩
      cases c : H Dp with
      | none => rfl
      | some o => exact absurd hD (kp1.dom Dp (by rw [c]; simp))
end
end Ev
end
section
set_option Elab.async false
set_option linter.all false
set_option maxRecDepth 100000
set_option maxHeartbeats 2000000
namespace Ev
open PySem PySem.Spec PyProof.Rows L2

/-! ### enumerate of a tuple -/
theorem en_new {v : Value} {o : Obj} {Hh : Heap → Prop} (B : Begins v o Hh) : Meets (Builtin.«enumerate.__new__» ⟨[.type "enumerate", v], []⟩) (fun _ R s => Hh s.heap ∧
    R (.ok (.ret (.ref (s.heap.push o).objs.size))) { s with heap := (s.heap.push o).push { cls := .type "enumerate", data := .fields #[.none, .bool false, .ref s.heap.objs.size, rawInt 0, .none, .none] } }) :=
  .of_wp fun prog w A R sh hh => by
    obtain ⟨hp, gn, dr, tt, oo⟩ := sh
    obtain ⟨b1, fin⟩ := hh
    have hsb := sub_enumerate
    have start : ∀ {A1 : Around} {E1 : Value → Shared → Prop} {Q1 : Value → Shared → Prop},
        Q1 (.ref hp.objs.size) ⟨hp.push o, gn, dr, tt, oo⟩ → wpAny (model prog w) A1 (pyIter v) Q1 E1 ⟨hp, gn, dr, tt, oo⟩ :=
      fun q => B.iter prog w _ _ ⟨hp, gn, dr, tt, oo⟩ _ b1 q
    wp_walk using start
    refine wpAny_stack_any fun sk => wpAny_pure ?_
    split
    · rename_i cc _ _ _ _ _
      cases (cc == Value.type "enumerate") <;> (wp_walk using start; exact ⟨_, rfl, fin⟩)
    · wp_walk using start; exact ⟨_, rfl, fin⟩
theorem call_enT {prog : Program} {w : World} {A : Around} {E : Value → Shared → Prop} {s : Shared} {t : Addr} {items : Array Value} {Q : Value → Shared → Prop} (ht : s.heap.IsTuple t items)
    (k : ∀ h', IsEnum h' (s.heap.objs.size + 1) s.heap.objs.size 0 .none → h'.IsTupleIter s.heap.objs.size t 0 → h'.objs.size = s.heap.objs.size + 2 →
      (∀ b ob, s.heap.get? b = some ob → h'.get? b = some ob) → Q (.ref (s.heap.objs.size + 1)) { s with heap := h' }) : wpAny (model prog w) A (call (.type "enumerate") [.ref t]) Q E s := by
  have B := begins_tuple t items
  refine callType_new F.called_enumerate (by decide) (F.typeCall_enumerate_1 _) (F.newCall_enumerate_1 _)
    (fun ob => F.args_object_init_2 ob _) F.entry_enumerate_new (en_new B) ⟨ht, ?_⟩
  have sz : (s.heap.push { cls := .type "tuple_iterator", data := .fields #[.ref t, .int 0 0] }).objs.size = s.heap.objs.size + 1 := Heap.size_push ..
  show _ ∧ _
  rw [sz]
  generalize hq : s.heap.push { cls := .type "tuple_iterator", data := .fields #[.ref t, .int 0 0] } = h1 at sz
  have i1 : h1.get? s.heap.objs.size = some { cls := .type "tuple_iterator", data := .fields #[.ref t, .int 0 0] } := by
    rw [← hq]; exact Heap.get?_push_size _ rfl
  have old : ∀ b ob, s.heap.get? b = some ob → h1.get? b = some ob := fun b ob e => by
    rw [← hq]; exact Heap.get?_push_of_some _ e
  have e1 := Heap.get?_push_size h1 (o := { cls := .type "enumerate", data := .fields #[.none, .bool false, .ref s.heap.objs.size, rawInt 0, .none, .none] }) rfl
  rw [sz] at e1
  exact ⟨⟨_, e1, rfl⟩, k _ e1 ⟨_, Heap.get?_push_of_some _ i1, rfl, rfl⟩ (by rw [Heap.size_push, sz]) fun b ob e => Heap.get?_push_of_some _ (old b ob e)⟩
theorem en_end {prog : Program} {w : World} {A : Around} {E : Value → Shared → Prop} {s : Shared} {e it t : Addr} {i : Nat} {items : Array Value} {old : Value} {Q : Option Value → Shared → Prop} (hh : A.handled = none)
    (he : IsEnum s.heap e it i old) (hit : s.heap.IsTupleIter it t i) (ht : s.heap.IsTuple t items) (hx : items[i]? = none)
    (k : ∀ h', Heap.ExtBut it s.heap h' → Q none { s with heap := h' }) : wpAny (model prog w) A (pyNext (.ref e)) Q E s := by
  have ty : s.TypeIs (.ref e) "enumerate" := ⟨_, he, rfl⟩
  unfold pyNext
  refine wpAny_bind (wpAny_attempt (wpAny_callSpecial?_slot (name := Str.ofString "__next__") ty
    F.slot_enumerate_next (wpAny_call_entry F.slot_enumerate_next ty F.entry_enumerate_next ?_ (F.args_enumerate_next_1 _))))
  show wpAny _ _ (field (.ref e) 2 >>= _) _ _ _
  refine wpAny_bind (wpAny_field he rfl (x := .ref it) rfl ?_)
  refine wpAny_bind (wpAny_nextOf_tuple_end hh hit ht hx fun h' x xb xs => ?_)
  obtain ⟨ob, ho, hc⟩ := xs
  refine wpAny_bind (wpAny_isInstance (T := "StopIteration") (b := true) ⟨ob, ho, hc⟩ isSubtype_stop ?_)
  exact wpAny_pure (k _ xb)
/-- the tuple at a, each item in a new pair with its place -/
def IteT (K : PySem.W.Frag) (a : Addr) : It :=
  ⟨fun i H => ∃ (xs : List V) (x : V), SqT K H a xs ∧ xs[i]? = some x,
   fun i H v H' => ∃ T x, v = .ref T ∧ H T = none ∧ H' = upd H T (.tup [.int (i : Nat), x]) ∧ ∀ xs, SqT K H a xs → xs[i]? = some x,
   fun i H => ∃ xs : List V, SqT K H a xs ∧ xs.length ≤ i⟩
theorem turn_enT {P : Program} {w : World} {K : PySem.W.Frag} {elts : List Expr} {kk : Nat} {tpos : Pos} (a e it : Addr) :
    Turn P w K (.Tuple elts kk tpos) (IteT K a) [e, it] e (fun i h => (∃ old, IsEnum h e it ((i : Nat) : Int) old) ∧ h.IsTupleIter it a i ∧ e ≠ it ∧ a ≠ it ∧ a ≠ e) where
  mem := by simp
  obj := fun i h stt b hb => by
    obtain ⟨⟨old, he⟩, ⟨ob, ho, hc, hd⟩, _⟩ := stt
    rcases (show b = e ∨ b = it by simpa using hb) with z | z
    · rw [z]; exact ⟨_, he, fun v q => nomatch q⟩
    · rw [z]; exact ⟨ob, ho, fun v q => by rw [hd] at q; cases q⟩
  keep := fun i h h' stt kp => let ⟨⟨old, he⟩, hi, hne⟩ := stt; ⟨⟨old, kp e (by simp) _ he⟩, hi.at fun ob q => kp it (by simp) ob q, hne⟩
  item := by
    intro X hP hw hK hc i pins s σ H E I hf stt hg
    subst hP hw hK
    obtain ⟨⟨old, he⟩, hit, hne, hai, hae⟩ := stt
    obtain ⟨xs, x, hq, hx⟩ := hg
    obtain ⟨its, rv, p, hz⟩ := I.tuple hq
    obtain ⟨u, hu, ru⟩ := rv.get hx
    have he0 : e < s.heap.objs.size := Heap.lt_size he
    have hi0 : it < s.heap.objs.size := by obtain ⟨_, q, _⟩ := hit; exact Heap.lt_size q
    have hin : i < its.toArray.size := by
      have := (List.getElem?_eq_some_iff.mp hu).1
      simpa using this
    have hcc : X.A.in1.handled = none := I.ok.hd hc
    refine wpAny_pyNext_enum_itemD (D := Draws.tuple hcc it a hai its.toArray) he ⟨hit, p⟩ hin hne (by simp [hne, Ne.symm hae]) fun v h' tk hv ho st' hT hsz hk => ?_
    have evu : v = u := by
      have a1 : its.toArray[i]? = some v := hv
      have a2 : its.toArray[i]? = some u := by simpa using hu
      rw [a1] at a2; exact Option.some.inj a2
    subst evu
    refine ⟨_, rfl, wpAny_letOwnedTupleGo_enum (s := { s with heap := h', toks := tk + 1 }) ho fun h2 he2 sb => ?_⟩
    have hT2 : h2.get? s.heap.objs.size = some { cls := .type "tuple", data := .seq #[.int i tk, v] } := (sb.2 _ (Nat.ne_of_gt he0)).trans hT
    have nw : ObjOk X.prog X.w (upd H s.heap.objs.size (.tup [.int (i : Nat), x])) h2 s.heap.objs.size (.tup [.int (i : Nat), x]) :=
      ⟨by show 2 ≤ sizeLine; decide, [.int i tk, v], .cons ⟨_, rfl⟩ (.cons ru .nil), ⟨_, hT2, rfl, _, rfl⟩⟩
    have I1 : L2.Inv X pins σ (upd H s.heap.objs.size (.tup [.int (i : Nat), x])) { s with heap := h2, toks := tk + 1 } :=
      I.turnedNew (ch := [e, it]) (fun b ob hb q => (sb.2 b (fun z => hb (by simp [z]))).trans (hk b ob (fun z => hb (by simp [z])) (fun z => hb (by simp [z])) q)) hf (Nat.le_refl _) nw
    refine ⟨.ref s.heap.objs.size, _, I1, rfl, ⟨_, x, rfl, I.hok.fresh (Nat.le_refl _), rfl, fun ys hy => by rw [I.tuple_inj hy hq]; exact hx⟩,
      ⟨⟨v, ?_⟩, st'.1.at fun ob q => (sb.2 it (Ne.symm hne)).trans q, hne, hai, hae⟩, fun b hb => ?_⟩
    · rw [show ((i + 1 : Nat) : Int) = (i : Int) + 1 by omega]; exact he2
    · have hbl : b < s.heap.objs.size := by
        rcases (show b = e ∨ b = it by simpa using hb) with z | z <;> (rw [z]; assumption)
      rw [upd_ne (Nat.ne_of_lt hbl)]
      exact (hf b hb).1
  done := by
    intro X hP hw hK hc i pins s σ H E I hf stt hg
    subst hP hw hK
    obtain ⟨⟨old, he⟩, hit, hne, hai, hae⟩ := stt
    obtain ⟨xs, hq, hx⟩ := hg
    obtain ⟨its, rv, p, hz⟩ := I.tuple hq
    obtain ⟨f0, f1, f2, f3, f4, f5⟩ := hf it (by simp)
    have hl := rv.length
    have hcc : X.A.in1.handled = none := I.ok.hd hc
    have hend : its.toArray[i]? = none := by simp; omega
    exact en_end hcc he hit p hend fun h' eb => ⟨rfl, I.turned (t' := s.toks) (fun b ob hb q => eb b ob hb q) f0 f1 f3 f4 f5⟩
  self := fun A i s Q E stt h => let ⟨⟨_, he⟩, _⟩ := stt; wpAny_pyIter_enum he h
theorem walk_enT {K : PySem.W.Frag} {a : Addr} {xs : List V} : Walk (IteT K a) xs.length (fun H => SqT K H a xs) (YPair (fun i => some (.int (i : Nat))) (fun i => xs[i]?)) := by
  refine ⟨fun i _ hi q => ⟨xs, xs[i], q, by simp [hi]⟩, fun _ q => ⟨xs, q, Nat.le_refl _⟩, ?_⟩
  rintro i H v H' _ q ⟨T, x, h1, h2, h3, h4⟩
  exact ⟨T, .int (i : Nat), x, h1, h2, h3, rfl, h4 xs q⟩
/-- a list or a tuple, as it turns out -/
theorem pi_enA {X : Cx} {e : Expr} {ta : TA} {p pos tpos : Pos} {elts : List Expr} {kk : Nat} (hg : Gl X "enumerate") (hm : X.mg "enumerate" = none) (ha : PA X [e] ta) (hs : starEach [e] X.env = [(false, eval e X.env)] := by rfl) :
    PI X (.Tuple elts kk tpos) (.Call (.Name "enumerate" p) [e] [] pos) (fun σ H R => ta σ H fun us H1 => ∃ a, us = [.ref a] ∧ ((∃ xs, SqL X.K H1 a xs ∧ R (Ite X.K a) H1) ∨ ∃ xs, SqT X.K H1 a xs ∧ R (IteT X.K a) H1)) := by
  refine ⟨fun pins s σ H R I h => Call_ (ld_blt I hg hm boot_enumerate
    (PyProof.Rows.callWith_type1 (thn (ha.run pos pins s σ H _ I h) fun us s1 hh => ?_) hs rfl))⟩
  obtain ⟨vs, H1, I1, r1, a, rfl, q⟩ := hh
  have apart : ∀ b, b ∈ [s1.heap.objs.size + 1, s1.heap.objs.size] → s1.heap.objs.size ≤ b := fun b hb => by
    rcases (show b = s1.heap.objs.size + 1 ∨ b = s1.heap.objs.size by simpa using hb) with z | z
    · rw [z]; exact Nat.le_add_right _ _
    · rw [z]; exact Nat.le_refl _
  match us, r1 with
  | [u], .cons r .nil =>
    cases r
    rcases q with ⟨xs, hq, q⟩ | ⟨xs, hq, q⟩
    · obtain ⟨its, rv, tp, hz⟩ := I1.list hq
      refine call_enumerate_list tp.isList fun h' he hit hsz hk => wpAny_pyIter_enum he ?_
      have I2 : L2.Inv X pins σ H1 { s1 with heap := h' } := I1.kept (t' := s1.toks) hk
      exact ⟨s1.heap.objs.size + 1, [s1.heap.objs.size + 1, s1.heap.objs.size], _, _, H1, rfl, I2,
        turn_enum a (s1.heap.objs.size + 1) s1.heap.objs.size, ⟨⟨.none, he⟩, hit, Nat.succ_ne_self _⟩, fun b hb => I1.fpOk (apart b hb) (I1.hok.fresh (apart b hb)), q⟩
    · obtain ⟨its, rv, tp, hz⟩ := I1.tuple hq
      refine call_enT tp fun h' he hit hsz hk => wpAny_pyIter_enum he ?_
      have I2 : L2.Inv X pins σ H1 { s1 with heap := h' } := I1.kept (t' := s1.toks) hk
      have al : a < s1.heap.objs.size := by obtain ⟨_, z, _⟩ := tp; exact Heap.lt_size z
      exact ⟨s1.heap.objs.size + 1, [s1.heap.objs.size + 1, s1.heap.objs.size], _, _, H1, rfl, I2,
        turn_enT a (s1.heap.objs.size + 1) s1.heap.objs.size, ⟨⟨.none, he⟩, hit, Nat.succ_ne_self _, Nat.ne_of_lt al, Nat.ne_of_lt (Nat.lt_succ_of_lt al)⟩, fun b hb => I1.fpOk (apart b hb) (I1.hok.fresh (apart b hb)), q⟩
end Ev
end
section
set_option Elab.async false
set_option linter.all false
set_option maxRecDepth 100000
set_option maxHeartbeats 1000000
namespace Ev
open PySem PySem.Spec PyProof.Rows L2

/-- an operand of a walk: a plain value, or an own list by one of the names vs -/
def qV (W : Wd) (vs : List Nat) : Pq := fun Z ρ σ _ H' d v => Rp W Z H' d v ∨ ∃ i, i ∈ vs ∧ ρ[i]? = some (some (true, d)) ∧ σ[i]? = some (some v)
section
variable {X : Cx} {W : Wd} {Wx : WX} {σ : L2.St} {H H' H0 : Hp} {Z Z' Zs : Addr → Prop} {ρ : Env} {st : W.S} {d1 d2 d : D} {v1 v2 v : V} {vars fr : List Nat}
theorem qV.bw {vs : List Nat} (h : qV W vs Z ρ σ H H' d v) : Bw W Z ρ σ H' d v := h.elim .inl fun ⟨i, _, e1, e2⟩ => .inr ⟨i, e1, e2⟩
theorem qV.mono {vs : List Nat} {H1 : Hp} (h : qV W vs Z ρ σ H H' d v) (s : SR W H0 Z ρ σ H') (k : Kp W H' H1) : qV W vs Z ρ σ H H1 d v := h.elim (fun q => .inl (k.rp s.ft q)) .inr
/-- a list that is walked: it stands apart from what stays owned, or is one of the own lists os -/
def Lw (W : Wd) (Zs : Addr → Prop) (os : List (List D × Addr)) (H : Hp) (a : Addr) (l : List D) (xs : List V) : Prop := (¬ Zs a ∧ Rd H a (.lst xs)) ∨ (l, a) ∈ os
theorem qV.lst {vs : List Nat} {l : List D} (h : qV W vs Z ρ σ H H' (.lst l) v) (s : SR W H0 Z ρ σ H') (hv : ∀ i ∈ vs, i ∈ vars) : ∃ a xs os, v = .ref a ∧ Rd H' a (.lst xs) ∧ Rps W Z H' l xs ∧ OsOk vars fr ρ σ os ∧ Lw W (Zout Z ρ σ fr) os H' a l xs := by
  rcases h with h | ⟨i, hi, e1, e2⟩
  · obtain ⟨a, xs, e, p, q⟩ := h
    exact ⟨a, xs, [], e, p.2, q, (fun _ h => nomatch h), .inl ⟨fun z => p.1 z.1, p.2⟩⟩
  · obtain ⟨a, e3, z, nf, xs, q, p⟩ := s.ow i _ e1
    rw [e2] at e3; cases e3
    by_cases c : i ∈ fr
    · exact ⟨a, xs, [], rfl, .inl q, p, (fun _ h => nomatch h), .inl ⟨fun z => z.2 ⟨i, c, ⟨_, e1⟩, e2⟩, .inl q⟩⟩
    · exact ⟨a, xs, [(l, a)], rfl, .inl q, p, fun p hp => by
        rw [List.mem_singleton.mp hp]; exact ⟨i, hv i hi, c, e1, e2⟩, .inr (List.mem_singleton.mpr rfl)⟩
theorem Lw.at_ {os : List (List D × Addr)} {a : Addr} {l : List D} {xs : List V} (h : Lw W Zs os H a l xs) (r : Rps W Z H l xs) (hz : ∀ b, Zs b → Z b) {K : PySem.W.Frag} {Z'' : Addr → Prop} {H'' : Hp} (t : Stp Zs H Z'' H'') (o : OSt W os Z'' H'') : ∃ ys, SqL K H'' a ys ∧ Rps W Z'' H'' l ys := by
  rcases h with ⟨nz, h⟩ | h
  · exact ⟨xs, .inl (rd_map h fun o e => t.keep a _ nz e), t.rps (rps_anti hz r)⟩
  · obtain ⟨vs, q, p⟩ := o _ h
    exact ⟨vs, .inl (.inl q), p⟩
theorem Lw.more {os os' : List (List D × Addr)} {a : Addr} {l : List D} {xs : List V} (h : Lw W Zs os H a l xs) (s : ∀ p ∈ os, p ∈ os') : Lw W Zs os' H a l xs := h.elim .inl fun q => .inr (s _ q)
theorem OsOk.app {os os' : List (List D × Addr)} (h : OsOk vars fr ρ σ os) (h' : OsOk vars fr ρ σ os') : OsOk vars fr ρ σ (os ++ os') := fun p hp => (List.mem_append.mp hp).elim (h p) (h' p)
theorem zout_sub : ∀ b, Zout Z ρ σ fr b → Z b := fun _ z => z.1
theorem wE_list {K : PySem.W.Frag} {a : Addr} {n : Nat} : Walk (Itl K a) n (fun H => ∃ ys : List V, SqL K H a ys ∧ ys.length = n) (fun i H x H' => H' = H ∧ ∀ ys, SqL K H a ys → ys[i]? = some x) where
  goes := fun i H hi ⟨ys, q, e⟩ => ⟨ys, ys[i]'(by omega), q, by simp [show i < ys.length by omega]⟩
  stops := fun H ⟨ys, q, e⟩ => ⟨ys, q, by omega⟩
  yields := fun i H x H' hi g y => y
theorem wE_rev {K : PySem.W.Frag} {a : Addr} {n : Nat} : Walk (Itv K a n) n (fun H => ∃ ys : List V, SqL K H a ys ∧ ys.length = n) (fun i H x H' => H' = H ∧ ∀ ys, SqL K H a ys → ys[n - 1 - i]? = some x) where
  goes := fun i H hi ⟨ys, q, e⟩ => ⟨hi, ys, ys[n - 1 - i]'(by omega), q, by simp [show n - 1 - i < ys.length by omega]⟩
  stops := fun H _ => Nat.le_refl _
  yields := fun i H x H' hi g y => y
theorem wE_enum {K : PySem.W.Frag} {a : Addr} {n : Nat} : Walk (Ite K a) n (fun H => ∃ ys : List V, SqL K H a ys ∧ ys.length = n) (fun i H v H' => ∃ T x, v = .ref T ∧ H T = none ∧ H' = upd H T (.tup [.int (i : Nat), x]) ∧ ∀ ys, SqL K H a ys → ys[i]? = some x) where
  goes := fun i H hi ⟨ys, q, e⟩ => ⟨ys, ys[i]'(by omega), q, by simp [show i < ys.length by omega]⟩
  stops := fun H ⟨ys, q, e⟩ => ⟨ys, q, by omega⟩
  yields := fun i H x H' hi g y => y
theorem wE_zip {K : PySem.W.Frag} {a b : Addr} {m n : Nat} : Walk (Itz K a b) (min m n) (fun H => (∃ ys : List V, SqL K H a ys ∧ ys.length = m) ∧ ∃ ys : List V, SqL K H b ys ∧ ys.length = n)
    (fun i H v H' => ∃ T x y, v = .ref T ∧ H T = none ∧ H' = upd H T (.tup [x, y]) ∧ (∀ xs, SqL K H a xs → xs[i]? = some x) ∧ ∀ ys, SqL K H b ys → ys[i]? = some y) where
  goes := fun i H hi ⟨⟨ys, q, e⟩, zs, q2, e2⟩ => ⟨ys, zs, ys[i]'(by omega), zs[i]'(by omega), q, q2, by simp [show i < ys.length by omega], by simp [show i < zs.length by omega]⟩
  stops := fun H ⟨⟨ys, q, e⟩, zs, q2, e2⟩ => ⟨ys, zs, q, q2, by omega⟩
  yields := fun i H x H' hi g y => y
theorem qV.tup {vs : List Nat} {l : List D} (h : qV W vs Z ρ σ H H' (.tup l) v) (s : SR W H0 Z ρ σ H') : ∃ a xs, v = .ref a ∧ TpAt W H' a xs ∧ Rps W Z H' l xs := h.bw.tup s
theorem TpAt.stp {a : Addr} {xs : List V} {Z'' : Addr → Prop} {H'' : Hp} (t : TpAt W H a xs) (s : Stp Zs H Z'' H'') : TpAt W H'' a xs := t.elim (fun q => .inl (s.tups _ _ q)) .inr
theorem it_list (hK : X.K = W.K) {os : List (List D × Addr)} {a : Addr} {xs : List V} {l : List D} (h : Lw W Zs os H a l xs) (r : Rps W Z H l xs) (hz : ∀ b, Zs b → Z b) : ItOk W Zs os (Itl X.K a) H l :=
  ⟨l.length, _, _, fun Z'' H'' => ∃ ys, SqL X.K H'' a ys ∧ Rps W Z'' H'' l ys, wE_list, rfl, fun Z'' H'' t o => h.at_ r hz t o, fun Z'' H'' ⟨ys, q, p⟩ => ⟨ys, q, Rps.length p⟩, fun i x Z'' H1 H2 hi hy hf ⟨ys, q, p⟩ => by
      obtain ⟨rfl, hx⟩ := hy
      obtain ⟨d, hd, p⟩ := p.getV (hx ys q)
      exact ⟨.inl rfl, d, hd, p⟩⟩
theorem it_tup (hK : X.K = W.K) {os : List (List D × Addr)} {a : Addr} {xs : List V} {l : List D} (h : TpAt W H a xs) (r : Rps W Z H l xs) (hz : ∀ b, Zs b → Z b) : ItOk W Zs os (Itt X.K a) H l :=
  ⟨xs.length, _, _, fun Z'' H'' => SqT X.K H'' a xs ∧ Rps W Z'' H'' l xs, walk_tup, Rps.length r, fun Z'' H'' t o => ⟨hK ▸ (h.stp t).seq, t.rps (rps_anti hz r)⟩, fun Z'' H'' q => q.1, fun i x Z'' H1 H2 hi hy hf ⟨q, p⟩ => by
      obtain ⟨rfl, hx⟩ := hy
      obtain ⟨d, hd, p⟩ := p.getV hx
      exact ⟨.inl rfl, d, hd, p⟩⟩
theorem it_rng {os : List (List D × Addr)} {lo : Int} {n : Nat} : ItOk W Zs os (Itr lo n) H ((List.range n).map fun (k : Nat) => D.int (lo + k)) :=
  ⟨n, fun _ => True, YFn fun i => .int (lo + i), fun _ _ => True, walk_range, by simp, fun _ _ _ _ => trivial, fun _ _ _ => trivial, fun i x Z'' H1 H2 hi hy hf _ => by
    obtain ⟨rfl, rfl⟩ := hy
    exact ⟨.inl rfl, D.int (lo + (i : Nat)), by rw [List.getElem?_map, List.getElem?_range hi]; rfl, rfl⟩⟩
theorem it_rngC {os : List (List D × Addr)} {lo c : Int} {n : Nat} : ItOk W Zs os (Itc lo c n) H ((List.range n).map fun (k : Nat) => D.int (lo + (k : Int) * c)) :=
  ⟨n, fun _ => True, YFn fun i => .int (lo + (i : Nat) * c), fun _ _ => True, walk_rangeC, by simp, fun _ _ _ _ => trivial, fun _ _ _ => trivial, fun i x Z'' H1 H2 hi hy hf _ => by
    obtain ⟨rfl, rfl⟩ := hy
    exact ⟨.inl rfl, D.int (lo + ((i : Nat) : Int) * c), by rw [List.getElem?_map, List.getElem?_range hi]; rfl, rfl⟩⟩
theorem getV_rev {l : List D} {xs : List V} {x : V} {i : Nat} (r : Rps W Z H l xs) (hi : i < xs.length) (hx : xs[xs.length - 1 - i]? = some x) : ∃ d, l.reverse[i]? = some d ∧ Rp W Z H d x := by
  obtain ⟨d, hd, p⟩ := r.getV hx
  refine ⟨d, ?_, p⟩
  rw [Rps.length r] at hd hi
  rw [List.getElem?_reverse hi]
  exact hd
theorem it_revL (hK : X.K = W.K) {os : List (List D × Addr)} {a : Addr} {xs : List V} {l : List D} (h : Lw W Zs os H a l xs) (r : Rps W Z H l xs) (hz : ∀ b, Zs b → Z b) : ItOk W Zs os (Itv X.K a xs.length) H l.reverse :=
  ⟨xs.length, _, _, fun Z'' H'' => ∃ ys, SqL X.K H'' a ys ∧ Rps W Z'' H'' l ys, wE_rev, by rw [List.length_reverse, Rps.length r], fun Z'' H'' t o => h.at_ r hz t o, fun Z'' H'' ⟨ys, q, p⟩ => ⟨ys, q, (Rps.length p).trans (Rps.length r).symm⟩, fun i x Z'' H1 H2 hi hy hf ⟨ys, q, p⟩ => by
      obtain ⟨rfl, hx⟩ := hy
      have e : ys.length = xs.length := (Rps.length p).trans (Rps.length r).symm
      obtain ⟨d, hd, p⟩ := getV_rev p (i := i) (x := x) (by omega) (by rw [e]; exact hx ys q)
      exact ⟨.inl rfl, d, hd, p⟩⟩
theorem walk_revT {K : PySem.W.Frag} {a : Addr} {xs : List V} : Walk (RT.ItvT K a xs.length) xs.length (fun H => SqT K H a xs) (fun i H x H' => H' = H ∧ xs[xs.length - 1 - i]? = some x) where
  goes := fun i H hi g => ⟨hi, xs, xs[xs.length - 1 - i]'(by omega), g, List.getElem?_eq_some_iff.mpr ⟨by omega, rfl⟩⟩
  stops := fun H g => Nat.le_refl _
  yields := fun i H x H' hi g y => ⟨y.1, y.2 xs g⟩
theorem it_revT (hK : X.K = W.K) {os : List (List D × Addr)} {a : Addr} {xs : List V} {l : List D} (h : TpAt W H a xs) (r : Rps W Z H l xs) (hz : ∀ b, Zs b → Z b) : ItOk W Zs os (RT.ItvT X.K a xs.length) H l.reverse :=
  ⟨xs.length, _, _, fun Z'' H'' => SqT X.K H'' a xs ∧ Rps W Z'' H'' l xs, walk_revT, by rw [List.length_reverse, Rps.length r], fun Z'' H'' t o => ⟨hK ▸ (h.stp t).seq, t.rps (rps_anti hz r)⟩, fun Z'' H'' q => q.1, fun i x Z'' H1 H2 hi hy hf ⟨q, p⟩ => by
      obtain ⟨rfl, hx⟩ := hy
      obtain ⟨d, hd, p⟩ := getV_rev p hi hx
      exact ⟨.inl rfl, d, hd, p⟩⟩
/-- a new pair's items -/
theorem rp_pair {T : Addr} {H1 : Hp} {x y : V} {Z'' : Addr → Prop} (hf : ∀ b, W.foot b → Z'' b) (hT : H1 T = none) (p : Rp W Z'' H1 d1 x) (q : Rp W Z'' H1 d2 y) : Rp W Z'' (upd H1 T (.tup [x, y])) (.tup [d1, d2]) (.ref T) :=
  ⟨T, [x, y], rfl, .inl upd_same, x, [y], rfl, (Kp.new (W := W) hT).rp hf p, y, [], rfl, (Kp.new (W := W) hT).rp hf q, rfl⟩
theorem it_enumL (hK : X.K = W.K) {os : List (List D × Addr)} {a : Addr} {xs : List V} {l : List D} (h : Lw W Zs os H a l xs) (r : Rps W Z H l xs) (hz : ∀ b, Zs b → Z b) : ItOk W Zs os (Ite X.K a) H (l.mapIdx fun k d => D.tup [.int (k : Int), d]) :=
  ⟨l.length, _, _, fun Z'' H'' => ∃ ys, SqL X.K H'' a ys ∧ Rps W Z'' H'' l ys, wE_enum, by rw [List.length_mapIdx], fun Z'' H'' t o => h.at_ r hz t o, fun Z'' H'' ⟨ys, q, p⟩ => ⟨ys, q, Rps.length p⟩, fun i x Z'' H1 H2 hi hy hf ⟨ys, q, p⟩ => by
      obtain ⟨T, x', rfl, hT, rfl, hx⟩ := hy
      obtain ⟨d, hd, p⟩ := p.getV (hx ys q)
      exact ⟨.inr ⟨T, _, hT, rfl⟩, D.tup [.int (i : Int), d], by rw [List.getElem?_mapIdx, hd]; rfl, rp_pair hf hT rfl p⟩⟩
theorem it_enT (hK : X.K = W.K) {os : List (List D × Addr)} {a : Addr} {xs : List V} {l : List D} (h : TpAt W H a xs) (r : Rps W Z H l xs) (hz : ∀ b, Zs b → Z b) : ItOk W Zs os (IteT X.K a) H (l.mapIdx fun k d => D.tup [.int (k : Int), d]) :=
  ⟨xs.length, _, _, fun Z'' H'' => SqT X.K H'' a xs ∧ Rps W Z'' H'' l xs, walk_enT, by rw [List.length_mapIdx, Rps.length r], fun Z'' H'' t o => ⟨hK ▸ (h.stp t).seq, t.rps (rps_anti hz r)⟩, fun Z'' H'' q => q.1, fun i x Z'' H1 H2 hi hy hf ⟨q, p⟩ => by
      obtain ⟨T, x', y', rfl, hT, rfl, hx, hy⟩ := hy
      cases hx
      obtain ⟨d, hd, p⟩ := p.getV hy
      exact ⟨.inr ⟨T, _, hT, rfl⟩, D.tup [.int (i : Int), d], by rw [List.getElem?_mapIdx, hd]; rfl, rp_pair hf hT rfl p⟩⟩
theorem zip_get {l m : List D} {i : Nat} (h1 : l[i]? = some d1) (h2 : m[i]? = some d2) : ((l.zip m).map fun p => D.tup [p.1, p.2])[i]? = some (.tup [d1, d2]) := by
  rw [List.getElem?_map, (List.getElem?_zip_eq_some (z := (d1, d2))).mpr ⟨h1, h2⟩]; rfl
theorem it_zipL (hK : X.K = W.K) {os : List (List D × Addr)} {a b : Addr} {xs ys : List V} {l m : List D} (h : Lw W Zs os H a l xs) (h2 : Lw W Zs os H b m ys) (r : Rps W Z H l xs) (r2 : Rps W Z H m ys) (hz : ∀ b, Zs b → Z b) : ItOk W Zs os (Itz X.K a b) H ((l.zip m).map fun p => D.tup [p.1, p.2]) :=
  ⟨min l.length m.length, _, _, fun Z'' H'' => (∃ ys, SqL X.K H'' a ys ∧ Rps W Z'' H'' l ys) ∧ ∃ ys, SqL X.K H'' b ys ∧ Rps W Z'' H'' m ys, wE_zip, by rw [List.length_map, List.length_zip], fun Z'' H'' t o => ⟨h.at_ r hz t o, h2.at_ r2 hz t o⟩,
    fun Z'' H'' ⟨⟨ys, q, p⟩, zs, q2, p2⟩ => ⟨⟨ys, q, Rps.length p⟩, zs, q2, Rps.length p2⟩, fun i x Z'' H1 H2 hi hy hf ⟨⟨ys, q, p⟩, zs, q2, p2⟩ => by
      obtain ⟨T, x', y', rfl, hT, rfl, hx, hy⟩ := hy
      obtain ⟨d, hd, p⟩ := p.getV (hx ys q)
      obtain ⟨e, he, p2⟩ := p2.getV (hy zs q2)
      exact ⟨.inr ⟨T, _, hT, rfl⟩, _, zip_get hd he, rp_pair hf hT p p2⟩⟩
theorem walk_zipT {K : PySem.W.Frag} {a b : Addr} {xs ys : List V} : Walk (RZ.ItzT K a b) (min xs.length ys.length) (fun H => SqT K H a xs ∧ SqT K H b ys) (YPair (fun i => xs[i]?) (fun i => ys[i]?)) where
  goes := fun i H hi g => ⟨xs, ys, xs[i]'(by omega), ys[i]'(by omega), g.1, g.2, List.getElem?_eq_some_iff.mpr ⟨by omega, rfl⟩, List.getElem?_eq_some_iff.mpr ⟨by omega, rfl⟩⟩
  stops := fun H g => ⟨xs, ys, g.1, g.2, by omega⟩
  yields := fun i H v H' hi g y => by
    obtain ⟨T, x, y', e, hT, hH, h1, h2⟩ := y
    exact ⟨T, x, y', e, hT, hH, h1 xs g.1, h2 ys g.2⟩
theorem it_zipT (hK : X.K = W.K) {os : List (List D × Addr)} {a b : Addr} {xs ys : List V} {l m : List D} (h : TpAt W H a xs) (h2 : TpAt W H b ys) (r : Rps W Z H l xs) (r2 : Rps W Z H m ys) (hz : ∀ b, Zs b → Z b) : ItOk W Zs os (RZ.ItzT X.K a b) H ((l.zip m).map fun p => D.tup [p.1, p.2]) :=
  ⟨min xs.length ys.length, _, _, fun Z'' H'' => (SqT X.K H'' a xs ∧ SqT X.K H'' b ys) ∧ Rps W Z'' H'' l xs ∧ Rps W Z'' H'' m ys, walk_zipT, by rw [List.length_map, List.length_zip, Rps.length r, Rps.length r2], fun Z'' H'' t o => ⟨⟨hK ▸ (h.stp t).seq, hK ▸ (h2.stp t).seq⟩, t.rps (rps_anti hz r), t.rps (rps_anti hz r2)⟩, fun Z'' H'' q => q.1, fun i x Z'' H1 H2 hi hy hf ⟨_, q, q2⟩ => by
      obtain ⟨T, x', y', rfl, hT, rfl, hx, hy⟩ := hy
      obtain ⟨d, hd, p⟩ := q.getV hx
      obtain ⟨e, he, p2⟩ := q2.getV hy
      exact ⟨.inr ⟨T, _, hT, rfl⟩, _, zip_get hd he, rp_pair hf hT p p2⟩⟩

/-! ### the sources -/
theorem src_seq (hK : X.K = W.K) {vs : List Nat} (hv : ∀ i ∈ vs, i ∈ vars) {f : Env → W.S → R W.S D} {Rr : It → Hp → Prop} (h : tSrc W Wx vars fr (fun ρ s => (f ρ s).bind fun x s1 => R.lift (seqD x) s1) σ H Rr) :
    iList X.K (tEv W Wx (qV W vs) f) σ H Rr ∨ iTup X.K (tEv W Wx (qV W vs) f) σ H Rr := by
  obtain ⟨H0, Z, ρ, st, s, a, g⟩ := h
  have g1 := go_bind g
  have key : ∀ d st1, (∀ H1, Kp W H H1 → Go W Wx σ H1 (R.lift (seqD d) st1) fun items st' => ∀ J H' os, OsOk vars fr ρ σ os → W.At H' st' → Kp W H H' → ItOk W (Zout Z ρ σ fr) os J H' items → Rr J H') →
      (∃ l, d = .lst l ∧ ∀ H1, Kp W H H1 → ∀ J H' os, OsOk vars fr ρ σ os → W.At H' st1 → Kp W H H' → ItOk W (Zout Z ρ σ fr) os J H' l → Rr J H') ∨ (∃ l, d = .tup l ∧ ∀ H1, Kp W H H1 → ∀ J H' os, OsOk vars fr ρ σ os → W.At H' st1 → Kp W H H' → ItOk W (Zout Z ρ σ fr) os J H' l → Rr J H') := by
    intro d st1 k
    obtain ⟨l, e, _⟩ := go_lift (k H (.refl W H))
    cases d with
    | lst l' =>
      refine .inl ⟨l', rfl, fun H1 k1 => ?_⟩
      obtain ⟨l2, e2, k2⟩ := go_lift (k H1 k1)
      cases e2; exact k2
    | tup l' =>
      refine .inr ⟨l', rfl, fun H1 k1 => ?_⟩
      obtain ⟨l2, e2, k2⟩ := go_lift (k H1 k1)
      cases e2; exact k2
    | _ => cases e
  cases hr : f ρ st with
  | bad => rw [hr] at g1; exact g1.elim
  | ex e s1 => exact .inl ⟨H0, Z, ρ, st, s, a, by rw [hr] at g1 ⊢; exact g1⟩
  | ok d st1 =>
    rw [hr] at g1
    rcases key d st1 g1 with ⟨l, rfl, k⟩ | ⟨l, rfl, k⟩
    · refine .inl ⟨H0, Z, ρ, st, s, a, go_ok hr fun H1 v a1 kp b => ?_⟩
      obtain ⟨p, xs, os, rfl, t, r, ho, nz⟩ := b.lst (fr := fr) (s.mono kp) hv
      exact ⟨p, rfl, ⟨xs, .inl t⟩, k H1 kp _ H1 os ho a1 kp (it_list hK nz r zout_sub)⟩
    · refine .inr ⟨H0, Z, ρ, st, s, a, go_ok hr fun H1 v a1 kp b => ?_⟩
      obtain ⟨p, xs, rfl, t, r⟩ := b.tup (s.mono kp)
      exact ⟨p, rfl, ⟨xs, hK ▸ t.seq⟩, k H1 kp _ H1 [] (fun _ h => nomatch h) a1 kp (it_tup hK t r zout_sub)⟩
theorem asInt_go {α : Type} {d : D} {f : Int → R W.S α} {Kk : α → W.S → Prop} (h : Go W Wx σ H (asInt d f) Kk) : ∃ i, d = .int i ∧ Go W Wx σ H (f i) Kk := by
  cases d with
  | int i => exact ⟨i, rfl, h⟩
  | _ => exact h.elim
theorem rngOk_of {i : Int} (h : rngOk i = true) : -(2 ^ 62) ≤ i ∧ i < 2 ^ 62 := of_decide_eq_true h
theorem rngD_of {lo hi : Int} {l : List D} (h : rngD lo hi = some l) : (-(2 ^ 62) ≤ lo ∧ lo < 2 ^ 62) ∧ (-(2 ^ 62) ≤ hi ∧ hi < 2 ^ 62) ∧ l = (List.range (hi - lo).toNat).map fun (k : Nat) => D.int (lo + k) := by
  unfold rngD at h
  split at h
  · rename_i c
    rw [Bool.and_eq_true] at c
    cases h
    exact ⟨rngOk_of c.1, rngOk_of c.2, rfl⟩
  · cases h
theorem src_rng1 {f : Env → W.S → R W.S D} {Rr : It → Hp → Prop} (h : tSrc W Wx vars fr (fun ρ s => (f ρ s).bind fun x s1 => asInt x fun i => R.lift (rngD 0 i) s1) σ H Rr) :
    iRng1 (tCons (tEv W Wx (qB W) f) tNil) σ H Rr := by
  obtain ⟨H0, Z, ρ, st, s, a, g⟩ := h
  refine ⟨H0, Z, ρ, st, s, a, (go_bind g).imp fun d st1 k1 H1 v a1 kp b => ?_⟩
  obtain ⟨i, rfl, g2⟩ := asInt_go (k1 H1 kp)
  obtain ⟨l, e, k⟩ := go_lift g2
  obtain ⟨_, h2, rfl⟩ := rngD_of e
  have hv := b.int (s.mono kp)
  subst hv
  refine ⟨i, rfl, h2.1, h2.2, k _ H1 [] (fun _ h => nomatch h) a1 kp ?_⟩
  have e0 : (i - 0).toNat = i.toNat := by rw [Int.sub_zero]
  rw [e0]
  exact it_rng
theorem src_rng2 {f1 f2 : Env → W.S → R W.S D} {Rr : It → Hp → Prop} (h : tSrc W Wx vars fr (fun ρ s => (f1 ρ s).bind fun x s1 => (f2 ρ s1).bind fun y s2 => asInt x fun i => asInt y fun j => R.lift (rngD i j) s2) σ H Rr) :
    iRng2 (tCons (tEv W Wx (qB W) f1) (tCons (tEv W Wx (qB W) f2) tNil)) σ H Rr := by
  obtain ⟨H0, Z, ρ, st, s, a, g⟩ := h
  refine ⟨H0, Z, ρ, st, s, a, (go_bind g).imp fun d1 st1 k1 H1 v1 a1 kp1 b1 => ?_⟩
  refine ⟨H0, Z, ρ, st1, s.mono kp1, a1, (go_bind (k1 H1 kp1)).imp fun d2 st2 k2 H2 v2 a2 kp2 b2 => ?_⟩
  have kp := kp1.trans kp2
  obtain ⟨i, rfl, g2⟩ := asInt_go (k2 H2 kp2)
  obtain ⟨j, rfl, g3⟩ := asInt_go g2
  obtain ⟨l, e, k⟩ := go_lift g3
  obtain ⟨h1, h2, rfl⟩ := rngD_of e
  have hv := b1.int (s.mono kp1)
  have hu := b2.int (s.mono kp)
  subst hv; subst hu
  exact ⟨i, j, rfl, ⟨h1.1, h1.2, h2.1, h2.2⟩, k _ H2 [] (fun _ h => nomatch h) a2 kp it_rng⟩
theorem rngrev (lo : Int) (n : Nat) : ((List.range n).map fun (k : Nat) => D.int (lo + k)).reverse = (List.range n).map fun (k : Nat) => D.int ((lo + n - 1) + (k : Int) * (-1)) := by
  apply List.ext_getElem
  · simp
  · intro i h1 h2
    have hn : i < n := by simpa using h2
    rw [List.getElem_reverse, List.getElem_map, List.getElem_map, List.getElem_range, List.getElem_range]
    congr 1
    simp only [List.length_map, List.length_range]
    omega
theorem src_rrng1 {f : Env → W.S → R W.S D} {Rr : It → Hp → Prop} (h : tSrc W Wx vars fr (fun ρ s => (f ρ s).bind fun x s1 => asInt x fun i => R.lift ((rngD 0 i).map List.reverse) s1) σ H Rr) :
    iRevR (tRg1 (tEv W Wx (qB W) f)) σ H Rr := by
  obtain ⟨H0, Z, ρ, st, s, a, g⟩ := h
  refine ⟨H0, Z, ρ, st, s, a, (go_bind g).imp fun d st1 k1 H1 v a1 kp b => ?_⟩
  obtain ⟨i, rfl, g2⟩ := asInt_go (k1 H1 kp)
  obtain ⟨l, e, k⟩ := go_lift g2
  cases e1 : rngD 0 i with
  | none => rw [e1] at e; cases e
  | some l' =>
    rw [e1] at e
    cases e
    obtain ⟨h1, h2, rfl⟩ := rngD_of e1
    have hv := b.int (s.mono kp)
    subst hv
    refine ⟨i, rfl, h1.1, h1.2, h2.1, h2.2, k _ H1 [] (fun _ h => nomatch h) a1 kp ?_⟩
    rw [rngrev]
    exact it_rngC
theorem src_rrng2 {f1 f2 : Env → W.S → R W.S D} {Rr : It → Hp → Prop} (h : tSrc W Wx vars fr (fun ρ s => (f1 ρ s).bind fun x s1 => (f2 ρ s1).bind fun y s2 => asInt x fun i => asInt y fun j => R.lift ((rngD i j).map List.reverse) s2) σ H Rr) :
    iRevR (tRg2 (tEv W Wx (qB W) f1) (tEv W Wx (qB W) f2)) σ H Rr := by
  obtain ⟨H0, Z, ρ, st, s, a, g⟩ := h
  refine ⟨H0, Z, ρ, st, s, a, (go_bind g).imp fun d1 st1 k1 H1 v1 a1 kp1 b1 => ?_⟩
  refine ⟨H0, Z, ρ, st1, s.mono kp1, a1, (go_bind (k1 H1 kp1)).imp fun d2 st2 k2 H2 v2 a2 kp2 b2 => ?_⟩
  have kp := kp1.trans kp2
  obtain ⟨i, rfl, g2⟩ := asInt_go (k2 H2 kp2)
  obtain ⟨j, rfl, g3⟩ := asInt_go g2
  obtain ⟨l, e, k⟩ := go_lift g3
  cases e1 : rngD i j with
  | none => rw [e1] at e; cases e
  | some l' =>
    rw [e1] at e
    cases e
    obtain ⟨h1, h2, rfl⟩ := rngD_of e1
    have hv := b1.int (s.mono kp1)
    have hu := b2.int (s.mono kp)
    subst hv; subst hu
    refine ⟨i, j, rfl, rfl, h1.1, h1.2, h2.1, h2.2, k _ H2 [] (fun _ h => nomatch h) a2 kp ?_⟩
    rw [rngrev]
    exact it_rngC
theorem src_enumD (hK : X.K = W.K) {vs : List Nat} (hv : ∀ i ∈ vs, i ∈ vars) {f : Env → W.S → R W.S D} {Rr : It → Hp → Prop} (h : tSrc W Wx vars fr (fun ρ s => (f ρ s).bind fun x s1 => R.lift (enumD x) s1) σ H Rr) :
    (fun σ H Rr => tCons (tEv W Wx (qV W vs) f) tNil σ H fun us H1 => ∃ a, us = [.ref a] ∧ ((∃ xs, SqL X.K H1 a xs ∧ Rr (Ite X.K a) H1) ∨ ∃ xs, SqT X.K H1 a xs ∧ Rr (IteT X.K a) H1)) σ H Rr := by
  obtain ⟨H0, Z, ρ, st, s, a, g⟩ := h
  refine ⟨H0, Z, ρ, st, s, a, (go_bind g).imp fun d st1 k1 H1 v a1 kp b => ?_⟩
  obtain ⟨l, e, k⟩ := go_lift (k1 H1 kp)
  cases d with
  | lst l' =>
    cases e
    obtain ⟨p, xs, os, rfl, t, r, ho, nz⟩ := b.lst (fr := fr) (s.mono kp) hv
    exact ⟨p, rfl, .inl ⟨xs, .inl t, k _ H1 os ho a1 kp (it_enumL hK nz r zout_sub)⟩⟩
  | tup l' =>
    cases e
    obtain ⟨p, xs, rfl, t, r⟩ := b.tup (s.mono kp)
    exact ⟨p, rfl, .inr ⟨xs, hK ▸ t.seq, k _ H1 [] (fun _ h => nomatch h) a1 kp (it_enT hK t r zout_sub)⟩⟩
  | _ => cases e
theorem src_zip (hK : X.K = W.K) {vs us : List Nat} (hv : ∀ i ∈ vs, i ∈ vars) (hu : ∀ i ∈ us, i ∈ vars) {f1 f2 : Env → W.S → R W.S D} {Rr : It → Hp → Prop} (h : tSrc W Wx vars fr (fun ρ s => (f1 ρ s).bind fun x s1 => (f2 ρ s1).bind fun y s2 => R.lift (zipD x y) s2) σ H Rr) :
    RZ.iZipA X.K (tCons (tEv W Wx (qV W vs) f1) (tCons (tEv W Wx (qV W us) f2) tNil)) σ H Rr := by
  obtain ⟨H0, Z, ρ, st, s, a, g⟩ := h
  refine ⟨H0, Z, ρ, st, s, a, (go_bind g).imp fun d1 st1 k1 H1 v1 a1 kp1 b1 => ?_⟩
  refine ⟨H0, Z, ρ, st1, s.mono kp1, a1, (go_bind (k1 H1 kp1)).imp fun d2 st2 k2 H2 v2 a2 kp2 b2 => ?_⟩
  have kp := kp1.trans kp2
  have s2 := s.mono kp
  obtain ⟨l, e, k⟩ := go_lift (k2 H2 kp2)
  have b1' := b1.mono (s.mono kp1) kp2
  cases d1 with
  | lst l1 =>
    cases d2 with
    | lst l2 =>
      cases e
      obtain ⟨p, xs, os1, rfl, t, r, ho1, nz⟩ := b1'.lst (fr := fr) s2 hv
      obtain ⟨q, ys, os2, rfl, t2, r2, ho2, nz2⟩ := b2.lst (fr := fr) s2 hu
      exact ⟨p, q, xs, ys, rfl, .inl ⟨.inl t, .inl t2, k _ H2 (os1 ++ os2) (ho1.app ho2) a2 kp (it_zipL hK (nz.more fun p hp => List.mem_append_left _ hp) (nz2.more fun p hp => List.mem_append_right _ hp) r r2 zout_sub)⟩⟩
    | _ => cases e
  | tup l1 =>
    cases d2 with
    | tup l2 =>
      cases e
      obtain ⟨p, xs, rfl, t, r⟩ := b1'.tup s2
      obtain ⟨q, ys, rfl, t2, r2⟩ := b2.tup s2
      exact ⟨p, q, xs, ys, rfl, .inr ⟨hK ▸ t.seq, hK ▸ t2.seq, k _ H2 [] (fun _ h => nomatch h) a2 kp (it_zipT hK t t2 r r2 zout_sub)⟩⟩
    | _ => cases e
  | _ => cases e
theorem src_rev (hK : X.K = W.K) {vs : List Nat} (hv : ∀ i ∈ vs, i ∈ vars) {f : Env → W.S → R W.S D} {Rr : It → Hp → Prop} (h : tSrc W Wx vars fr (fun ρ s => (f ρ s).bind fun x s1 => R.lift ((seqD x).map List.reverse) s1) σ H Rr) :
    RT.iRevA X.K (tEv W Wx (qV W vs) f) σ H Rr := by
  obtain ⟨H0, Z, ρ, st, s, a, g⟩ := h
  refine ⟨H0, Z, ρ, st, s, a, (go_bind g).imp fun d st1 k1 H1 v a1 kp b => ?_⟩
  obtain ⟨l, e, k⟩ := go_lift (k1 H1 kp)
  cases d with
  | lst l' =>
    cases e
    obtain ⟨p, xs, os, rfl, t, r, ho, nz⟩ := b.lst (fr := fr) (s.mono kp) hv
    exact ⟨p, xs, rfl, .inl ⟨.inl t, k _ H1 os ho a1 kp (it_revL hK nz r zout_sub)⟩⟩
  | tup l' =>
    cases e
    obtain ⟨p, xs, rfl, t, r⟩ := b.tup (s.mono kp)
    exact ⟨p, xs, rfl, .inr ⟨hK ▸ t.seq, k _ H1 [] (fun _ h => nomatch h) a1 kp (it_revT hK t r zout_sub)⟩⟩
  | _ => cases e
end
end Ev
end
section
set_option Elab.async false
set_option linter.all false
set_option maxRecDepth 100000
set_option maxHeartbeats 1000000
namespace Ev
open PySem PySem.Spec PyProof.Rows L2

/-- what becomes of a statement's run r; an error is wished at any slots -/
def GoS {α : Type} (W : Wd) (Wx : WX) (n : Nat) (H0 : Hp) (r : R W.S α) (Kk : α → W.S → Prop) : Prop := match r with
  | .ok a st => Kk a st
  | .ex e st => ∀ (σ' : L2.St) H' dx C, σ'.length = n → W.At H' st → Kp W H0 H' → ExAt W H' e dx C → Wx (.ref C) (some dx) σ' H'
  | .bad => False
/-- all slots but those of wr stand -/
def Fz (wr : List Nat) (σ σ' : L2.St) : Prop := ∀ i, i ∉ wr → σ'[i]? = σ[i]?
theorem Fz.refl (wr : List Nat) (σ : L2.St) : Fz wr σ σ := fun _ _ => rfl
theorem Fz.trans {wr : List Nat} {σ σ' σ'' : L2.St} (h : Fz wr σ σ') (h' : Fz wr σ' σ'') : Fz wr σ σ'' := fun i hi => (h' i hi).trans (h i hi)
theorem Fz.mono {wr wr' : List Nat} {σ σ' : L2.St} (h : Fz wr σ σ') (s : ∀ i ∈ wr, i ∈ wr') : Fz wr' σ σ' := fun i hi => h i fun q => hi (s i q)
theorem Fz.set {wr : List Nat} {σ : L2.St} {i : Nat} (v : Option V) (hi : i ∈ wr) : Fz wr σ (σ.set i v) := fun j hj => by
  rw [List.getElem?_set, if_neg (fun (e : i = j) => hj (e ▸ hi))]
theorem wipe_get (σ : L2.St) : ∀ (vs : List Nat) (j : Nat), j ∉ vs → (L2.wipe σ vs)[j]? = σ[j]?
  | [], _, _ => rfl
  | v :: vs, j, h => by
    show ((L2.wipe σ vs).set v none)[j]? = _
    rw [List.getElem?_set, if_neg (fun (e : v = j) => h (e ▸ List.mem_cons_self)), wipe_get σ vs j fun q => h (List.mem_cons_of_mem _ q)]
theorem Fz.tg {wr ids : List Nat} {σ σ' : L2.St} (h : ∀ vs, (∀ i ∈ ids, i ∈ vs) → L2.wipe σ' vs = L2.wipe σ vs) (s : ∀ i ∈ ids, i ∈ wr) : Fz wr σ σ' := fun j hj => by
  have n : j ∉ ids := fun q => hj (s j q)
  rw [← wipe_get σ' ids j n, h ids fun _ q => q, wipe_get σ ids j n]
/-- what is wanted behind a statement that began at H, with Z owned -/
def FlK (W : Wd) (H0 : Hp) (Z : Addr → Prop) (σ : L2.St) (H : Hp) (wr : List Nat) (De : Ends) : Fl → W.S → Prop
  | .nx ρ', st' => ∀ σ' H' Z', SR W H0 Z' ρ' σ' H' → W.At H' st' → Stp Z H Z' H' → Fz wr σ σ' → De.nx σ' H'
  | .bk ρ', st' => ∀ σ' H' Z', SR W H0 Z' ρ' σ' H' → W.At H' st' → Stp Z H Z' H' → Fz wr σ σ' → De.bk σ' H'
  | .ct ρ', st' => ∀ σ' H' Z', SR W H0 Z' ρ' σ' H' → W.At H' st' → Stp Z H Z' H' → Fz wr σ σ' → De.ct σ' H'
  | .rt d, st' => ∀ H' v, W.At H' st' → Kp W H0 H' → Rt W W.xs H0 H' d v → De.rt v H'
def tES (W : Wd) (Wx : WX) (n : Nat) (wr : List Nat) (f : Env → W.S → R W.S Fl) : TS := fun De σ H => ∃ H0 Z ρ st, ρ.length = n ∧ SR W H0 Z ρ σ H ∧ W.At H st ∧ GoS W Wx n H0 (f ρ st) (FlK W H0 Z σ H wr De)
section
variable {X : Cx} {W : Wd} {Wx : WX} {σ : L2.St} {H H' H0 H1 : Hp} {Z Z' Zs : Addr → Prop} {ρ : Env} {st : W.S} {d1 d2 d : D} {v1 v2 v : V} {n : Nat} {De : Ends} {α β : Type} {wr : List Nat}
theorem GoS.imp {r : R W.S α} {Kk Kk' : α → W.S → Prop} (h : GoS W Wx n H0 r Kk) (f : ∀ a st, Kk a st → Kk' a st) : GoS W Wx n H0 r Kk' := by
  cases r with
  | ok a st => exact f a st h
  | ex e st => exact h
  | bad => exact h
/-- a statement's expression -/
theorem gos_bind {x : R W.S α} {g : α → W.S → R W.S β} {Kk : β → W.S → Prop} (h : GoS W Wx n H0 (x.bind g) Kk) (hl : σ.length = n) (k : Kp W H0 H) : Go W Wx σ H x fun a st => GoS W Wx n H0 (g a st) Kk := by
  cases x with
  | ok a st => exact h
  | ex e st => exact fun H' dx C a q y => h σ H' dx C hl a (k.trans q) y
  | bad => exact h
theorem gos_bindS {x : R W.S α} {g : α → W.S → R W.S β} {Kk : β → W.S → Prop} (h : GoS W Wx n H0 (x.bind g) Kk) : GoS W Wx n H0 x fun a st => GoS W Wx n H0 (g a st) Kk := by
  cases x with
  | ok a st => exact h
  | ex e st => exact h
  | bad => exact h
theorem FlK.mono {w : Fl} {σ1 : L2.St} {wr' : List Nat} (h : FlK W H0 Z σ H wr De w st) (s : Stp Z H Z' H') (z : Fz wr σ σ1) (hs : ∀ i ∈ wr', i ∈ wr) : FlK W H0 Z' σ1 H' wr' De w st := by
  cases w with
  | rt d => exact h
  | nx ρ => exact fun σ' H2 Z2 a b c f => h σ' H2 Z2 a b (s.trans c) (z.trans (f.mono hs))
  | bk ρ => exact fun σ' H2 Z2 a b c f => h σ' H2 Z2 a b (s.trans c) (z.trans (f.mono hs))
  | ct ρ => exact fun σ' H2 Z2 a b c f => h σ' H2 Z2 a b (s.trans c) (z.trans (f.mono hs))

/-! ### blocks -/
theorem es_nil (h : tES W Wx n wr (fun ρ s => .ok (.nx ρ) s) De σ H) : tNext De σ H := by
  obtain ⟨H0, Z, ρ, st, hn, s, a, g⟩ := h
  exact g σ H Z s a (.refl Z H) (.refl _ _)
theorem es_cons {wr1 wr2 : List Nat} {f1 f2 : Env → W.S → R W.S Fl} (hn2 : ∀ ρ s ρ' s', f1 ρ s = .ok (.nx ρ') s' → ρ'.length = ρ.length) (h : tES W Wx n (wr1 ++ wr2) (fun ρ s => (f1 ρ s).bind fun w s1 => match w with | .nx ρ1 => f2 ρ1 s1 | w => .ok w s1) De σ H) : tSeq (tES W Wx n wr1 f1) (tES W Wx n wr2 f2) De σ H := by
  obtain ⟨H0, Z, ρ, st, hn, s, a, g⟩ := h
  refine ⟨H0, Z, ρ, st, hn, s, a, ?_⟩
  have g2 := gos_bindS g
  cases e : f1 ρ st with
  | bad => rw [e] at g2; exact g2.elim
  | ex x s1 => rw [e] at g2; exact g2
  | ok w s1 =>
    rw [e] at g2
    have g3 : GoS W Wx n H0 (match w with | .nx ρ1 => f2 ρ1 s1 | w => .ok w s1) (FlK W H0 Z σ H (wr1 ++ wr2) De) := g2
    show FlK W H0 Z σ H wr1 _ w s1
    have sub1 : ∀ i ∈ wr1, i ∈ wr1 ++ wr2 := fun i q => List.mem_append_left _ q
    cases w with
    | nx ρ1 => exact fun σ' H' Z' s' a' t z => ⟨H0, Z', ρ1, s1, (hn2 _ _ _ _ e).trans hn, s', a', GoS.imp g3 fun w st k => k.mono t (z.mono sub1) fun i q => List.mem_append_right _ q⟩
    | rt d => exact g3
    | bk ρ1 => exact (show FlK W H0 Z σ H (wr1 ++ wr2) De (.bk ρ1) s1 from g3).mono (.refl Z H) (.refl _ _) sub1
    | ct ρ1 => exact (show FlK W H0 Z σ H (wr1 ++ wr2) De (.ct ρ1) s1 from g3).mono (.refl Z H) (.refl _ _) sub1

/-! ### name = value -/
theorem own_new {d0 : D} {i : Nat} (s : SR W H0 Z ρ σ H) (a0 : W.At H st) (k : Kp W H H1) (h : ∃ a, v = .ref a ∧ H a = none ∧ OwnAt W (fun b => Z b ∨ b = a) H1 d0 a) : ∃ Z', SR W H0 Z' (ρ.set i (some (true, d0))) (σ.set i (some v)) H1 ∧ Stp Z H Z' H1 := by
  obtain ⟨a, rfl, hn, ho⟩ := h
  have s1 := s.more hn k (by obtain ⟨x, q, _⟩ := ho.some; rw [q]; simp)
  have nz : ∀ j d b, ρ[j]? = some (some (true, d)) → σ[j]? = some (some (V.ref b)) → b ≠ a := fun j d b e1 e2 => by
    obtain ⟨c, e3, z, nf, o⟩ := s.ow j d e1
    rw [e2] at e3; cases e3
    rintro rfl
    obtain ⟨x, q, _⟩ := o.some
    rw [hn] at q; cases q
  refine ⟨fun b => Z b ∨ b = a, ⟨s1.kp, s1.ft, s1.own, fun j e q => ?_, fun j e q => ?_, fun j j2 e f b q1 q2 q3 q4 => ?_, by rw [List.length_set, List.length_set]; exact s.len, fun j e b q1 q2 => ?_, s1.nd⟩, ?_⟩
  · rw [List.getElem?_set] at q
    split at q
    · split at q <;> cases q
    · rename_i c
      obtain ⟨u, e1, p1⟩ := s1.fr j e q
      exact ⟨u, by rw [List.getElem?_set, if_neg c]; exact e1, p1⟩
  · rw [List.getElem?_set] at q
    split at q
    · rename_i c
      subst c
      split at q
      · rename_i c
        cases q
        exact ⟨a, by rw [List.getElem?_set, if_pos rfl, if_pos (by rw [← s.len]; exact c)], .inr rfl, fun f => (by
          obtain ⟨xs, e⟩ := W.lists a0 f
          rw [hn] at e; cases e), ho⟩
      · cases q
    · rename_i c
      obtain ⟨b, e1, r⟩ := s1.ow j e q
      exact ⟨b, by rw [List.getElem?_set, if_neg c]; exact e1, r⟩
  · rw [List.getElem?_set] at q1 q2 q3 q4
    split at q1
    · rename_i c1
      split at q2
      · rename_i c2; exact c1.symm.trans c2
      · rename_i c2
        exfalso
        rw [if_pos c1] at q3
        split at q3
        · rw [if_neg c2] at q4
          cases q3
          exact nz j2 f a q2 q4 rfl
        · cases q3
    · rename_i c1
      split at q2
      · rename_i c2
        exfalso
        rw [if_neg c1] at q3
        rw [if_pos c2] at q4
        split at q4
        · cases q4
          exact nz j e a q1 q3 rfl
        · cases q4
      · rename_i c2
        rw [if_neg c1] at q3
        rw [if_neg c2] at q4
        exact s.ds j j2 e f b q1 q2 q3 q4
  · rw [List.getElem?_set] at q1 q2
    split at q1
    · rename_i c1
      rw [if_pos c1] at q2
      split at q2
      · cases q2
        cases c : H0 a with
        | none => rfl
        | some o => exact absurd hn (s.kp.dom a (by rw [c]; simp))
      · cases q2
    · rename_i c1
      rw [if_neg c1] at q2
      exact s.on j e b q1 q2
  · exact ⟨(k.stp s.ft).keep, k.tups, k.dom, fun b z => z.elim .inl fun e => .inr (by rw [e]; exact hn)⟩
/-- an own list is changed -/
theorem own_put' {d0 d1 : D} {i : Nat} {a : Addr} {o' : HO} (s : SR W H0 Z ρ σ H) (a0 : W.At H st) (e1 : ρ[i]? = some (some (true, d0))) (e2 : σ[i]? = some (some (.ref a))) (p : ∀ H', H' a = some o' → (∀ l vs, Rps W Z H l vs → Rps W Z H' l vs) → OwnAt W Z H' d1 a) :
    SR W H0 Z (ρ.set i (some (true, d1))) σ (upd H a o') ∧ Stp Z H Z (upd H a o') ∧ W.At (upd H a o') st := by
  obtain ⟨b, e3, z, nf, ob⟩ := s.ow i _ e1
  rw [e2] at e3; cases e3
  obtain ⟨x0, hq, hnt⟩ := ob.some
  have h0 : H0 a = none := s.on i _ a e1 e2
  have stp : Stp Z H Z (upd H a o') := ⟨fun b o n e => by rw [upd_ne (fun w => n (by rw [w]; exact z))]; exact e, fun b xs e => by rw [upd_ne (fun w => by subst w; rw [hq] at e; exact hnt xs (Option.some.inj e))]; exact e, fun b e => by
    by_cases hb : b = a
    · subst hb; rw [upd_same]; simp
    · rw [upd_ne hb]; exact e, fun b z => .inl z⟩
  refine ⟨⟨⟨fun b o n e => ?_, fun b xs e => ?_, fun b e => ?_⟩, s.ft, fun b z => (s.own b z).elim .inl fun q => .inr ⟨q.1, stp.dom b q.2⟩, fun j e q => ?_, fun j e q => ?_, fun j k e f b q1 q2 q3 q4 => ?_, by rw [List.length_set]; exact s.len, fun j e b q1 q2 => ?_, s.nd⟩, stp, W.stk a0 fun b f => upd_ne fun w => nf (w ▸ f)⟩
  · rw [upd_ne (fun w => by rw [w, h0] at e; cases e)]; exact s.kp.keep b o n e
  · rw [upd_ne (fun w => by rw [w, h0] at e; cases e)]; exact s.kp.tups b xs e
  · exact stp.dom b (s.kp.dom b e)
  · rw [List.getElem?_set] at q
    split at q
    · split at q <;> cases q
    · obtain ⟨u, e1, p1⟩ := s.fr j e q
      exact ⟨u, e1, stp.rp p1⟩
  · rw [List.getElem?_set] at q
    split at q
    · rename_i c
      subst c
      split at q
      · cases q
        exact ⟨a, e2, z, nf, p _ upd_same fun l vs r => stp.rps r⟩
      · cases q
    · rename_i c
      obtain ⟨b, e3, z2, nf2, o⟩ := s.ow j e q
      refine ⟨b, e3, z2, nf2, ?_⟩
      have hba : b ≠ a := fun w => by
        subst w
        exact c (s.ds i j _ e b e1 q e2 e3)
      exact o.move (fun x e => by rw [upd_ne hba]; exact e) fun l vs r => stp.rps r
  · have own : ∀ j e, (ρ.set i (some (true, d1)))[j]? = some (some (true, e)) → ∃ e', ρ[j]? = some (some (true, e')) := fun j e q => by
      rw [List.getElem?_set] at q
      split at q
      · rename_i c; subst c; exact ⟨_, e1⟩
      · exact ⟨e, q⟩
    obtain ⟨e', r1⟩ := own j e q1
    obtain ⟨f', r2⟩ := own k f q2
    exact s.ds j k e' f' b r1 r2 q3 q4
  · rw [List.getElem?_set] at q1
    split at q1
    · rename_i c
      subst c
      rw [e2] at q2
      cases q2
      exact h0
    · exact s.on j e b q1 q2
theorem own_put {l l' : List D} {i : Nat} {a : Addr} {vs vs' : List V} (s : SR W H0 Z ρ σ H) (a0 : W.At H st) (e1 : ρ[i]? = some (some (true, .lst l))) (e2 : σ[i]? = some (some (.ref a))) (hq : H a = some (.lst vs)) (p : Rps W Z H l' vs') :
    SR W H0 Z (ρ.set i (some (true, .lst l'))) σ (upd H a (.lst vs')) ∧ Stp Z H Z (upd H a (.lst vs')) ∧ W.At (upd H a (.lst vs')) st :=
  own_put' s a0 e1 e2 fun H' h r => ⟨vs', h, r _ _ p⟩
theorem set_len {i : Nat} {x : Slot} (hn : ρ.length = n) : (ρ.set i x).length = n := by rw [List.length_set]; exact hn
theorem es_asgF {i : Nat} {ir : IE} {f : Env → W.S → R W.S D} (hi : i ∈ wr) (h : tES W Wx n wr (fun ρ s => (f ρ s).bind fun x s1 => .ok (.nx (ρ.set i (some (x.isObj, unC ir x)))) s1) De σ H) : tAsg (tEv W Wx (qF W) f) (gName i) De σ H := by
  obtain ⟨H0, Z, ρ, st, hn, s, a, g⟩ := h
  refine ⟨H0, Z, ρ, st, s, a, (gos_bind g (s.len.symm.trans hn) s.kp).imp fun d st1 k H1 v a1 kp p => ?_⟩
  show De.nx (σ.set i (some v)) H1
  have k' : ∀ σ' H' Z', SR W H0 Z' (ρ.set i (some (d.isObj, unC ir d))) σ' H' → W.At H' st1 → Stp Z H Z' H' → Fz wr σ σ' → De.nx σ' H' := k
  cases d with
  | lst l =>
    obtain ⟨b, vs, e, n0, q, r⟩ := p
    obtain ⟨Z', s', t⟩ := own_new (d0 := .lst l) s a kp ⟨b, e, n0, vs, q, r⟩ (i := i)
    rw [unC_obj rfl] at k'
    exact k' _ _ Z' s' a1 t (.set _ hi)
  | dct tk ks l =>
    obtain ⟨b, vs, e, n0, q, ok, r⟩ := p
    obtain ⟨Z', s', t⟩ := own_new (d0 := .dct tk ks l) s a kp ⟨b, e, n0, vs, q, ok, r⟩ (i := i)
    rw [unC_obj rfl] at k'
    exact k' _ _ Z' s' a1 t (.set _ hi)
  | _ => exact k' _ _ Z ((s.mono kp).free i (rp_unC p)) a1 (kp.stp s.ft) (.set _ hi)
theorem es_asgN {i : Nat} {f : Env → W.S → R W.S D} (hi : i ∈ wr) (h : tES W Wx n wr (fun ρ s => (f ρ s).bind fun x s1 => .ok (.nx (ρ.set i (some (false, x)))) s1) De σ H) : tAsg (tEv W Wx (qN W) f) (gName i) De σ H := by
  obtain ⟨H0, Z, ρ, st, hn, s, a, g⟩ := h
  refine ⟨H0, Z, ρ, st, s, a, (gos_bind g (s.len.symm.trans hn) s.kp).imp fun d st1 k H1 v a1 kp p => ?_⟩
  have k' : ∀ σ' H' Z', SR W H0 Z' (ρ.set i (some (false, d))) σ' H' → W.At H' st1 → Stp Z H Z' H' → Fz wr σ σ' → De.nx σ' H' := k
  exact k' _ _ Z ((s.mono kp).free i p) a1 (kp.stp s.ft) (.set _ hi)
theorem es_asgT (hK : X.K = W.K) {l : List Nat} {f : Env → W.S → R W.S D} (hl : ∀ i ∈ l, i ∈ wr) (h : tES W Wx n wr (fun ρ s => (f ρ s).bind fun x s1 => match x with
    | .tup ds => match setAll l ds ρ with
      | some ρ1 => .ok (.nx ρ1) s1
      | none => .bad
    | _ => .bad) De σ H) : tAsg (tEv W Wx (qN W) f) (gOf X.K (.tup l)) De σ H := by
  obtain ⟨H0, Z, ρ, st, hn, s, a, g⟩ := h
  refine ⟨H0, Z, ρ, st, s, a, (gos_bind g (s.len.symm.trans hn) s.kp).imp fun d st1 k H1 v a1 kp p => ?_⟩
  cases d with
  | tup ds =>
    cases e : setAll l ds ρ with
    | none => simp only [e] at k; exact k.elim
    | some ρ1 =>
      simp only [e] at k
      have k' : ∀ σ' H' Z', SR W H0 Z' ρ1 σ' H' → W.At H' st1 → Stp Z H Z' H' → Fz wr σ σ' → De.nx σ' H' := k
      exact bindTg_ok hK (tg := .tup l) (d := .tup ds) (show bindTg (.tup l) (.tup ds) ρ = some ρ1 from e) (s.mono kp) p fun σ1 s1 hw => k' σ1 H1 Z s1 a1 (kp.stp s.ft) (.tg hw hl)
  | _ => exact k.elim

/-! ### changes of own lists -/
theorem es_app (hK : X.K = W.K) {i : Nat} {f : Env → W.S → R W.S D} (h : tES W Wx n wr (fun ρ s => match ρ[i]? with
    | some (some (true, .lst l)) => (f ρ s).bind fun x s1 => if l.length < L then .ok (.nx (ρ.set i (some (true, .lst (l ++ [x]))))) s1 else .bad
    | _ => .bad) De σ H) : tDrop (tBM X.K "list" rAppend (tVar i) (tCons (tEv W Wx (qN W) f) tNil)) De σ H := by
  obtain ⟨H0, Z, ρ, st, hn, s, a, g⟩ := h
  dsimp only at g
  split at g
  · rename_i l e
    obtain ⟨b, e1, z, nf, vs, hb, pb⟩ := s.ow i _ e
    refine ⟨.ref b, e1, .inl ⟨rfl, vs, .of hb⟩, H0, Z, ρ, st, s, a, (gos_bind g (s.len.symm.trans hn) s.kp).imp fun d st1 k H1 v a1 kp p => ?_⟩
    have hb1 := kp.keep b _ nf hb
    have pb1 := kp.rps s.ft pb
    split at k
    · rename_i c
      refine ⟨b, vs, v, rfl, rfl, hb1, by rw [Rps.length pb, ← L_eq]; exact c, ?_⟩
      obtain ⟨s', t, a'⟩ := own_put (s.mono kp) a1 e e1 hb1 (Rps.append pb1 (.one p))
      have k' : ∀ σ' H' Z', SR W H0 Z' (ρ.set i (some (true, .lst (l ++ [d])))) σ' H' → W.At H' st1 → Stp Z H Z' H' → Fz wr σ σ' → De.nx σ' H' := k
      exact k' _ _ Z s' a' ((kp.stp s.ft).trans t) (.refl _ _)
    · exact k.elim
  · exact g.elim
theorem es_setix {i : Nat} {f fk : Env → W.S → R W.S D} (h : tES W Wx n wr (fun ρ s => match ρ[i]? with
    | some (some (true, .lst l)) => (f ρ s).bind fun x s1 => (fk ρ s1).bind fun y s2 => asInt y fun j => match ixN l.length j with
      | some n => .ok (.nx (ρ.set i (some (true, .lst (l.set n x))))) s2
      | none => .bad
    | _ => .bad) De σ H) : tAsg (tEv W Wx (qN W) f) (gSub (tVar i) (tEv W Wx (qB W) fk) rSetL) De σ H := by
  obtain ⟨H0, Z, ρ, st, hn, s, a, g⟩ := h
  dsimp only at g
  split at g
  · rename_i l e
    obtain ⟨b, e1, z, nf, vs, hb, pb⟩ := s.ow i _ e
    refine ⟨H0, Z, ρ, st, s, a, (gos_bind g (s.len.symm.trans hn) s.kp).imp fun d st1 k H1 v a1 kp p => ?_⟩
    have s1 := s.mono kp
    refine ⟨.ref b, e1, H0, Z, ρ, st1, s1, a1, (gos_bind k (s.len.symm.trans hn) s1.kp).imp fun d2 st2 k2 H2 v2 a2 kp2 b2 => ?_⟩
    have s2 := s1.mono kp2
    have kp' := kp.trans kp2
    cases d2 with
    | int j =>
      have hv := b2.int s2
      subst hv
      cases ei : ixN l.length j with
      | none => simp only [asInt, ei] at k2; exact k2.elim
      | some m =>
        simp only [asInt, ei] at k2
        have hb2 := kp'.keep b _ nf hb
        have pb2 := kp'.rps s.ft pb
        refine ⟨b, vs, j, m, rfl, rfl, hb2, by rw [Rps.length pb]; exact ei, ?_⟩
        obtain ⟨s', t, a'⟩ := own_put s2 a2 e e1 hb2 (pb2.set (i := m) (kp2.rp s1.ft p))
        have k' : ∀ σ' H' Z', SR W H0 Z' (ρ.set i (some (true, .lst (l.set m d)))) σ' H' → W.At H' st2 → Stp Z H Z' H' → Fz wr σ σ' → De.nx σ' H' := k2
        exact k' _ _ Z s' a' ((kp'.stp s.ft).trans t) (.refl _ _)
    | _ => exact k2.elim
  · exact g.elim
/-! ### a place of the state -/
theorem foot_put {a : Addr} {vs vs' : List V} (s : SR W H0 Z ρ σ H) (hf : W.foot a) (hq : H a = some (.lst vs)) : SR W H0 Z ρ σ (upd H a (.lst vs')) ∧ Stp Z H Z (upd H a (.lst vs')) := by
  have z := s.ft a hf
  have stp : Stp Z H Z (upd H a (.lst vs')) := ⟨fun b o n e => by rw [upd_ne (fun w => n (by rw [w]; exact z))]; exact e, fun b xs e => by rw [upd_ne (fun w => by subst w; rw [hq] at e; cases e)]; exact e, fun b e => by
    by_cases hb : b = a
    · subst hb; rw [upd_same]; simp
    · rw [upd_ne hb]; exact e, fun b z => .inl z⟩
  refine ⟨⟨⟨fun b o n e => ?_, fun b xs e => ?_, fun b e => ?_⟩, s.ft, fun b z => (s.own b z).elim .inl fun q => .inr ⟨q.1, stp.dom b q.2⟩, fun j e q => ?_, fun j e q => ?_, s.ds, s.len, s.on, s.nd⟩, stp⟩
  · rw [upd_ne (fun w => n (by rw [w]; exact hf))]; exact s.kp.keep b o n e
  · exact stp.tups b xs (s.kp.tups b xs e)
  · exact stp.dom b (s.kp.dom b e)
  · obtain ⟨u, e1, p1⟩ := s.fr j e q
    exact ⟨u, e1, stp.rp p1⟩
  · obtain ⟨b, e3, z2, nf2, o⟩ := s.ow j e q
    exact ⟨b, e3, z2, nf2, o.move (fun x e => by rw [upd_ne (fun w => nf2 (by rw [w]; exact hf))]; exact e) fun l vs r => stp.rps r⟩
theorem es_setst {i : Nat} {f fk : Env → W.S → R W.S D} (h : tES W Wx n wr (fun ρ s => match ρ[i]? with
    | some (some (false, .st m)) => (f ρ s).bind fun x s1 => (fk ρ s1).bind fun y s2 => putS s2 m y x (.nx ρ)
    | _ => .bad) De σ H) : tAsg (tEv W Wx (qN W) f) (gSub (tVar i) (tEv W Wx (qB W) fk) rSetL) De σ H := by
  obtain ⟨H0, Z, ρ, st, hn, s, a, g⟩ := h
  dsimp only at g
  split at g
  · rename_i m e
    obtain ⟨v0, e1, rv⟩ := s.fr i _ e
    have hv0 : v0 = .ref (W.hand m) := rv
    subst hv0
    refine ⟨H0, Z, ρ, st, s, a, (gos_bind g (s.len.symm.trans hn) s.kp).imp fun d st1 k H1 v a1 kp p => ?_⟩
    have s1 := s.mono kp
    refine ⟨.ref (W.hand m), e1, H0, Z, ρ, st1, s1, a1, (gos_bind k (s.len.symm.trans hn) s1.kp).imp fun d2 st2 k2 H2 v2 a2 kp2 b2 => ?_⟩
    have s2 := s1.mono kp2
    have kp' := kp.trans kp2
    cases d2 with
    | int j =>
      have hv := b2.int s2
      subst hv
      cases c : StOps.get st2 m with
      | none => simp only [putS, c] at k2; exact k2.elim
      | some l =>
        cases ei : ixN l.length j with
        | none => simp only [putS, c, ei] at k2; exact k2.elim
        | some q =>
          simp only [putS, c, ei] at k2
          split at k2
          · rename_i hok
            obtain ⟨hf, hl, hall⟩ := W.hget a2 c
            have ev : v = stV W.hand d := by
              cases d <;> first | (cases hok; done) | exact p
            refine ⟨W.hand m, _, j, q, rfl, rfl, hl, by rw [List.length_map]; exact ei, ?_⟩
            obtain ⟨s', t⟩ := foot_put (vs' := (l.map (stV W.hand)).set q v) s2 hf hl
            have k' : ∀ σ' H' Z', SR W H0 Z' ρ σ' H' → W.At H' (StOps.put st2 m (l.set q d)) → Stp Z H Z' H' → Fz wr σ σ' → De.nx σ' H' := k2
            refine k' _ _ Z s' ?_ ((kp'.stp s.ft).trans t) (.refl _ _)
            rw [ev, ← List.map_set]
            exact W.hput a2 c (List.length_set) (by
              rw [List.all_eq_true] at hall ⊢
              intro x hx
              rcases List.mem_or_eq_of_mem_set hx with hx | hx
              · exact hall x hx
              · rw [hx]; exact hok)
          · exact k2.elim
    | _ => simp only [putS] at k2; exact k2.elim
  · exact g.elim
/-! ### a place of a dict -/
def putV (ks : List Ky) (us : List V) (q : Ky) (x : V) : List V := if kyIn q ks then (ks.zip us).map fun p => if p.1 = q then x else p.2 else us ++ [x]
theorem put_rps {ks : List Ky} {vs : List D} {us : List V} {q : Ky} {x : D} {u : V} (r : Rps W Z H vs us) (rx : Rp W Z H x u) : Rps W Z H (dput ks vs q x).2 (putV ks us q u) := by
  unfold dput putV
  split
  · have gen : ∀ (ks : List Ky) (vs : List D) (us : List V), Rps W Z H vs us → Rps W Z H ((ks.zip vs).map fun p => if p.1 = q then x else p.2) ((ks.zip us).map fun p => if p.1 = q then u else p.2) := by
      intro ks
      induction ks with
      | nil => intro vs us _; rfl
      | cons k ks ih =>
        intro vs us r
        cases vs with
        | nil =>
          have : us = [] := r
          subst this
          rfl
        | cons d vs =>
          obtain ⟨w, ws, rfl, p, t⟩ := r
          rw [List.zip_cons_cons, List.zip_cons_cons, List.map_cons, List.map_cons]
          refine ⟨_, _, rfl, ?_, ih vs ws t⟩
          by_cases c : k = q
          · simp only [c, if_true]; exact rx
          · simp only [c, if_false]; exact p
    exact gen ks vs us r
  · exact Rps.append r (.one rx)
theorem put_len {ks : List Ky} {vs : List D} {q : Ky} {x : D} (h : ks.length = vs.length) : (dput ks vs q x).1.length = (dput ks vs q x).2.length := by
  unfold dput
  split
  · simp [h]
  · simp [h]
theorem put_keys {ks : List Ky} {vs : List D} {q : Ky} {x : D} : ∀ k ∈ (dput ks vs q x).1, k ∈ ks ∨ k = q := by
  unfold dput
  split
  · exact fun k h => .inl h
  · intro k h
    rcases List.mem_append.mp h with h | h
    · exact .inl h
    · exact .inr (List.mem_singleton.mp h)
theorem putK_gen {κ : Type} [DecidableEq κ] (f : Ky → κ) {q : Ky} {u : V} : ∀ {ks : List Ky} {us : List V}, ks.length = us.length → (∀ k ∈ ks, f k = f q → k = q) → (((ks.map f).zip us).any fun kv => decide (kv.1 = f q)) = kyIn q ks ∧
    ((ks.map f).zip us).map (fun kv => if kv.1 = f q then (kv.1, u) else kv) = (ks.map f).zip ((ks.zip us).map fun p => if p.1 = q then u else p.2)
  | [], us, _, _ => ⟨rfl, rfl⟩
  | k :: ks, [], h, _ => by cases h
  | k :: ks, w :: us, h, hf => by
    obtain ⟨h1, h2⟩ := putK_gen f (u := u) (ks := ks) (us := us) (by simpa using h) fun k hk => hf k (List.mem_cons_of_mem _ hk)
    rw [List.map_cons, List.zip_cons_cons, List.any_cons, List.map_cons, h1, h2, List.zip_cons_cons, List.map_cons, List.zip_cons_cons]
    unfold kyIn
    rw [List.any_cons]
    by_cases c : k = q
    · subst c
      simp
    · have c' : ¬ f k = f q := fun e => c (hf k List.mem_cons_self e)
      simp [c, c']
theorem putK_zip {κ : Type} [DecidableEq κ] (f : Ky → κ) {q : Ky} {u : V} {ks : List Ky} {vs : List D} {us : List V} {x : D} (hl : ks.length = us.length) (hf : ∀ k ∈ ks, f k = f q → k = q) : putK ((ks.map f).zip us) (f q) u = ((dput ks vs q x).1.map f).zip (putV ks us q u) := by
  obtain ⟨h1, h2⟩ := putK_gen f (u := u) hl hf
  unfold putK dput putV
  rw [h1]
  by_cases c : kyIn q ks = true
  · rw [if_pos c, if_pos c, if_pos c, h2]
  · rw [if_neg c, if_neg c, if_neg c, List.map_append, List.zip_append (by rw [List.length_map]; exact hl)]; rfl
theorem es_dput {i : Nat} {f fk : Env → W.S → R W.S D} (h : tES W Wx n wr (fun ρ s => match ρ[i]? with
    | some (some (true, .dct tk ks vs)) => (f ρ s).bind fun x s1 => (fk ρ s1).bind fun y s2 => match kyOf tk y with
      | some q => if ks.length < L then .ok (.nx (ρ.set i (some (true, .dct tk (dput ks vs q x).1 (dput ks vs q x).2)))) s2 else .bad
      | none => .bad
    | _ => .bad) De σ H) : sDPut (tVar i) (tEv W Wx (qB W) fk) (tEv W Wx (qN W) f) De σ H := by
  obtain ⟨H0, Z, ρ, st, hn, s, a, g⟩ := h
  dsimp only at g
  split at g
  · rename_i tk ks vs e
    obtain ⟨b, e1, z, nf, us, hb, ok, pb⟩ := s.ow i _ e
    refine ⟨H0, Z, ρ, st, s, a, (gos_bind g (s.len.symm.trans hn) s.kp).imp fun d st1 k H1 v a1 kp p => ?_⟩
    have s1 := s.mono kp
    refine ⟨.ref b, e1, H0, Z, ρ, st1, s1, a1, (gos_bind k (s.len.symm.trans hn) s1.kp).imp fun d2 st2 k2 H2 v2 a2 kp2 b2 => ?_⟩
    have s2 := s1.mono kp2
    have kp' := kp.trans kp2
    cases ek : kyOf tk d2 with
    | none => rw [ek] at k2; exact k2.elim
    | some q =>
      simp only [ek] at k2
      split at k2
      · rename_i hl
        have hb2 := kp'.keep b _ nf hb
        have pb2 := kp'.rps s.ft pb
        have pd := kp2.rp s1.ft p
        have rk := b2.key s2 ek
        have hlen : ks.length = us.length := ok.1.trans (Rps.length pb).symm
        have hz : ks.length < sizeLine := by rw [← L_eq]; exact hl
        refine ⟨b, upd H2 b (dO tk (dput ks vs q d).1 (putV ks us q v)), rfl, ?_, ?_⟩
        · cases tk with
          | true =>
            cases d2 <;> first | (cases ek; done) | skip
            obtain ⟨c, ws, rfl, t, pr⟩ := rk
            have ew := ky_all ek pr
            subst ew
            have e3 := putK_zip (κ := List Key) id (q := q) (u := v) (vs := vs) (x := d) hlen fun k _ h => h
            rw [List.map_id, List.map_id] at e3
            show DPut H2 b (.ref c) v (upd H2 b (.dT ((dput ks vs q d).1.zip (putV ks us q v))))
            rw [← e3]
            exact .t hb2 t.hp (by rw [List.length_zip, ← hlen, Nat.min_self]; exact hz)
          | false =>
            obtain ⟨x, e5, rfl⟩ : ∃ x, kyOne d2 = some x ∧ q = [x] := by
              have ek' : (kyOne d2).map (fun k => [k]) = some q := by cases d2 <;> exact ek
              cases e : kyOne d2 with
              | none => rw [e] at ek'; cases ek'
              | some x => rw [e] at ek'; cases ek'; exact ⟨x, rfl, rfl⟩
            have ev := ky_one e5 rk
            subst ev
            have e3 := putK_zip (κ := Key) hd1 (q := [x]) (u := v) (vs := vs) (x := d) hlen fun k hk h => by
              obtain ⟨y, rfl⟩ := ok.2 rfl k hk
              have : y = x := h
              rw [this]
            show DPut H2 b (kV x) v (upd H2 b (.dK (((dput ks vs [x] d).1.map hd1).zip (putV ks us [x] v))))
            rw [← e3]
            exact .k hb2 (by rw [List.length_zip, List.length_map, ← hlen, Nat.min_self]; exact hz)
        · obtain ⟨s', t, a'⟩ := own_put' (d1 := .dct tk (dput ks vs q d).1 (dput ks vs q d).2) (o' := dO tk (dput ks vs q d).1 (putV ks us q v)) s2 a2 e e1 fun H' h1 r => ⟨_, h1, ⟨put_len ok.1, fun h k0 hk => by
            rcases put_keys k0 hk with h2 | h2
            · exact ok.2 h k0 h2
            · subst h2
              subst h
              have ek' : (kyOne d2).map (fun k => [k]) = some k0 := by cases d2 <;> exact ek
              obtain ⟨x, _, rfl⟩ : ∃ x, kyOne d2 = some x ∧ [x] = k0 := by
                cases e : kyOne d2 with
                | none => rw [e] at ek'; cases ek'
                | some x => rw [e] at ek'; cases ek'; exact ⟨x, rfl, rfl⟩
              exact ⟨x, rfl⟩⟩, put_rps (r _ _ pb2) (by
              have := r [d] [v] (.one pd)
              obtain ⟨v', _, e9, p9, _⟩ := this
              cases e9; exact p9)⟩
          have k' : ∀ σ' H' Z', SR W H0 Z' (ρ.set i (some (true, .dct tk (dput ks vs q d).1 (dput ks vs q d).2))) σ' H' → W.At H' st2 → Stp Z H Z' H' → Fz wr σ σ' → De.nx σ' H' := k2
          exact k' _ _ Z s' a' ((kp'.stp s.ft).trans t) (.refl _ _)
      · exact k2.elim
  · exact g.elim
theorem es_expr {f : Env → W.S → R W.S D} (h : tES W Wx n wr (fun ρ s => (f ρ s).bind fun _ s1 => .ok (.nx ρ) s1) De σ H) : tDrop (tEv W Wx (qB W) f) De σ H := by
  obtain ⟨H0, Z, ρ, st, hn, s, a, g⟩ := h
  refine ⟨H0, Z, ρ, st, s, a, (gos_bind g (s.len.symm.trans hn) s.kp).imp fun d st1 k H1 v a1 kp p => ?_⟩
  have k' : ∀ σ' H' Z', SR W H0 Z' ρ σ' H' → W.At H' st1 → Stp Z H Z' H' → Fz wr σ σ' → De.nx σ' H' := k
  exact k' _ _ Z (s.mono kp) a1 (kp.stp s.ft) (.refl _ _)
theorem es_aug {i : Nat} {g : Int → Int → Int} {f : Env → W.S → R W.S D} (hi : i ∈ wr) (h : tES W Wx n wr (fun ρ s => match look false ρ i with
    | some x => (f ρ s).bind fun y s1 => match x, y with
      | .int a, .int b => .ok (.nx (ρ.set i (some (false, .int (g a b))))) s1
      | _, _ => .bad
    | none => .bad) De σ H) : tAug i (tEv W Wx (qB W) f) (ipI g) De σ H := by
  obtain ⟨H0, Z, ρ, st, hn, s, a, g1⟩ := h
  dsimp only at g1
  split at g1
  · rename_i x e
    obtain ⟨own, e1, e3⟩ := look_some e
    cases own with
    | true => exact absurd (e3 rfl) (by simp)
    | false =>
      obtain ⟨u, e2, p⟩ := s.fr i x e1
      refine ⟨u, e2, H0, Z, ρ, st, s, a, (gos_bind g1 (s.len.symm.trans hn) s.kp).imp fun d st1 k H1 v a1 kp b => ?_⟩
      have s1 := s.mono kp
      cases x with
      | int i1 =>
        cases d with
        | int j1 =>
          have hv := b.int s1
          subst hv
          refine ⟨i1, j1, p, rfl, ?_⟩
          have k' : ∀ σ' H' Z', SR W H0 Z' (ρ.set i (some (false, .int (g i1 j1)))) σ' H' → W.At H' st1 → Stp Z H Z' H' → Fz wr σ σ' → De.nx σ' H' := k
          exact k' _ _ Z (s1.free i (v := .int (g i1 j1)) rfl) a1 (kp.stp s.ft) (.set _ hi)
        | _ => exact k.elim
      | _ => cases d <;> exact k.elim
  · exact g1.elim

/-! ### if, return -/
theorem es_ite {wa wb : List Nat} {f : Env → W.S → R W.S D} {fa fb : Env → W.S → R W.S Fl} (h : tES W Wx n (wa ++ wb) (fun ρ s => (f ρ s).bind fun x s1 => match truD x with
    | some true => fa ρ s1
    | some false => fb ρ s1
    | none => .bad) De σ H) : tIfS (tEvT W Wx (asT f)) (tES W Wx n wa fa) (tES W Wx n wb fb) De σ H := by
  obtain ⟨H0, Z, ρ, st, hn, s, a, g⟩ := h
  have hl : σ.length = n := s.len.symm.trans hn
  dsimp only at g
  have g' : GoS W Wx n H0 ((asT f ρ st).bind fun b s1 => if b then fa ρ s1 else fb ρ s1) (FlK W H0 Z σ H (wa ++ wb) De) := by
    unfold asT
    revert g
    cases f ρ st with
    | bad => exact fun g => g
    | ex e s1 => exact fun g => g
    | ok x s1 =>
      intro g
      have g1 : GoS W Wx n H0 (match truD x with | some true => fa ρ s1 | some false => fb ρ s1 | none => .bad) (FlK W H0 Z σ H (wa ++ wb) De) := g
      simp only [R.bind_ok]
      cases e : truD x with
      | none => rw [e] at g1; exact g1.elim
      | some b => rw [e] at g1; cases b <;> simpa using g1
  refine ⟨H0, Z, ρ, st, s, a, (gos_bind g' hl s.kp).imp fun b st1 k H1 a1 kp => ?_⟩
  have t := kp.stp s.ft
  cases b with
  | true => exact iteT ⟨H0, Z, ρ, st1, hn, s.mono kp, a1, GoS.imp (show GoS W Wx n H0 (fa ρ st1) _ from k) fun w st k => k.mono t (.refl _ _) fun i q => List.mem_append_left _ q⟩
  | false => exact iteF ⟨H0, Z, ρ, st1, hn, s.mono kp, a1, GoS.imp (show GoS W Wx n H0 (fb ρ st1) _ from k) fun w st k => k.mono t (.refl _ _) fun i q => List.mem_append_right _ q⟩
theorem rt_plain (h : d.plain = true) (p : Rp W Z H1 d v) : Rt W W.xs H0 H1 d v := by
  cases d with
  | lst l => cases h
  | dct _ _ _ => cases h
  | _ => exact rp_plain (Z := Z) _ _ h p
/-- where all old addresses are among Z, what is handed back is new -/
theorem rt_nd (s : SR W H0 Z ρ σ H) (p : Fr W Z H H1 d v) : Rt W W.xs H0 H1 d v := by
  have n0 : ∀ a, H a = none → H0 a = none := fun a hn => by
    cases c : H0 a with
    | none => rfl
    | some o => exact absurd hn (s.kp.dom a (by rw [c]; simp))
  have an : ∀ (a : Addr) b, (W.foot b ∨ W.xs b ∨ b = a) → (Z b ∨ b = a) := fun a b z => z.elim (fun f => Or.inl (s.ft b f)) fun z => z.elim (fun z => Or.inl (s.nd b z).1) Or.inr
  cases d with
  | lst l =>
    obtain ⟨a, vs, e, hn, q, r⟩ := p
    exact ⟨a, vs, e, n0 a hn, q, rps_anti (an a) r⟩
  | dct tk ks l =>
    obtain ⟨a, vs, e, hn, q, ok, r⟩ := p
    exact ⟨a, vs, e, n0 a hn, q, ok, rps_anti (an a) r⟩
  | _ => exact rp_anti (Z := Z) (fun b (z : W.foot b ∨ W.xs b) => z.elim (s.ft b) fun z => (s.nd b z).1) p
theorem rt_ndN (s : SR W H0 Z ρ σ H) (h : d.isObj = false) (p : Rp W Z H1 d v) : Rt W W.xs H0 H1 d v := by
  cases d with
  | lst l => cases h
  | dct _ _ _ => cases h
  | _ => exact rp_anti (Z := Z) (fun b (z : W.foot b ∨ W.xs b) => z.elim (s.ft b) fun z => (s.nd b z).1) p
theorem rt_ins (s : SR W H0 Z ρ σ H) (h : d.isObj = true) (p : Rp W Z H1 d v) : Rt W W.xs H0 H1 (.ins 0 [d]) v :=
  ⟨rfl, h, rp_anti (Z := Z) (fun b (z : W.foot b ∨ W.xs b) => z.elim (s.ft b) fun z => (s.nd b z).1) p⟩
theorem es_retV {i : Nat} (h : tES W Wx n wr (fun ρ s => match ρ[i]? with
      | some (some (true, d)) => .ok (.rt d) s
      | some (some (false, d)) => if d.isObj then .ok (.rt (.ins 0 [d])) s else .ok (.rt d) s
      | _ => .bad) De σ H) : tRet (tVar i) De σ H := by
  obtain ⟨H0, Z, ρ, st, hn, s, a, g⟩ := h
  dsimp only at g
  split at g
  · rename_i d e
    obtain ⟨b, e1, z, nf, o⟩ := s.ow i d e
    refine ⟨_, e1, ?_⟩
    have g' : ∀ H' v, W.At H' st → Kp W H0 H' → Rt W W.xs H0 H' d v → De.rt v H' := g
    have h0 := s.on i d b e e1
    refine g' H _ a s.kp ?_
    have an : ∀ x, (W.foot x ∨ W.xs x ∨ x = b) → Z x := fun x q => q.elim (s.ft x) fun q => q.elim (fun z => (s.nd x z).1) fun q => q ▸ z
    cases d with
    | lst l =>
      obtain ⟨vs, q, p⟩ := o
      exact ⟨b, vs, rfl, h0, q, rps_anti an p⟩
    | dct tk ks l =>
      obtain ⟨vs, q, ok, p⟩ := o
      exact ⟨b, vs, rfl, h0, q, ok, rps_anti an p⟩
    | _ => exact o.elim
  · rename_i d e
    split at g
    · rename_i c
      obtain ⟨v, e1, p⟩ := s.fr i d e
      have g' : ∀ H' v, W.At H' st → Kp W H0 H' → Rt W W.xs H0 H' (.ins 0 [d]) v → De.rt v H' := g
      exact ⟨_, e1, g' H _ a s.kp (rt_ins s c p)⟩
    · rename_i c
      obtain ⟨v, e1, p⟩ := s.fr i d e
      have g' : ∀ H' v, W.At H' st → Kp W H0 H' → Rt W W.xs H0 H' d v → De.rt v H' := g
      exact ⟨_, e1, g' H _ a s.kp (rt_ndN s (by simpa using c) p)⟩
  · exact g.elim
theorem es_retF {f : Env → W.S → R W.S D} (h : tES W Wx n wr (fun ρ s => (f ρ s).bind fun d s1 => .ok (.rt d) s1) De σ H) : tRet (tEv W Wx (qF W) f) De σ H := by
  obtain ⟨H0, Z, ρ, st, hn, s, a, g⟩ := h
  refine ⟨H0, Z, ρ, st, s, a, (gos_bind g (s.len.symm.trans hn) s.kp).imp fun d st1 k H1 v a1 kp p => ?_⟩
  have k' : ∀ H' v, W.At H' st1 → Kp W H0 H' → Rt W W.xs H0 H' d v → De.rt v H' := k
  exact k' H1 v a1 (s.kp.trans kp) (rt_nd s p)
theorem es_retN {f : Env → W.S → R W.S D} (h : tES W Wx n wr (fun ρ s => (f ρ s).bind fun d s1 => if d.isObj then .ok (.rt (.ins 0 [d])) s1 else .ok (.rt d) s1) De σ H) : tRet (tEv W Wx (qN W) f) De σ H := by
  obtain ⟨H0, Z, ρ, st, hn, s, a, g⟩ := h
  refine ⟨H0, Z, ρ, st, s, a, (gos_bind g (s.len.symm.trans hn) s.kp).imp fun d st1 k H1 v a1 kp p => ?_⟩
  split at k
  · rename_i c
    have k' : ∀ H' v, W.At H' st1 → Kp W H0 H' → Rt W W.xs H0 H' (.ins 0 [d]) v → De.rt v H' := k
    exact k' H1 v a1 (s.kp.trans kp) (rt_ins s c p)
  · rename_i c
    have k' : ∀ H' v, W.At H' st1 → Kp W H0 H' → Rt W W.xs H0 H' d v → De.rt v H' := k
    exact k' H1 v a1 (s.kp.trans kp) (rt_ndN s (by simpa using c) p)
theorem es_ret0 (h : tES W Wx n wr (fun _ s => .ok (.rt .non) s) De σ H) : tRetN De σ H := by
  obtain ⟨H0, Z, ρ, st, hn, s, a, g⟩ := h
  have k' : ∀ H' v, W.At H' st → Kp W H0 H' → Rt W W.xs H0 H' .non v → De.rt v H' := g
  exact k' H .non a s.kp rfl
theorem es_brk (h : tES W Wx n wr (fun ρ s => .ok (.bk ρ) s) De σ H) : tBreak De σ H := by
  obtain ⟨H0, Z, ρ, st, hn, s, a, g⟩ := h
  exact g σ H Z s a (.refl Z H) (.refl _ _)
theorem es_cont (h : tES W Wx n wr (fun ρ s => .ok (.ct ρ) s) De σ H) : tCont De σ H := by
  obtain ⟨H0, Z, ρ, st, hn, s, a, g⟩ := h
  exact g σ H Z s a (.refl Z H) (.refl _ _)
end
end Ev
end
section
set_option Elab.async false
set_option linter.all false
set_option maxRecDepth 100000
set_option maxHeartbeats 1000000
namespace Ev
open PySem PySem.Spec PyProof.Rows L2

/-- a statement keeps the number of names -/
def Fl.len (n : Nat) : Fl → Prop
  | .nx ρ => ρ.length = n
  | .bk ρ => ρ.length = n
  | .ct ρ => ρ.length = n
  | .rt _ => True
/-- a statement keeps the names that it does not store -/
def Fl.same (wr : List Nat) (ρ : Env) : Fl → Prop
  | .nx ρ' => ∀ i, i ∉ wr → ρ'[i]? = ρ[i]?
  | .bk ρ' => ∀ i, i ∉ wr → ρ'[i]? = ρ[i]?
  | .ct ρ' => ∀ i, i ∉ wr → ρ'[i]? = ρ[i]?
  | .rt _ => True
def KeepsW {S : Type} (wr : List Nat) (f : Env → S → R S Fl) : Prop := ∀ ρ s w s', f ρ s = .ok w s' → Fl.same wr ρ w
def KeepsN {S : Type} (f : Env → S → R S Fl) : Prop := ∀ ρ s w s', f ρ s = .ok w s' → Fl.len ρ.length w
section
variable {X : Cx} {W : Wd} {Wx : WX} {σ : L2.St} {H H' H0 H1 : Hp} {Z Z' Zs : Addr → Prop} {ρ : Env} {st : W.S} {d1 d2 d : D} {v1 v2 v : V} {n : Nat} {De : Ends} {α β : Type} {wr : List Nat}
theorem freeFrom_get (vs : List Nat) : ∀ (ρ : Env) (k j : Nat), (freeFrom vs k ρ)[j]? = (ρ[j]?).map fun s => if vs.contains (k + j) then s.map (fun p => (false, p.2)) else s
  | [], _, _ => by simp [freeFrom]
  | s :: r, k, 0 => by simp [freeFrom]
  | s :: r, k, j + 1 => by
    have ih := freeFrom_get vs r (k + 1) j
    have e : k + 1 + j = k + (j + 1) := by omega
    rw [e] at ih
    simpa [freeFrom] using ih
theorem freeFrom_len (vs : List Nat) : ∀ (ρ : Env) (k : Nat), (freeFrom vs k ρ).length = ρ.length
  | [], _ => rfl
  | s :: r, k => by simp [freeFrom, freeFrom_len vs r (k + 1)]
theorem freeAll_get (vs : List Nat) (ρ : Env) (j : Nat) : (freeAll vs ρ)[j]? = (ρ[j]?).map fun s => if vs.contains j then s.map (fun p => (false, p.2)) else s := by
  unfold freeAll
  split
  · rename_i c
    have : vs = [] := by simpa using c
    subst this
    cases ρ[j]? <;> simp
  · have := freeFrom_get vs ρ 0 j
    rwa [Nat.zero_add] at this
theorem freeAll_len (vs : List Nat) (ρ : Env) : (freeAll vs ρ).length = ρ.length := by
  unfold freeAll
  split
  · rfl
  · exact freeFrom_len vs ρ 0
theorem SR.unown (s : SR W H0 Z ρ σ H) (vs : List Nat) : SR W H0 (Zout Z ρ σ vs) (freeAll vs ρ) σ H where
  kp := s.kp
  ft := fun b f => ⟨s.ft b f, fun ⟨i, _, ⟨d, e1⟩, e2⟩ => by
    obtain ⟨c, e3, _, nf, _⟩ := s.ow i d e1
    rw [e2] at e3; cases e3; exact nf f⟩
  own := fun b z => s.own b z.1
  fr := fun j d q => by
    rw [freeAll_get] at q
    cases e : ρ[j]? with
    | none => rw [e] at q; cases q
    | some sl =>
      rw [e] at q
      have q' : (if vs.contains j = true then sl.map (fun p => (false, p.2)) else sl) = some (false, d) := Option.some.inj q
      split at q'
      · rename_i c
        cases sl with
        | none => cases q'
        | some p =>
          obtain ⟨own, d'⟩ := p
          have : d' = d := by simpa using q'
          subst this
          cases own with
          | false =>
            obtain ⟨v, e1, p⟩ := s.fr j d' e
            exact ⟨v, e1, rp_anti (fun b z => z.1) p⟩
          | true =>
            obtain ⟨a, e1, z, nf, o⟩ := s.ow j d' e
            exact ⟨_, e1, o.rp (fun z => z.2 ⟨j, by simpa using c, ⟨_, e⟩, e1⟩) fun b z => z.1⟩
      · subst q'
        obtain ⟨v, e1, p⟩ := s.fr j d e
        exact ⟨v, e1, rp_anti (fun b z => z.1) p⟩
  ow := fun j d q => by
    rw [freeAll_get] at q
    cases e : ρ[j]? with
    | none => rw [e] at q; cases q
    | some sl =>
      rw [e] at q
      have q' : (if vs.contains j = true then sl.map (fun p => (false, p.2)) else sl) = some (true, d) := Option.some.inj q
      split at q'
      · cases sl with
        | none => cases q'
        | some p => simp at q'
      · rename_i c
        subst q'
        obtain ⟨a, e1, z, nf, o⟩ := s.ow j d e
        refine ⟨a, e1, ⟨z, fun ⟨i, hi, ⟨d', e2⟩, e3⟩ => ?_⟩, nf, ?_⟩
        · have := s.ds i j d' d a e2 e e3 e1
          subst this
          exact c (by simpa using hi)
        · exact o.move (fun x e => e) fun l vs r => rps_anti (fun b z => z.1) r
  ds := fun j k d e a q1 q2 q3 q4 => by
    have own : ∀ j d, (freeAll vs ρ)[j]? = some (some (true, d)) → ∃ d', ρ[j]? = some (some (true, d')) := fun j d q => by
      rw [freeAll_get] at q
      cases e : ρ[j]? with
      | none => rw [e] at q; cases q
      | some sl =>
        rw [e] at q
        have q' : (if vs.contains j = true then sl.map (fun p => (false, p.2)) else sl) = some (true, d) := Option.some.inj q
        split at q'
        · cases sl with
          | none => cases q'
          | some p => simp at q'
        · subst q'; exact ⟨d, e⟩
    obtain ⟨d', r1⟩ := own j d q1
    obtain ⟨e', r2⟩ := own k e q2
    exact s.ds j k d' e' a r1 r2 q3 q4
  len := by rw [freeAll_len]; exact s.len
  on := fun j d a q1 q2 => by
    rw [freeAll_get] at q1
    cases e : ρ[j]? with
    | none => rw [e] at q1; cases q1
    | some sl =>
      rw [e] at q1
      have q' : (if vs.contains j = true then sl.map (fun p => (false, p.2)) else sl) = some (true, d) := Option.some.inj q1
      split at q'
      · cases sl with
        | none => cases q'
        | some p => simp at q'
      · subst q'; exact s.on j d a e q2
  nd := fun b q => ⟨⟨(s.nd b q).1, fun ⟨i, _, ⟨d, e1⟩, e2⟩ => (s.nd b q).2 (s.on i d b e1 e2)⟩, (s.nd b q).2⟩
theorem Zout.stp (vs : List Nat) : Stp Z H (Zout Z ρ σ vs) H := ⟨fun _ _ _ h => h, fun _ _ h => h, fun _ h => h, fun _ z => .inl z.1⟩
theorem setAll_len : ∀ {l : List Nat} {ds : List D} {ρ ρ1 : Env}, setAll l ds ρ = some ρ1 → ρ1.length = ρ.length
  | [], [], ρ, ρ1, e => by cases e; rfl
  | i :: l, d :: ds, ρ, ρ1, e => by
    have := setAll_len (show setAll l ds (ρ.set i (some (false, d))) = some ρ1 from e)
    rw [this, List.length_set]
  | [], _ :: _, _, _, e => by cases e
  | _ :: _, [], _, _, e => by cases e
theorem bindTg_len {tg : Tg} {ρ1 : Env} (e : bindTg tg d ρ = some ρ1) : ρ1.length = ρ.length := by
  cases tg with
  | name i => cases e; exact List.length_set
  | tup l =>
    cases d with
    | tup ds => exact setAll_len e
    | _ => cases e

theorem setAll_get : ∀ {l : List Nat} {ds : List D} {ρ ρ1 : Env}, setAll l ds ρ = some ρ1 → ∀ i, i ∉ l → ρ1[i]? = ρ[i]?
  | [], [], ρ, ρ1, e, _, _ => by cases e; rfl
  | j :: l, d :: ds, ρ, ρ1, e, i, h => by
    have := setAll_get (show setAll l ds (ρ.set j (some (false, d))) = some ρ1 from e) i fun q => h (List.mem_cons_of_mem _ q)
    rw [this, List.getElem?_set, if_neg (fun (e : j = i) => h (e ▸ List.mem_cons_self))]
  | [], _ :: _, _, _, e, _, _ => by cases e
  | _ :: _, [], _, _, e, _, _ => by cases e
theorem bindTg_get {tg : Tg} {ρ1 : Env} (e : bindTg tg d ρ = some ρ1) (i : Nat) (h : i ∉ tg.wr) : ρ1[i]? = ρ[i]? := by
  cases tg with
  | name j =>
    cases e
    rw [List.getElem?_set, if_neg (fun (e : j = i) => h (e ▸ List.mem_cons_self))]
  | tup l =>
    cases d with
    | tup ds => exact setAll_get e i h
    | _ => cases e
theorem tg_ids (tg : Tg) : tg.ids = tg.wr := by cases tg <;> rfl
/-! ### for -/
def bodyF {S : Type} (tg : Tg) (fb : Env → S → R S Fl) : D → Env → S → R S Fl := fun d ρ1 s2 => match bindTg tg d ρ1 with
  | some ρ2 => fb ρ2 s2
  | none => .bad
theorem es_for (hK : X.K = W.K) {tg : Tg} {vars fr wb : List Nat} {fs : Env → W.S → R W.S (List D)} {fb : Env → W.S → R W.S Fl} (hn2 : KeepsN fb) (hw2 : KeepsW wb fb) (hv : ∀ i ∈ vars, i ∈ fr ∨ i ∉ tg.wr ++ wb)
    (h : tES W Wx n (fr ++ (tg.wr ++ wb)) (fun ρ s => (fs ρ s).bind fun items s1 => forS (bodyF tg fb) items (freeAll fr ρ) s1) De σ H) : tFor (tSrc W Wx vars fr fs) (gOf X.K tg) (tES W Wx n wb fb) De σ H := by
  obtain ⟨H0, Z, ρ, st, hn, s, a, g⟩ := h
  refine ⟨H0, Z, ρ, st, s, a, (gos_bind g (s.len.symm.trans hn) s.kp).imp fun items st1 k J H1 os hos a1 kp it => ?_⟩
  obtain ⟨m, G, Y, St, wk, hm, hSt, hG, hY⟩ := it
  have s1 := (s.mono kp).unown fr
  have t0 : Stp Z H (Zout Z ρ σ fr) H1 := (kp.stp s.ft).trans (Zout.stp fr)
  let Zs := Zout Z ρ σ fr
  have sw : ∀ i ∈ tg.wr ++ wb, i ∈ fr ++ (tg.wr ++ wb) := fun i q => List.mem_append_right _ q
  have sb : ∀ i ∈ wb, i ∈ tg.wr ++ wb := fun i q => List.mem_append_right _ q
  let Pv : Nat → L2.St → Hp → Prop := fun i σ' H2 => ∃ Z' ρi sti, ρi.length = n ∧ SR W H0 Z' ρi σ' H2 ∧ W.At H2 sti ∧ Stp Zs H1 Z' H2 ∧ Fz (tg.wr ++ wb) σ σ' ∧ (∀ j, j ∉ tg.wr ++ wb → ρi[j]? = (freeAll fr ρ)[j]?) ∧ GoS W Wx n H0 (forS (bodyF tg fb) (items.drop i) ρi sti) (FlK W H0 Zs σ H1 (fr ++ (tg.wr ++ wb)) De)
  have stOf : ∀ {Z' ρi σ' H2}, SR W H0 Z' ρi σ' H2 → Stp Zs H1 Z' H2 → Fz (tg.wr ++ wb) σ σ' → (∀ j, j ∉ tg.wr ++ wb → ρi[j]? = (freeAll fr ρ)[j]?) → St Z' H2 := fun {Z' ρi σ' H2} sr t fz fe => hSt _ _ t fun p hp => by
    obtain ⟨i, hi, hf, e1, e2⟩ := hos p hp
    have nw : i ∉ tg.wr ++ wb := (hv i hi).elim (fun q => absurd q hf) id
    have e3 : ρi[i]? = some (some (true, .lst p.1)) := by
      rw [fe i nw, freeAll_get, e1]
      have : fr.contains i = false := by simpa using hf
      simp [this]
      exact hf
    obtain ⟨a', e4, _, _, o⟩ := sr.ow i _ e3
    rw [fz i nw, e2] at e4; cases e4
    exact o
  refine for_it wk Pv ⟨Zs, freeAll fr ρ, st1, (freeAll_len fr ρ).trans hn, s1, a1, .refl Zs H1, .refl _ _, fun _ _ => rfl, GoS.imp k fun w st q => q.mono t0 (.refl _ _) fun _ q => q⟩ (fun i σ' H2 _ ⟨Z', _, _, _, sr, _, t, fz, fe, _⟩ => hG Z' H2 (stOf sr t fz fe)) ?_ ?_
  · intro i x σ' H2 H3 hi ⟨Z', ρi, sti, hl, sr, ai, t, fz, fe, gi⟩ hy
    obtain ⟨hfr, d, hd, rd⟩ := hY i x Z' H2 H3 hi hy sr.ft (stOf sr t fz fe)
    have kp3 : Kp W H2 H3 := fresh_kp' hfr
    have a3 : W.At H3 sti := fresh_at hfr ai
    have dneq : items.drop i = d :: items.drop (i + 1) := by
      obtain ⟨hi', e⟩ := List.getElem?_eq_some_iff.mp hd
      rw [List.drop_eq_getElem_cons hi', e]
    rw [dneq] at gi
    have g1 := gos_bindS (show GoS W Wx n H0 ((bodyF tg fb d ρi sti).bind fun w s1 => match w with
      | .nx ρ1 => forS (bodyF tg fb) (items.drop (i + 1)) ρ1 s1
      | .ct ρ1 => forS (bodyF tg fb) (items.drop (i + 1)) ρ1 s1
      | .bk ρ1 => .ok (.nx ρ1) s1
      | .rt d => .ok (.rt d) s1) (FlK W H0 Zs σ H1 (fr ++ (tg.wr ++ wb)) De) from gi)
    have t3 : Stp Zs H1 Z' H3 := t.trans (kp3.stp sr.ft)
    cases hb : bindTg tg d ρi with
    | none =>
      have e : bodyF tg fb d ρi sti = .bad := by unfold bodyF; rw [hb]
      rw [e] at g1; exact g1.elim
    | some ρ2 =>
      have e : bodyF tg fb d ρi sti = fb ρ2 sti := by unfold bodyF; rw [hb]
      rw [e] at g1
      refine bindTg_ok hK hb (sr.mono kp3) rd fun σ1 sr1 hw => ?_
      have l2 : ρ2.length = n := (bindTg_len hb).trans hl
      have f1 : Fz (tg.wr ++ wb) σ σ1 := fz.trans (.tg hw fun i q => List.mem_append_left _ (tg_ids tg ▸ q))
      refine ⟨H0, Z', ρ2, sti, l2, sr1, a3, ?_⟩
      cases hf : fb ρ2 sti with
      | bad => rw [hf] at g1; exact g1.elim
      | ex x s2 => rw [hf] at g1; exact g1
      | ok w s2 =>
        rw [hf] at g1
        have hw := hn2 _ _ _ _ hf
        have hq := hw2 _ _ _ _ hf
        rw [l2] at hw
        have fe2 : ∀ ρ3 : Env, (∀ j, j ∉ wb → ρ3[j]? = ρ2[j]?) → ∀ j, j ∉ tg.wr ++ wb → ρ3[j]? = (freeAll fr ρ)[j]? := fun ρ3 h j hj => by
          rw [h j fun q => hj (List.mem_append_right _ q), bindTg_get hb j fun q => hj (List.mem_append_left _ q), fe j hj]
        show FlK W H0 Z' σ1 H3 wb _ w s2
        cases w with
        | nx ρ3 => exact fun σ4 H4 Z4 s4 a4 t4 z4 => ⟨Z4, ρ3, s2, hw, s4, a4, t3.trans t4, f1.trans (z4.mono sb), fe2 ρ3 hq, g1⟩
        | ct ρ3 => exact fun σ4 H4 Z4 s4 a4 t4 z4 => ⟨Z4, ρ3, s2, hw, s4, a4, t3.trans t4, f1.trans (z4.mono sb), fe2 ρ3 hq, g1⟩
        | bk ρ3 =>
          have g2 : ∀ σ' H' Z', SR W H0 Z' ρ3 σ' H' → W.At H' s2 → Stp Zs H1 Z' H' → Fz (fr ++ (tg.wr ++ wb)) σ σ' → De.nx σ' H' := g1
          exact fun σ4 H4 Z4 s4 a4 t4 z4 => g2 σ4 H4 Z4 s4 a4 (t3.trans t4) ((f1.trans (z4.mono sb)).mono sw)
        | rt d =>
          have g2 : ∀ H' v, W.At H' s2 → Kp W H0 H' → Rt W W.xs H0 H' d v → De.rt v H' := g1
          exact g2
  · intro σ' H2 ⟨Z', ρi, sti, hl, sr, ai, t, fz, fe, gi⟩
    have e0 : items.drop m = [] := by rw [hm]; exact List.drop_length
    rw [e0] at gi
    have g2 : ∀ σ' H' Z', SR W H0 Z' ρi σ' H' → W.At H' sti → Stp Zs H1 Z' H' → Fz (fr ++ (tg.wr ++ wb)) σ σ' → De.nx σ' H' := gi
    exact g2 σ' H2 Z' sr ai t (fz.mono sw)

/-! ### while -/
theorem es_whl {ft : Env → W.S → R W.S Bool} {fb : Env → W.S → R W.S Fl} {N : Nat} (hn2 : KeepsN fb)
    (h : tES W Wx n wr (fun ρ s => whlS ft fb N ρ s) De σ H) : tWhile (tEvT W Wx ft) (tES W Wx n wr fb) De σ H := by
  obtain ⟨H0, Z, ρ, st, hn, s, a, g⟩ := h
  refine ⟨fun m σ' H2 => ∃ Z' ρi sti, ρi.length = n ∧ SR W H0 Z' ρi σ' H2 ∧ W.At H2 sti ∧ Stp Z H Z' H2 ∧ Fz wr σ σ' ∧ GoS W Wx n H0 (whlS ft fb m ρi sti) (FlK W H0 Z σ H wr De), ⟨N, Z, ρ, st, hn, s, a, .refl Z H, .refl _ _, g⟩, ?_⟩
  intro m σ' H2 ⟨Z', ρi, sti, hl, sr, ai, t, fz, gi⟩
  cases m with
  | zero => exact gi.elim
  | succ m =>
    refine ⟨H0, Z', ρi, sti, sr, ai, (gos_bind (show GoS W Wx n H0 ((ft ρi sti).bind _) _ from gi) (sr.len.symm.trans hl) sr.kp).imp fun b s1 k H3 a3 kp3 => ?_⟩
    have sr3 := sr.mono kp3
    have t3 := t.trans (kp3.stp sr.ft)
    cases b with
    | false =>
      refine iteF ?_
      have g2 : ∀ σ' H' Z', SR W H0 Z' ρi σ' H' → W.At H' s1 → Stp Z H Z' H' → Fz wr σ σ' → De.nx σ' H' := k
      exact g2 σ' H3 Z' sr3 a3 t3 fz
    | true =>
      refine iteT ⟨fun σ4 H4 => ∃ Z4 ρ4 st4, ρ4.length = n ∧ SR W H0 Z4 ρ4 σ4 H4 ∧ W.At H4 st4 ∧ Stp Z H Z4 H4 ∧ Fz wr σ σ4 ∧ GoS W Wx n H0 (whlS ft fb m ρ4 st4) (FlK W H0 Z σ H wr De), fun σ4 H4 q => ⟨m, Nat.lt_succ_self m, q⟩, H0, Z', ρi, s1, hl, sr3, a3, ?_⟩
      have g1 := gos_bindS (show GoS W Wx n H0 ((fb ρi s1).bind _) _ from k)
      cases hf : fb ρi s1 with
      | bad => rw [hf] at g1; exact g1.elim
      | ex x s2 => rw [hf] at g1; exact g1
      | ok w s2 =>
        rw [hf] at g1
        have hw := hn2 _ _ _ _ hf
        rw [hl] at hw
        show FlK W H0 Z' σ' H3 wr _ w s2
        cases w with
        | nx ρ3 => exact fun σ4 H4 Z4 s4 a4 t4 z4 => ⟨Z4, ρ3, s2, hw, s4, a4, t3.trans t4, fz.trans z4, g1⟩
        | ct ρ3 => exact fun σ4 H4 Z4 s4 a4 t4 z4 => ⟨Z4, ρ3, s2, hw, s4, a4, t3.trans t4, fz.trans z4, g1⟩
        | bk ρ3 =>
          have g2 : ∀ σ' H' Z', SR W H0 Z' ρ3 σ' H' → W.At H' s2 → Stp Z H Z' H' → Fz wr σ σ' → De.nx σ' H' := g1
          exact fun σ4 H4 Z4 s4 a4 t4 z4 => g2 σ4 H4 Z4 s4 a4 (t3.trans t4) (fz.trans z4)
        | rt d =>
          have g2 : ∀ H' v, W.At H' s2 → Kp W H0 H' → Rt W W.xs H0 H' d v → De.rt v H' := g1
          exact g2

/-! ### raise -/
/-- what the __init__ of an own error class promises: its fields, all handed in, stand in its own dict -/
def spI (C : Addr) (names : List PySem.Str) : Sp := fun vs H Q _ => ∃ (a : Addr) (ws : List V), vs = .ref a :: ws ∧ ws.length = names.length ∧ H a = some (exo a C none) ∧
  ∀ (dx : Addr) (fs : List (PySem.Str × V)) (H' : Hp), H dx = none → dx ≠ a → H' dx = some (exd dx fs) → H' a = some (exo a C (some dx)) → (∀ b, b ≠ a → b ≠ dx → H' b = H b) → (∀ (i : Nat) x v, names[i]? = some x → ws[i]? = some v → fs.lookup x = some v) → Q .non H'
theorem es_rse {C : Addr} {names : List PySem.Str} {c : Nat} {f : Env → W.S → R W.S (List D)} (hC : W.eC c = some (C, names)) (hl : ∀ ρ s l s', f ρ s = .ok l s' → l.length = names.length) (hs : names.length ≤ 900)
    (h : tES W Wx n wr (fun ρ s => (f ρ s).bind fun l s1 => if plains l then .ex (.mk c names l) s1 else .bad) De σ H) : tMkO C (spI C names) [] (tEvs W Wx (qBs W) f) σ H fun cls d H' => Wx cls d σ H' := by
  obtain ⟨H0, Z, ρ, st, hn, s, a, g⟩ := h
  have g1 := gos_bind g (s.len.symm.trans hn) s.kp
  refine ⟨H0, Z, ρ, st, s, a, ?_⟩
  cases hf : f ρ st with
  | bad => rw [hf] at g1; exact g1.elim
  | ex x s2 => rw [hf] at g1; exact g1
  | ok l s1 =>
    rw [hf] at g1
    have ll := hl _ _ _ _ hf
    intro H1 vs a1 kp b
    have sr := s.mono kp
    have rv := b.rd sr
    have lv := Rps.length rv
    have g2 : GoS W Wx n H0 (if plains l = true then R.ex (.mk c names l) s1 else .bad) (FlK W H0 Z σ H wr De) := g1
    split at g2
    · rename_i cp
      refine ⟨by omega, fun e he => ⟨e, vs, by rw [List.append_nil], lv.trans ll, upd_same, fun dx fs H' h1 h2 h3 h4 h5 h6 => ⟨rfl, dx, fs, h4, h3, ?_, ?_⟩⟩⟩
      · rw [upd_ne h2] at h1; exact h1
      · rw [upd_ne h2] at h1
        have k2 : Kp W H1 (upd (del H' e) dx (.xd fs)) := by
          have at_ : ∀ b, b ≠ e → b ≠ dx → upd (del H' e) dx (.xd fs) b = H1 b := fun b n1 n2 => by rw [upd_ne n2, del_ne n1, h5 b n1 n2, upd_ne n1]
          have ne1 : ∀ b, H1 b ≠ none → b ≠ e := fun b n z => n (by rw [z]; exact he)
          have ne2 : ∀ b, H1 b ≠ none → b ≠ dx := fun b n z => n (by rw [z]; exact h1)
          refine ⟨fun b o _ q => ?_, fun b xs q => ?_, fun b q => ?_⟩
          · rw [at_ b (ne1 b (by rw [q]; simp)) (ne2 b (by rw [q]; simp))]; exact q
          · rw [at_ b (ne1 b (by rw [q]; simp)) (ne2 b (by rw [q]; simp))]; exact q
          · rw [at_ b (ne1 b q) (ne2 b q)]; exact q
        refine g2 σ _ dx C (s.len.symm.trans hn) ?_ ((s.kp.trans kp).trans k2) ⟨vs, fs, hC, by rw [lv, ll], upd_same, h6, cp, k2.rps (fun b f => f) rv⟩
        refine W.stk a1 fun b f => ?_
        obtain ⟨xs, q⟩ := W.lists a1 f
        have n1 : b ≠ e := fun z => by rw [z, he] at q; cases q
        have n2 : b ≠ dx := fun z => by rw [z, h1] at q; cases q
        rw [upd_ne n2, del_ne n1, h5 b n1 n2, upd_ne n1]
    · exact g2.elim
end
end Ev
end
section
set_option Elab.async false
set_option linter.all false
set_option maxRecDepth 100000
set_option maxHeartbeats 1000000
namespace Ev
open PySem PySem.Spec PyProof.Rows L2

/-! ### the __init__ of an own error class -/
section
variable {P : Program} {w : World} {K : PySem.W.Frag} {mg : PySem.Str → Option Value} {base : Heap}
theorem put_at {H H' : Hp} {a dx : Addr} (n : dx ≠ a) : upd (upd H dx u) a o dx = some u := by rw [upd_ne n, upd_same]
theorem init2_ok {q f1 f2 : PySem.Str} {st : Stmt} {f C : Addr} {fd : FuncData} {p1 p2 p3 p4 p5 p6 p7 p8 : Pos} (F : Fun K "__init__" q st f fd) (T : OexC K C) (S : FnScope ["self", f1, f2] ["self", f1, f2] (defScope st))
    (hb : defBody st = [.Assign [.Attribute (.Name "self" p1) f1 p2] (.Name f1 p3) p4, .Assign [.Attribute (.Name "self" p5) f2 p6] (.Name f2 p7) p8])
    (v0 : Vis (defScope st) "self") (v1 : Vis (defScope st) f1) (v2 : Vis (defScope st) f2) (d1 : (f1 == ("__debug__" : PySem.Str)) = false) (d2 : (f2 == ("__debug__" : PySem.Str)) = false) (c1 : (f1 == ("__classdict__" : PySem.Str)) = false) (c2 : (f2 == ("__classdict__" : PySem.Str)) = false)
    (n1 : PySem.W.findIn K (.ref C) f1 = some none) (n2 : PySem.W.findIn K (.ref C) f2 = some none) (ne : f1 ≠ f2) : FnOk P w K mg base CX0 1 f fd ["self", f1, f2] (spI C [f1, f2]) := by
  refine F.ok S (fun vs H Q E h => ?_) (fun cdv A outer s H vs Q E hr h => ?_)
  · obtain ⟨a, ws, rfl, hl, _⟩ := h
    simpa using hl
  · obtain ⟨a, ws, rfl, hl, ha, k⟩ := h
    match ws, hl with
    | [x, y], _ =>
    rw [hb]
    refine ⟨_, pss_cons (ps_ost (pv 0 rfl v0) (pv 1 rfl v1 d1 c1)) (pss_one (ps_ost (pv 0 rfl v0) (pv 2 rfl v2 d2 c2))), ?_⟩
    · refine ⟨x, rfl, .ref a, rfl, a, C, rfl, T, n1, .inl ⟨ha, fun dx hdx nd => ?_⟩⟩
      refine ⟨y, rfl, .ref a, rfl, a, C, rfl, T, n2, .inr ⟨dx, [(f1, x)], upd_same, by rw [upd_ne nd, upd_same], (by show 1 ≤ 900; decide), ?_⟩⟩
      refine k dx _ _ hdx nd upd_same (by rw [upd_ne (Ne.symm nd), upd_same]) (fun b h1 h2 => by rw [upd_ne h2, upd_ne h1, upd_ne h2]) fun i z v e1 e2 => ?_
      match i with
      | 0 =>
        have : f1 = z := by simpa using e1
        have : x = v := by simpa using e2
        subst this; subst z
        simp [List.lookup, beq_eq_false_iff_ne.mpr ne]
      | 1 =>
        have : f2 = z := by simpa using e1
        have : y = v := by simpa using e2
        subst this; subst z
        simp [List.lookup]
      | i + 2 => simp at e1
theorem init1_ok {q f1 : PySem.Str} {st : Stmt} {f C : Addr} {fd : FuncData} {p1 p2 p3 p4 : Pos} (F : Fun K "__init__" q st f fd) (T : OexC K C) (S : FnScope ["self", f1] ["self", f1] (defScope st))
    (hb : defBody st = [.Assign [.Attribute (.Name "self" p1) f1 p2] (.Name f1 p3) p4])
    (v0 : Vis (defScope st) "self") (v1 : Vis (defScope st) f1) (d1 : (f1 == ("__debug__" : PySem.Str)) = false) (c1 : (f1 == ("__classdict__" : PySem.Str)) = false)
    (n1 : PySem.W.findIn K (.ref C) f1 = some none) : FnOk P w K mg base CX0 1 f fd ["self", f1] (spI C [f1]) := by
  refine F.ok S (fun vs H Q E h => ?_) (fun cdv A outer s H vs Q E hr h => ?_)
  · obtain ⟨a, ws, rfl, hl, _⟩ := h
    simpa using hl
  · obtain ⟨a, ws, rfl, hl, ha, k⟩ := h
    match ws, hl with
    | [x], _ =>
    rw [hb]
    refine ⟨_, pss_one (ps_ost (pv 0 rfl v0) (pv 1 rfl v1 d1 c1)), ?_⟩
    · refine ⟨x, rfl, .ref a, rfl, a, C, rfl, T, n1, .inl ⟨ha, fun dx hdx nd => ?_⟩⟩
      refine k dx _ _ hdx nd (by rw [upd_ne nd, upd_same]) upd_same (fun b h1 h2 => by rw [upd_ne h1, upd_ne h2]) fun i z v e1 e2 => ?_
      match i with
      | 0 =>
        have : f1 = z := by simpa using e1
        have : x = v := by simpa using e2
        subst this; subst z
        simp [List.lookup]
      | i + 1 => simp at e1
end

/-! ### try -/
/-- what must be known of an error class whose fields are read -/
structure XfOk (K : PySem.W.Frag) (C : Addr) (fs : List PySem.Str) : Prop where
  cls : XfC K C
  no : ∀ f ∈ fs, PySem.W.findIn K (.ref C) f = some none
def IXs.flds : IXs → List PySem.Str
  | .nil => []
  | .c _ r => r.flds
  | .fld x r => x :: r.flds
  | .isb _ r => r.flds
def IXr.flds : IXr → List PySem.Str
  | .tup es => es.flds
  | .c _ => []
def IXp.flds : IXp → List PySem.Str
  | .ret r => r.flds
  | .ite _ r p => r.flds ++ p.flds
  | .skip _ _ p => p.flds
def IXs.len : IXs → Nat
  | .nil => 0
  | .c _ r => r.len + 1
  | .fld _ r => r.len + 1
  | .isb _ r => r.len + 1
def IXr.short : IXr → Bool
  | .tup es => decide (es.len ≤ 1000)
  | .c _ => true
def IXp.short : IXp → Bool
  | .ret r => r.short
  | .ite _ r p => r.short && p.short
  | .skip _ _ p => p.short
/-- the error's own name is not stored -/
def IXp.ne (i : Nat) : IXp → Bool
  | .ret _ => true
  | .ite _ _ p => p.ne i
  | .skip j _ p => decide (j ≠ i) && p.ne i
/-- the value of a written constant -/
def cV : D → V
  | .non => .non
  | .bl b => .bl b
  | .int i => .int i
  | .str x => .str x
  | _ => .non
def xsTA (k i : Nat) (a : Addr) (cls : Value) (d : Option Addr) (C : Addr) : IXs → TA
  | .nil => tNil
  | .c x r => tCons (tC (cV x)) (xsTA k i a cls d C r)
  | .fld f r => tCons (tXf a cls d C f (tVar i)) (xsTA k i a cls d C r)
  | .isb t r => tCons (tC (.bl (t.ev k))) (xsTA k i a cls d C r)
def xrTE (k i : Nat) (a : Addr) (cls : Value) (d : Option Addr) (C : Addr) : IXr → TE
  | .tup es => tTup (xsTA k i a cls d C es)
  | .c x => tC (cV x)
def xpTS (k i : Nat) (a : Addr) (cls : Value) (d : Option Addr) (C : Addr) : IXp → TS
  | .ret r => tRet (xrTE k i a cls d C r)
  | .ite t r p => fun De σ H => if t.ev k = true then tRet (xrTE k i a cls d C r) De σ H else xpTS k i a cls d C p De σ H
  | .skip j t p => fun De σ H => xpTS k i a cls d C p De (σ.set j (some (.bl (t.ev k)))) H
def tsOf (W : Wd) (n i : Nat) (p : IXp) : Addr → Value → Option Addr → TS := fun a cls d De σ H => ∃ (k : Nat) (C : Addr) (ns : List PySem.Str) (dx : Addr) (l : List (PySem.Str × V)), cls = .ref C ∧ d = some dx ∧ W.eC k = some (C, ns) ∧ XfOk W.K C p.flds ∧
  σ.length = n ∧ σ[i]? = some (some (.ref a)) ∧ H dx = some (.xd l) ∧ xpTS k i a cls d C p De σ H
section
variable {X : Cx} {W : Wd} {Wx : WX} {σ : L2.St} {H H' H0 H1 : Hp} {Z Z' Zs : Addr → Prop} {ρ : Env} {st : W.S} {d1 d2 d : D} {v1 v2 v : V} {n : Nat} {De : Ends} {α β : Type}
theorem lookup_zip {f : PySem.Str} : ∀ {ns : List PySem.Str} {fs : List D}, (ns.zip fs).lookup f = some d → ∃ i : Nat, ns[i]? = some f ∧ fs[i]? = some d
  | [], _, e => by simp at e
  | _ :: _, [], e => by simp at e
  | n :: ns, x :: fs, e => by
    rw [List.zip_cons_cons, List.lookup_cons] at e
    cases c : f == n with
    | true =>
      rw [c] at e
      have hf : f = n := by simpa using c
      cases e
      exact ⟨0, by rw [hf]; rfl, rfl⟩
    | false =>
      rw [c] at e
      obtain ⟨i, e1, e2⟩ := lookup_zip e
      exact ⟨i + 1, by simpa using e1, by simpa using e2⟩
theorem scal_cV (h : d.scalar = true) : Rp W Z H d (cV d) ∧ d.plain = true := by
  cases d <;> first | exact ⟨rfl, rfl⟩ | (simp [D.scalar] at h)
theorem ex_fld {c : Nat} {dx C : Addr} {ns : List PySem.Str} {fs : List D} {f : PySem.Str} (hx : ExAt W H (.mk c ns fs) dx C) (e : (ns.zip fs).lookup f = some d) : ∃ l v, H dx = some (.xd l) ∧ l.lookup f = some v ∧ Rp W W.foot H d v ∧ d.plain = true := by
  obtain ⟨vs, l, _, hl, hd, hk, hp, hr⟩ := hx
  obtain ⟨i, e1, e2⟩ := lookup_zip e
  obtain ⟨v, e3, p⟩ := hr.get e2
  refine ⟨l, v, hd, hk i f v e1 e3, p, ?_⟩
  have : ∀ (fs : List D) (i : Nat), plains fs = true → fs[i]? = some d → d.plain = true := by
    intro fs
    induction fs with
    | nil => intro i _ e; simp at e
    | cons x r ih =>
      intro i hp e
      have hp' : x.plain = true ∧ plains r = true := by simpa [plains] using hp
      cases i with
      | zero => have : x = d := by simpa using e
                rw [← this]; exact hp'.1
      | succ i => exact ih i hp'.2 (by simpa using e)
  exact this fs i hp e2
theorem xs_ok {c i : Nat} {a dx C : Addr} {ns : List PySem.Str} {fs : List D} (hx : ExAt W H (.mk c ns fs) dx C) (hs : σ[i]? = some (some (.ref a))) : ∀ {es : IXs} {l : List D} {Q : List V → Hp → Prop}, xsD c ns fs es = some l → (∀ vs, Rps W W.foot H l vs → plains l = true → Q vs H) → xsTA c i a (.ref C) (some dx) C es σ H Q
  | .nil, l, Q, e, k => by
    cases e; exact k [] rfl rfl
  | .c x r, l, Q, e, k => by
    unfold xsD at e
    split at e
    · rename_i sc
      cases er : xsD c ns fs r with
      | none => rw [er] at e; cases e
      | some l' =>
        rw [er] at e
        cases e
        obtain ⟨p, q⟩ := scal_cV (W := W) (Z := W.foot) (H := H) sc
        exact xs_ok hx hs (es := r) er fun vs r1 r2 => k _ ⟨_, vs, rfl, p, r1⟩ (by simp [plains, q, r2])
    · cases e
  | .fld f r, l, Q, e, k => by
    unfold xsD at e
    cases ef : (ns.zip fs).lookup f with
    | none => simp [ef] at e
    | some d =>
      cases er : xsD c ns fs r with
      | none => simp [ef, er] at e
      | some l' =>
        have el : l = d :: l' := by simpa [ef, er] using e.symm
        subst el
        obtain ⟨lx, v, h1, h2, p, q⟩ := ex_fld hx ef
        exact ⟨.ref a, hs, rfl, rfl, dx, lx, v, rfl, h1, h2, xs_ok hx hs (es := r) er fun vs r1 r2 => k _ ⟨_, vs, rfl, p, r1⟩ (by simp [plains, q, r2])⟩
  | .isb t r, l, Q, e, k => by
    unfold xsD at e
    cases er : xsD c ns fs r with
    | none => rw [er] at e; cases e
    | some l' =>
      rw [er] at e
      cases e
      exact xs_ok hx hs (es := r) er fun vs r1 r2 => k _ ⟨_, vs, rfl, rfl, r1⟩ (by simp [plains, D.plain, r2])
theorem mapS {α β : Type} {f : α → β} {o : Option α} {b : β} (h : o.map f = some b) : ∃ a, o = some a ∧ f a = b := by
  cases o with
  | none => cases h
  | some a => exact ⟨a, rfl, Option.some.inj h⟩
theorem xsD_len {k : Nat} {ns : List PySem.Str} {fs : List D} : ∀ {es : IXs} {l : List D}, xsD k ns fs es = some l → l.length = es.len
  | .nil, l, e => by cases e; rfl
  | .c x r, l, e => by
    unfold xsD at e
    split at e
    · obtain ⟨l', e2, rfl⟩ := mapS e
      show l'.length + 1 = r.len + 1
      rw [xsD_len e2]
    · cases e
  | .fld f r, l, e => by
    unfold xsD at e
    split at e
    · rename_i e1 e2
      cases e
      rw [List.length_cons, xsD_len e2]; rfl
    · cases e
  | .isb t r, l, e => by
    obtain ⟨l', e2, rfl⟩ := mapS (show (xsD k ns fs r).map _ = some l from e)
    show l'.length + 1 = r.len + 1
    rw [xsD_len e2]
theorem xr_ok {c i : Nat} {a dx C : Addr} {ns : List PySem.Str} {fs : List D} (at0 : W.At H st) (hx : ExAt W H (.mk c ns fs) dx C) (hs : σ[i]? = some (some (.ref a))) {r : IXr} (hl : r.short = true) (e : xrD c ns fs r = some d)
    (k : ∀ H' v, W.At H' st → Kp W H H' → Rt W W.xs H0 H' d v → De.rt v H') : tRet (xrTE c i a (.ref C) (some dx) C r) De σ H := by
  cases r with
  | tup es =>
    obtain ⟨l, ex, rfl⟩ := mapS (show (xsD c ns fs es).map D.tup = some d from e)
    have hl' : es.len ≤ 1000 := by simpa [IXr.short] using hl
    refine xs_ok hx hs ex fun us r1 r2 => ⟨by rw [Rps.length r1, xsD_len ex]; exact Nat.le_trans hl' (by decide), fun p hp => ?_⟩
    exact k _ _ (At.new at0 hp) (.new hp) ⟨p, us, rfl, .inl upd_same, rps_plain _ _ r2 ((Kp.new (W := W) hp).rps (fun _ f => f) r1)⟩
  | c x =>
    have e' : (if x.scalar then some x else none) = some d := e
    split at e'
    · rename_i sc
      cases e'
      obtain ⟨p, q⟩ := scal_cV (W := W) (Z := W.foot) (H := H) sc
      exact k _ _ at0 (.refl W H) (rt_plain q p)
    · cases e'
theorem xp_ok {c i : Nat} {a dx C : Addr} {ns : List PySem.Str} {fs : List D} (at0 : W.At H st) (hx : ExAt W H (.mk c ns fs) dx C) : ∀ {p : IXp} {σ : L2.St}, σ[i]? = some (some (.ref a)) → p.short = true → p.ne i = true → xpD c ns fs p = some d →
    (∀ H' v, W.At H' st → Kp W H H' → Rt W W.xs H0 H' d v → De.rt v H') → xpTS c i a (.ref C) (some dx) C p De σ H
  | .ret r, σ, hs, hl, _, e, k => xr_ok at0 hx hs hl e k
  | .ite t r p, σ, hs, hl, hn, e, k => by
    have hl' : r.short = true ∧ p.short = true := by simpa [IXp.short] using hl
    unfold xpD at e
    show if t.ev c = true then tRet (xrTE c i a (.ref C) (some dx) C r) De σ H else xpTS c i a (.ref C) (some dx) C p De σ H
    split at e
    · rename_i ct; rw [if_pos ct]; exact xr_ok at0 hx hs hl'.1 e k
    · rename_i ct; rw [if_neg ct]; exact xp_ok at0 hx (p := p) hs hl'.2 hn e k
  | .skip j t p, σ, hs, hl, hn, e, k => by
    have hn' : ¬ j = i ∧ p.ne i = true := by simpa [IXp.ne] using hn
    show xpTS c i a (.ref C) (some dx) C p De (σ.set j (some (.bl (t.ev c)))) H
    exact xp_ok at0 hx (p := p) (by rw [List.getElem?_set, if_neg hn'.1]; exact hs) hl hn'.2 e k
/-- a try, read -/
theorem es_try {i : Nat} {cs : List Nat} {p : IXp} {f : Env → W.S → R W.S Fl} {c : Value} (hi : i < n) (hL : p.short = true) (hN : p.ne i = true)
    (hm : ∀ c1 C ns, W.eC c1 = some (C, ns) → PySem.W.exmOne W.K (.ref C) c = some (cs.contains c1)) (hf : ∀ c1 C ns, W.eC c1 = some (C, ns) → cs.contains c1 = true → XfOk W.K C p.flds)
    {wr : List Nat} (h : tES W Wx n wr (fun ρ s => tryF cs p (f ρ s)) De σ H) : tES W (wAs W.K c i (tsOf W n i p) Wx De) n wr f De σ H := by
  obtain ⟨H0, Z, ρ, st, hn, s, a, g⟩ := h
  refine ⟨H0, Z, ρ, st, hn, s, a, ?_⟩
  dsimp only at g
  cases hr : f ρ st with
  | bad => rw [hr] at g; exact g.elim
  | ok w s1 => rw [hr] at g; exact g
  | ex e s1 =>
    rw [hr] at g
    obtain ⟨c1, ns, fs⟩ := e
    intro σ' H' dx C hl a' k x
    obtain ⟨vs, l, hC, _, hd, _⟩ := id x
    have g2 : GoS W Wx n H0 (if cs.contains c1 then (match xpD c1 ns fs p with
        | some d => R.ok (Fl.rt d) s1
        | none => .bad) else .ex (.mk c1 ns fs) s1) (FlK W H0 Z σ H wr De) := g
    refine ⟨_, hm c1 C ns hC, fun hb b hb0 => ?_, fun hb => ?_⟩
    · rw [hb, if_pos rfl] at g2
      have ok := hf c1 C ns hC hb
      have hs : (σ'.set i (some (.ref b)))[i]? = some (some (.ref b)) := by rw [List.getElem?_set, if_pos rfl, if_pos (by omega)]
      cases ex : xpD c1 ns fs p with
      | none => rw [ex] at g2; exact g2.elim
      | some d =>
        rw [ex] at g2
        have g3 : ∀ H' v, W.At H' s1 → Kp W H0 H' → Rt W W.xs H0 H' d v → De.rt v H' := g2
        exact ⟨c1, C, ns, dx, l, rfl, rfl, hC, ok, by rw [List.length_set]; exact hl, hs, hd, xp_ok (De := ⟨_, _, _, _⟩) a' x hs hL hN ex fun H2 v a2 k2 r => g3 H2 v a2 (k.trans k2) r⟩
    · rw [hb, if_neg (by decide)] at g2
      exact g2 σ' H' dx C hl a' k x
end
end Ev
end
section
set_option Elab.async false
set_option linter.all false
set_option maxRecDepth 100000
set_option maxHeartbeats 2000000
namespace Ev
open PySem PySem.Spec PyProof.Rows L2

theorem _root_.L2.Room.units65 {k : Nat} {A : Around} (r : Room k A) : A.units + 65 < cLine := by have := r.un; omega
/-- a def of the text that keeps the meaning m -/
def FOk (X : Cx) (W : Wd) (k : Nat) (x : PySem.Str) (n : Nat) (m : Fn W.S) : Prop :=
  (∀ ds s, m ds s ≠ .bad → ds.length = n) ∧ ∃ (f : Addr) (fd : FuncData) (ps : List PySem.Str), ps.length = n ∧ X.mg x = some (.ref f) ∧ PySem.W.keepIn X.K (.ref f) = true ∧ Binds X.K fd ps [] ∧
    FnG X.prog X.w X.K X.mg X.base (L2.CX X.prog X.w) k f fd ps (spF W m)
/-- how a call with keywords finds the parameters -/
def KwOk (X : Cx) (W : Wd) (k : Nat) (x : PySem.Str) (n : Nat) (ks : List PySem.Str) (perm : List Nat) (m : Fn W.S) : Prop :=
  ∃ (f : Addr) (fd : FuncData) (ps : List PySem.Str), X.mg x = some (.ref f) ∧ PySem.W.keepIn X.K (.ref f) = true ∧ FnG X.prog X.w X.K X.mg X.base (L2.CX X.prog X.w) k f fd ps (spF W m) ∧
    ∀ (us ws : List Value), us.length = n → ws.length = ks.length → bindArgs fd ⟨us, ks.zip ws⟩ = pure (ps.zip (permL perm (us ++ ws)))
/-- the names of the built-ins that the language knows -/
def bltNames : List PySem.Str := ["len", "abs", "int", "sum", "min", "max", "any", "all", "list", "tuple", "sorted", "isinstance", "bool", "str", "range", "enumerate", "zip", "reversed", "repr", "set"]
/-- a context in which expressions of a def are read -/
structure CK (W : Wd) (Γ : List (Fn W.S)) (c : Cfg) (k : Nat) (sc ws : Scope) (Wx : WX) (X : Cx) : Prop where
  hK : X.K = W.K
  calm : X.calm = true
  room : Room k X.A
  gd : X.A.guards = some []
  hN : X.N = c.N
  nd : c.N.Nodup
  hsc : X.env.scope = sc
  fnk : sc.kind = .function
  wl : ∀ x, ws.names.lookup x = some .local → sc.names.lookup x = some .local
  wc : ∀ x, ws.names.lookup x = some .cell → sc.names.lookup x = some .cell ∧ X.fn x = true
  pass : ∀ σ, PassesAt (L2.CX X.prog X.w) X σ (WE Wx σ)
  fns : ∀ x i m, fnOfN x c.fns = some (i, m) → ∃ F, Γ[i]? = some F ∧ FOk X W k x m F
  kw : ∀ x n ks i perm, kwOf x n ks c.kwp = some (i, perm) → ∃ F, Γ[i]? = some F ∧ KwOk X W k x n ks perm F
  blt : ∀ x ∈ bltNames, fnOfN x c.fns = none → X.mg x = none
  gc : c.gc = true → X.mg "gcd" = some (.builtin "math.gcd")
section
variable {X : Cx} {W : Wd} {Γ : List (Fn W.S)} {c : Cfg} {k : Nat} {sc ws : Scope} {Wx : WX}
theorem CK.vis (C : CK W Γ c k sc ws Wx X) {x : PySem.Str} (h : vis sc x = true) : Vis X.env.scope x := by
  rw [C.hsc]
  unfold Ev.vis at h
  split at h
  · rename_i e; exact .inl e
  · rename_i e; exact .inr (.inl e)
  · rename_i e; exact .inr (.inr e)
  · cases h
theorem CK.gl (C : CK W Γ c k sc ws Wx X) {x : PySem.Str} (h : isGl sc x = true) : Gl X x := by
  unfold isGl at h
  split at h
  · rename_i e
    show X.env.scope.names.lookup x = _
    rw [C.hsc]; exact e
  · cases h
theorem CK.loc (C : CK W Γ c k sc ws Wx X) {x : PySem.Str} (h : wrt ws x = true) : Loc X.env.scope x ∧ (X.fn x = true ∨ X.env.scope.names.lookup x = some .local) := by
  rw [C.hsc]
  unfold wrt at h
  split at h
  · rename_i e; have := C.wl x e; exact ⟨.inl this, .inr this⟩
  · rename_i e; have := C.wc x e; exact ⟨.inr this.1, .inl this.2⟩
  · cases h
theorem nmOk_1 {x : PySem.Str} (h : nmOk x = true) : (x == ("__debug__" : PySem.Str)) = false := by
  unfold nmOk at h; rw [Bool.and_eq_true] at h; simpa using h.1
theorem nmOk_2 {x : PySem.Str} (h : nmOk x = true) : (x == ("__classdict__" : PySem.Str)) = false := by
  unfold nmOk at h; rw [Bool.and_eq_true] at h; simpa using h.2
theorem ixOf_get {x : PySem.Str} : ∀ {N : List PySem.Str} {i : Nat}, ixOf x N = some i → N[i]? = some x
  | [], _, e => by cases e
  | y :: r, i, e => by
    unfold ixOf at e
    split at e
    · rename_i c; cases e; rw [c]; rfl
    · cases q : ixOf x r with
      | none => rw [q] at e; cases e
      | some j => rw [q] at e; cases e; exact ixOf_get (N := r) q
theorem CK.ix (C : CK W Γ c k sc ws Wx X) {x : PySem.Str} {i : Nat} (h : ixOf x c.N = some i) : X.N[i]? = some x := by rw [C.hN]; exact ixOf_get h
theorem CK.nd' (C : CK W Γ c k sc ws Wx X) : X.N.Nodup := by rw [C.hN]; exact C.nd

/-! ### what is known of an expression's reading -/
structure Snd (X : Cx) (W : Wd) (Γ : List (Fn W.S)) (Wx : WX) (e : Expr) (ir : IE) : Prop where
  b : PE X e (tEv W Wx (qB W) (evE Γ true ir))
  n : PE X e (tEv W Wx (qN W) (evE Γ false ir))
  f : ir.fresh = true → PE X e (tEv W Wx (qF W) (evE Γ false ir))
  v : PE X e (tEv W Wx (qV W ir.vars) (evE Γ true ir))
  t : notIf e = true → PT X e (tEvT W Wx (asT (evE Γ true ir)))
  w : ∀ op vs pos, e = .BoolOp op vs pos → PW X (.BoolOp op vs pos) (tEvT W Wx (asT (evE Γ true ir)))
theorem tEv_imp {q q' : Pq} (h : ∀ {H0 Z ρ σ H H' st d v}, SR W H0 Z ρ σ H → W.At H st → q Z ρ σ H H' d v → q' Z ρ σ H H' d v) {f : Env → W.S → R W.S D} {σ : L2.St} {H : Hp} {Q : VK} (g : tEv W Wx q' f σ H Q) : tEv W Wx q f σ H Q := by
  obtain ⟨H0, Z, ρ, st, s, a, g⟩ := g
  exact ⟨H0, Z, ρ, st, s, a, g.imp fun d st' k H' v a' k' p => k H' v a' k' (h s a p)⟩
theorem Snd.cc {e : Expr} {ir : IE} (h : Snd X W Γ Wx e ir) : PE X e (tEv W Wx (qC W ir) (evE Γ true ir)) := PE.imp h.v fun _ _ _ g => tEv_imp (fun s a p => by
  rcases p with p | ⟨i, hi, e1, e2⟩
  · exact ⟨.inl p, fun _ => p⟩
  · refine ⟨.inr ⟨i, e1, e2⟩, fun ho => ?_⟩
    cases ir with
    | var j =>
      have : i = j := by simpa [IE.vars] using hi
      subst this
      simp [isOwn, e1] at ho
    | _ => exact nomatch hi) g
theorem PE_FN {e : Expr} {f : Env → W.S → R W.S D} (h : PE X e (tEv W Wx (qF W) f)) : PE X e (tEv W Wx (qN W) f) := PE.imp h fun _ _ _ g => tEv_imp (fun s a p => Fr.rp p (s.zdom a)) g
theorem PE_NB {e : Expr} {f : Env → W.S → R W.S D} (h : PE X e (tEv W Wx (qN W) f)) : PE X e (tEv W Wx (qB W) f) := PE.imp h fun _ _ _ g => tEv_imp (fun s a p => .inl p) g
theorem PE_NV {e : Expr} {f : Env → W.S → R W.S D} {vs : List Nat} (h : PE X e (tEv W Wx (qN W) f)) : PE X e (tEv W Wx (qV W vs) f) := PE.imp h fun _ _ _ g => tEv_imp (fun s a p => .inl p) g
/-- a test by the value's truth -/
theorem PT_of (hK : X.K = W.K) {e : Expr} {f : Env → W.S → R W.S D} (h : PE X e (tEv W Wx (qB W) f)) (he : ∀ whole, isTrue e X.env whole = (do let v ← whole; standAt e.pos; holding [v] (truthy v))) : PT X e (tEvT W Wx (asT f)) :=
  PT.imp (pt_truth h he) fun _ _ _ g => evT_tru hK g
theorem mkF (hK : X.K = W.K) {e : Expr} {ir : IE} (hv : evE Γ true ir = evE Γ false ir) (h : PE X e (tEv W Wx (qF W) (evE Γ false ir))) (t : PE X e (tEv W Wx (qB W) (evE Γ true ir)) → notIf e = true → PT X e (tEvT W Wx (asT (evE Γ true ir)))) (hw : ∀ op vs pos, e ≠ .BoolOp op vs pos) : Snd X W Γ Wx e ir := by
  have n := PE_FN h
  have b : PE X e (tEv W Wx (qB W) (evE Γ true ir)) := by rw [hv]; exact PE_NB n
  exact ⟨b, n, fun _ => h, by rw [hv]; exact PE_NV n, t b, fun op vs pos e => absurd e (hw op vs pos)⟩
theorem mkN (hK : X.K = W.K) {e : Expr} {ir : IE} (hf : ir.fresh = false) (hv : evE Γ true ir = evE Γ false ir) (h : PE X e (tEv W Wx (qN W) (evE Γ false ir))) (t : PE X e (tEv W Wx (qB W) (evE Γ true ir)) → notIf e = true → PT X e (tEvT W Wx (asT (evE Γ true ir)))) (hw : ∀ op vs pos, e ≠ .BoolOp op vs pos) : Snd X W Γ Wx e ir := by
  have b : PE X e (tEv W Wx (qB W) (evE Γ true ir)) := by rw [hv]; exact PE_NB h
  exact ⟨b, h, fun q => (by rw [hf] at q; cases q), by rw [hv]; exact PE_NV h, t b, fun op vs pos e => absurd e (hw op vs pos)⟩

/-! ### names, constants -/
theorem snd_var (C : CK W Γ c k sc ws Wx X) {x : PySem.Str} {i : Nat} {p : Pos} (h1 : vis sc x = true) (h2 : nmOk x = true) (h3 : ixOf x c.N = some i) : Snd X W Γ Wx (.Name x p) (.var i) := by
  have base : PE X (.Name x p) (tVar i) := pe_var (C.ix h3) (C.vis h1) (nmOk_1 h2) (nmOk_2 h2)
  have b : PE X (.Name x p) (tEv W Wx (qB W) (evE Γ true (.var i))) := PE.imp base fun _ _ _ g => ev_varB g
  refine ⟨b, PE.imp base fun _ _ _ g => ev_varN g, (fun q => by cases q), PE.imp base fun σ H Q g => ?_, fun _ => PT_of C.hK b fun _ => rfl, fun op vs pos e => nomatch e⟩
  obtain ⟨H0, Z, ρ, st, s, a, g⟩ := g
  obtain ⟨d, e, kk⟩ := go_lift g
  obtain ⟨own, e1, _⟩ := look_some e
  cases own with
  | false =>
    obtain ⟨v, e2, p⟩ := s.fr i d e1
    exact ⟨v, e2, kk H v a (.refl W H) (.inl p)⟩
  | true =>
    obtain ⟨b, e2, _⟩ := s.ow i d e1
    exact ⟨_, e2, kk H _ a (.refl W H) (.inr ⟨i, List.mem_singleton.mpr rfl, e1, e2⟩)⟩
theorem snd_c (hK : X.K = W.K) {e : Expr} {d : D} {v : V} (h : PE X e (tC v)) (hd : ∀ Z H, Rp W Z H d v) (ht : ∀ whole, isTrue e X.env whole = (do let v ← whole; standAt e.pos; holding [v] (truthy v))) (hw : ∀ op vs pos, e ≠ .BoolOp op vs pos) : Snd X W Γ Wx e (.c d) :=
  mkN hK rfl rfl (PE.imp h fun _ _ _ g => ev_c hd g) (fun b _ => PT_of hK b ht) hw

/-! ### operators -/
theorem snd_bop (C : CK W Γ c k sc ws Wx X) {a b : Expr} {op : Operator} {o : Bop} {x y : IE} {p : Pos} (ho : bopOf op = some o) (ha : Snd X W Γ Wx a x) (hb : Snd X W Γ Wx b y) : Snd X W Γ Wx (.BinOp a op b p) (.bop o x y) := by
  refine mkF C.hK rfl ?_ (fun b _ => PT_of C.hK b fun _ => rfl) (fun _ _ _ e => nomatch e)
  cases op <;> first | (cases ho; done) | skip
  all_goals cases ho
  · exact PE.imp (pe_op op_addD ha.b hb.b) fun _ _ _ g => ev_op backF (fun s a b1 b2 e k => rr_add C.hK s a b1 b2 e k) g
  · exact PE.imp (pe_op op_subD ha.b hb.b) fun _ _ _ g => ev_op backF (fun s a b1 b2 e k => rr_sub s a b1 b2 e k) g
  · exact PE.imp (pe_op op_mulD ha.b hb.b) fun _ _ _ g => ev_op backF (fun s a b1 b2 e k => rr_mul s a b1 b2 e k) g
  · exact PE.imp (pe_op op_mod ha.b hb.b) fun _ _ _ g => ev_op backF (fun s a b1 b2 e k => rr_mod s a b1 b2 e k) g
  · exact PE.imp (pe_op op_pow ha.b hb.b) fun _ _ _ g => ev_op backF (fun s a b1 b2 e k => rr_pow s a b1 b2 e k) g
  · exact PE.imp (pe_op op_fdivW ha.b hb.b) fun _ _ _ g => ev_op backF (fun s a b1 b2 e k => rr_fdiv s a b1 b2 e k) g
theorem snd_neg (C : CK W Γ c k sc ws Wx X) {a : Expr} {x : IE} {p : Pos} (ha : Snd X W Γ Wx a x) : Snd X W Γ Wx (.UnaryOp .USub a p) (.neg x) := by
  refine mkN C.hK rfl rfl (PE.imp (pe_un un_neg ha.b) fun σ H Q g => ?_) (fun b _ => PT_of C.hK b fun _ => rfl) (fun _ _ _ e => nomatch e)
  obtain ⟨H0, Z, ρ, st, s, a, g⟩ := g
  refine ⟨H0, Z, ρ, st, s, a, (go_bind g).imp fun d st1 k1 H1 v1 a1 kp1 b1 => ?_⟩
  have k2 := k1 H1 kp1
  cases d with
  | int i =>
    have k3 : ∀ H' v, W.At H' st1 → Kp W H H' → qN W Z ρ σ H H' (.int (-i)) v → Q v H' := k2
    exact ⟨i, b1.int (s.mono kp1), k3 H1 _ a1 kp1 rfl⟩
  | _ => exact k2.elim
theorem snd_not (C : CK W Γ c k sc ws Wx X) {a : Expr} {x : IE} {p : Pos} (ni : notIf a = true) (ha : Snd X W Γ Wx a x) : Snd X W Γ Wx (.UnaryOp .Not a p) (.not x) := by
  refine mkN C.hK rfl rfl (PE.imp (pe_notT ha.b) fun σ H Q g => ?_) (fun _ _ => PT.imp (pt_not (ha.t ni)) fun σ H Q g => ?_) (fun _ _ _ e => nomatch e)
  · obtain ⟨H0, Z, ρ, st, s, a, g⟩ := g
    refine ⟨H0, Z, ρ, st, s, a, (go_bind g).imp fun d st1 k1 H1 v1 a1 kp1 b1 => ?_⟩
    obtain ⟨d', e, k2⟩ := go_lift (k1 H1 kp1)
    cases et : truD d with
    | none => rw [et] at e; cases e
    | some b => rw [et] at e; cases e; exact ⟨b, truD_ok C.hK (s.mono kp1) b1 et, k2 H1 _ a1 kp1 rfl⟩
  · obtain ⟨H0, Z, ρ, st, s, a, g⟩ := g
    refine ⟨H0, Z, ρ, st, s, a, ?_⟩
    unfold asT at g ⊢
    dsimp only at g ⊢
    show Go W Wx σ H ((evE Γ true x ρ st).bind _) _
    have g' : Go W Wx σ H (((evE Γ true x ρ st).bind fun x s1 => R.lift ((truD x).map fun b => D.bl !b) s1).bind fun x s1 => R.lift (truD x) s1) (fun b st' => ∀ H', W.At H' st' → Kp W H H' → Q b H') := g
    revert g'
    cases evE Γ true x ρ st with
    | bad => exact fun g => g
    | ex e s1 => exact fun g => g
    | ok d s1 =>
      simp only [R.bind_ok]
      cases truD d with
      | none => exact fun g => g
      | some b => exact fun g H' a' k' => g H' a' k'

/-! ### comparisons -/
theorem snd_cmpR (C : CK W Γ c k sc ws Wx X) {a b : Expr} {op : CmpOp} {o : Cop} {r : R2} {x y : IE} {p : Pos} (ho : OpR X (compareOp op) r) (hm : behindInMarks op b = false)
    (hr : ∀ {H0 Z ρ σ H st d1 d2 v1 v2 b Q}, SR W H0 Z ρ σ H → W.At H st → Bw W Z ρ σ H d1 v1 → Bw W Z ρ σ H d2 v2 → cmpD o d1 d2 = some b → Q (.bl b) H → r v1 v2 H Q) (ha : Snd X W Γ Wx a x) (hb : Snd X W Γ Wx b y) : Snd X W Γ Wx (.Compare a [op] [b] p) (.cmp o x y) := by
  refine mkN C.hK rfl rfl (PE.imp (pe_cmpR ho ha.b hb.b hm) fun _ _ _ g => ev_op backF (fun s a b1 b2 e k => rr_cmp hr s a b1 b2 e k) (tEv_imp (q := qF W) (fun {H0 Z ρ σ H H' st d v} s a p => ?_) g)) (fun _ _ => PT.imp (pt_cmpR ho ha.b hb.b hm) fun σ H Q g => ?_) (fun _ _ _ e => nomatch e)
  · exact Fr.rp p (s.zdom a)
  · refine ev_op (q := qF W) (g := fun d1 d2 => (cmpD o d1 d2).map D.bl) backF (fun s a b1 b2 e k => rr_cmp hr s a b1 b2 e k) (Q := fun x H' => ∃ k, x = .bl k ∧ Q k H') (f1 := evE Γ true x) (f2 := evE Γ true y) ?_
    obtain ⟨H0, Z, ρ, st, s, a, g⟩ := g
    refine ⟨H0, Z, ρ, st, s, a, ?_⟩
    have g' : Go W Wx σ H (((evE Γ true x ρ st).bind fun x s1 => (evE Γ true y ρ s1).bind fun y s2 => R.lift ((cmpD o x y).map D.bl) s2).bind fun x s1 => R.lift (truD x) s1) (fun b st' => ∀ H', W.At H' st' → Kp W H H' → Q b H') := g
    dsimp only
    revert g'
    cases evE Γ true x ρ st with
    | bad => exact fun g => g
    | ex e s1 => exact fun g => g
    | ok d s1 =>
      simp only [R.bind_ok]
      cases evE Γ true y ρ s1 with
      | bad => exact fun g => g
      | ex e s1 => exact fun g => g
      | ok d2 s2 =>
        simp only [R.bind_ok]
        cases cmpD o d d2 with
        | none => exact fun g => g
        | some b => exact fun g H' v a' k' q => ⟨b, q, g H' a' k'⟩
theorem snd_cmp (C : CK W Γ c k sc ws Wx X) {a b : Expr} {op : CmpOp} {o : Cop} {x y : IE} {p : Pos} (ho : copOf op = some o) (hs : notSet b = true) (ha : Snd X W Γ Wx a x) (hb : Snd X W Γ Wx b y) : Snd X W Γ Wx (.Compare a [op] [b] p) (.cmp o x y) := by
  have hin : ∀ op, behindInMarks op b = false := fun op => by cases b <;> first | rfl | (cases hs)
  cases op <;> first | (cases ho; done) | skip
  all_goals cases ho
  · exact snd_cmpR C (op_eqT C.room.units) (hin _) (fun s a b1 b2 e q => cc_eq C.hK s a b1 b2 e q) ha hb
  · exact snd_cmpR C (op_neT C.room.units) (hin _) (fun s a b1 b2 e q => cc_ne C.hK s a b1 b2 e q) ha hb
  · exact snd_cmpR C (op_ltD C.room.units0) (hin _) (fun s a b1 b2 e q => cc_lt C.hK s a b1 b2 e q) ha hb
  · exact snd_cmpR C (op_leD C.room.units0) (hin _) (fun s a b1 b2 e q => cc_le C.hK s a b1 b2 e q) ha hb
  · exact snd_cmpR C op_gt (hin _) (fun s a b1 b2 e q => cc_gt s a b1 b2 e q) ha hb
  · exact snd_cmpR C op_ge (hin _) (fun s a b1 b2 e q => cc_ge s a b1 b2 e q) ha hb
  · exact snd_cmpR C (op_inAll (C.room.units65)) (hin _) (fun s a b1 b2 e q => cc_in C.hK (neg := false) rfl s a b1 b2 e q) ha hb
  · exact snd_cmpR C (op_notInAll (C.room.units65)) (hin _) (fun s a b1 b2 e q => cc_in C.hK (neg := true) rfl s a b1 b2 e q) ha hb
end
end Ev
end
section
set_option Elab.async false
set_option linter.all false
set_option maxRecDepth 100000
set_option maxHeartbeats 2000000
namespace Ev
open PySem PySem.Spec PyProof.Rows L2

section
variable {X : Cx} {W : Wd} {Γ : List (Fn W.S)} {c : Cfg} {k : Nat} {sc ws : Scope} {Wx : WX}
/-- what is read with a name's own list let is read without -/
theorem ev_bor (ir : IE) (ρ : Env) (s : W.S) : evE Γ false ir ρ s ≠ .bad → evE Γ true ir ρ s = evE Γ false ir ρ s := by
  cases ir <;> first | exact fun _ => rfl | skip
  rename_i i
  intro h
  show R.lift (look true ρ i) s = R.lift (look false ρ i) s
  have h' : R.lift (look false ρ i) s ≠ .bad := h
  cases e : look false ρ i with
  | none => rw [e] at h'; exact absurd rfl h'
  | some d =>
    obtain ⟨own, e1, e3⟩ := look_some e
    cases own with
    | true => exact absurd (e3 rfl) (by simp)
    | false => unfold look; rw [e1]; rfl
theorem Go.nb {α : Type} {r : R W.S α} {σ : L2.St} {H : Hp} {Kk : α → W.S → Prop} (h : Go W Wx σ H r Kk) : r ≠ .bad := fun e => by rw [e] at h; exact h

/-! ### and, or, if else -/
theorem tru_cases {α : Type} {σ : L2.St} {H : Hp} {o : Option Bool} {t f : R W.S α} {Kk : α → W.S → Prop} (g : Go W Wx σ H (match o with | some true => t | some false => f | none => .bad) Kk) : (o = some true ∧ Go W Wx σ H t Kk) ∨ (o = some false ∧ Go W Wx σ H f Kk) := by
  cases o with
  | none => exact g.elim
  | some b => cases b with
    | true => exact .inl ⟨rfl, g⟩
    | false => exact .inr ⟨rfl, g⟩
theorem pe_andE (hK : X.K = W.K) {q : Pq} (bk : Back W q) (hq : ∀ {H0 Z ρ σ H H' st d v}, SR W H0 Z ρ σ H → W.At H st → q Z ρ σ H H' d v → Rp W Z H' d v) {a b : Expr} {r : List Expr} {x y : IE} {p : Pos}
    (ha : PE X a (tEv W Wx q (evE Γ false x))) (hb : PE X (.BoolOp .And (b :: r) p) (tEv W Wx q (evE Γ false y))) : PE X (.BoolOp .And (a :: b :: r) p) (tEv W Wx q (evE Γ false (.and x y))) := by
  refine PE.imp (pe_andT ha hb) fun σ H Q g => ?_
  obtain ⟨H0, Z, ρ, st, s, a, g⟩ := g
  refine ⟨H0, Z, ρ, st, s, a, (go_bind (show Go W Wx σ H ((evE Γ false x ρ st).bind fun x s1 => match truD x with
    | some true => evE Γ false y ρ s1
    | some false => .ok x s1
    | none => .bad) _ from g)).imp fun d st1 k1 H1 v1 a1 kp1 b1 => ?_⟩
  have s1 := s.mono kp1
  rcases tru_cases (k1 H1 kp1) with ⟨e, g2⟩ | ⟨e, g2⟩
  · exact ⟨true, truD_ok hK s1 (.inl (hq s a b1)) e, iteT ⟨H0, Z, ρ, st1, s1, a1, g2.imp fun d2 st2 k2 H2 v2 a2 kp2 b2 => k2 H2 v2 a2 (kp1.trans kp2) (bk.back kp1 b2)⟩⟩
  · have g3 : ∀ H' v, W.At H' st1 → Kp W H H' → q Z ρ σ H H' d v → Q v H' := g2
    exact ⟨false, truD_ok hK s1 (.inl (hq s a b1)) e, iteF (g3 H1 v1 a1 kp1 b1)⟩
theorem pe_orE (hK : X.K = W.K) {q : Pq} (bk : Back W q) (hq : ∀ {H0 Z ρ σ H H' st d v}, SR W H0 Z ρ σ H → W.At H st → q Z ρ σ H H' d v → Rp W Z H' d v) {a b : Expr} {r : List Expr} {x y : IE} {p : Pos}
    (ha : PE X a (tEv W Wx q (evE Γ false x))) (hb : PE X (.BoolOp .Or (b :: r) p) (tEv W Wx q (evE Γ false y))) : PE X (.BoolOp .Or (a :: b :: r) p) (tEv W Wx q (evE Γ false (.or x y))) := by
  refine PE.imp (pe_orT ha hb) fun σ H Q g => ?_
  obtain ⟨H0, Z, ρ, st, s, a, g⟩ := g
  refine ⟨H0, Z, ρ, st, s, a, (go_bind (show Go W Wx σ H ((evE Γ false x ρ st).bind fun x s1 => match truD x with
    | some false => evE Γ false y ρ s1
    | some true => .ok x s1
    | none => .bad) _ from g)).imp fun d st1 k1 H1 v1 a1 kp1 b1 => ?_⟩
  have s1 := s.mono kp1
  have k2 := k1 H1 kp1
  cases e : truD d with
  | none => rw [e] at k2; exact k2.elim
  | some t =>
    rw [e] at k2
    cases t with
    | false => exact ⟨false, truD_ok hK s1 (.inl (hq s a b1)) e, iteF ⟨H0, Z, ρ, st1, s1, a1, Go.imp k2 fun d2 st2 k2 H2 v2 a2 kp2 b2 => k2 H2 v2 a2 (kp1.trans kp2) (bk.back kp1 b2)⟩⟩
    | true =>
      have g3 : ∀ H' v, W.At H' st1 → Kp W H H' → q Z ρ σ H H' d v → Q v H' := k2
      exact ⟨true, truD_ok hK s1 (.inl (hq s a b1)) e, iteT (g3 H1 v1 a1 kp1 b1)⟩
theorem pe_iteE {q : Pq} (bk : Back W q) {t a b : Expr} {x y z : IE} {p : Pos} (ht : PT X t (tEvT W Wx (asT (evE Γ true x)))) (ha : PE X a (tEv W Wx q (evE Γ false y))) (hb : PE X b (tEv W Wx q (evE Γ false z))) :
    PE X (.IfExp t a b p) (tEv W Wx q (evE Γ false (.ite x y z))) := by
  refine PE.imp (pe_ifExp ht ha hb) fun σ H Q g => ?_
  obtain ⟨H0, Z, ρ, st, s, a, g⟩ := g
  have g' : Go W Wx σ H ((asT (evE Γ true x) ρ st).bind fun b s1 => if b then evE Γ false y ρ s1 else evE Γ false z ρ s1) (fun d st' => ∀ H' v, W.At H' st' → Kp W H H' → q Z ρ σ H H' d v → Q v H') := by
    have g0 : Go W Wx σ H ((evE Γ true x ρ st).bind fun x s1 => match truD x with
      | some true => evE Γ false y ρ s1
      | some false => evE Γ false z ρ s1
      | none => .bad) _ := g
    unfold asT
    revert g0
    cases evE Γ true x ρ st with
    | bad => exact fun g => g
    | ex e s1 => exact fun g => g
    | ok d s1 =>
      simp only [R.bind_ok]
      cases truD d with
      | none => exact fun g => g
      | some b => cases b <;> exact fun g => by simpa using g
  refine ⟨H0, Z, ρ, st, s, a, (go_bind g').imp fun b st1 k1 H1 a1 kp1 => ?_⟩
  have k2 := k1 H1 kp1
  cases b with
  | true => exact iteT ⟨H0, Z, ρ, st1, s.mono kp1, a1, Go.imp k2 fun d2 st2 k2 H2 v2 a2 kp2 b2 => k2 H2 v2 a2 (kp1.trans kp2) (bk.back kp1 b2)⟩
  | false => exact iteF ⟨H0, Z, ρ, st1, s.mono kp1, a1, Go.imp k2 fun d2 st2 k2 H2 v2 a2 kp2 b2 => k2 H2 v2 a2 (kp1.trans kp2) (bk.back kp1 b2)⟩
theorem frN {H0 Z ρ σ H H' d v} {st : W.S} (s : SR W H0 Z ρ σ H) (a : W.At H st) (p : qF W Z ρ σ H H' d v) : Rp W Z H' d v := Fr.rp p (s.zdom a)
/-- a test of two, read -/
theorem evT_and {x y : IE} {σ : L2.St} {H : Hp} {Q : Bool → Hp → Prop} (g : tEvT W Wx (asT (evE Γ true (.and x y))) σ H Q) : tAnd (tEvT W Wx (asT (evE Γ true x))) (tEvT W Wx (asT (evE Γ true y))) σ H Q := by
  obtain ⟨H0, Z, ρ, st, s, a, g⟩ := g
  have g0 : Go W Wx σ H (((evE Γ false x ρ st).bind fun x s1 => match truD x with
    | some true => evE Γ false y ρ s1
    | some false => .ok x s1
    | none => .bad).bind fun x s1 => R.lift (truD x) s1) _ := g
  refine ⟨H0, Z, ρ, st, s, a, ?_⟩
  unfold asT
  dsimp only
  cases ex : evE Γ false x ρ st with
  | bad => rw [ex] at g0; exact g0.elim
  | ex e s1 =>
    rw [ex] at g0
    have := ev_bor (Γ := Γ) x ρ st (by rw [ex]; simp)
    rw [this, ex]; exact g0
  | ok d s1 =>
    rw [ex] at g0
    have := ev_bor (Γ := Γ) x ρ st (by rw [ex]; simp)
    rw [this, ex]
    simp only [R.bind_ok] at g0 ⊢
    cases et : truD d with
    | none => rw [et] at g0; exact g0.elim
    | some b =>
      rw [et] at g0
      intro H1 a1 kp1
      cases b with
      | false =>
        refine iteF ?_
        simp only [R.bind_ok, et] at g0
        exact g0 H1 a1 kp1
      | true =>
        refine iteT ⟨H0, Z, ρ, s1, s.mono kp1, a1, ?_⟩
        have g1 : Go W Wx σ H ((evE Γ false y ρ s1).bind fun x s1 => R.lift (truD x) s1) _ := g0
        have nb : evE Γ false y ρ s1 ≠ .bad := fun e => by rw [e] at g1; exact g1
        dsimp only
        rw [ev_bor (Γ := Γ) y ρ s1 nb]
        exact (g1.mono kp1).imp fun b st2 k2 H2 a2 kp2 => k2 H2 a2 (kp1.trans kp2)
theorem evT_or {x y : IE} {σ : L2.St} {H : Hp} {Q : Bool → Hp → Prop} (g : tEvT W Wx (asT (evE Γ true (.or x y))) σ H Q) : tOr (tEvT W Wx (asT (evE Γ true x))) (tEvT W Wx (asT (evE Γ true y))) σ H Q := by
  obtain ⟨H0, Z, ρ, st, s, a, g⟩ := g
  have g0 : Go W Wx σ H (((evE Γ false x ρ st).bind fun x s1 => match truD x with
    | some false => evE Γ false y ρ s1
    | some true => .ok x s1
    | none => .bad).bind fun x s1 => R.lift (truD x) s1) _ := g
  refine ⟨H0, Z, ρ, st, s, a, ?_⟩
  unfold asT
  dsimp only
  cases ex : evE Γ false x ρ st with
  | bad => rw [ex] at g0; exact g0.elim
  | ex e s1 =>
    rw [ex] at g0
    have := ev_bor (Γ := Γ) x ρ st (by rw [ex]; simp)
    rw [this, ex]; exact g0
  | ok d s1 =>
    rw [ex] at g0
    have := ev_bor (Γ := Γ) x ρ st (by rw [ex]; simp)
    rw [this, ex]
    simp only [R.bind_ok] at g0 ⊢
    cases et : truD d with
    | none => rw [et] at g0; exact g0.elim
    | some b =>
      rw [et] at g0
      intro H1 a1 kp1
      cases b with
      | true =>
        refine iteT ?_
        simp only [R.bind_ok, et] at g0
        exact g0 H1 a1 kp1
      | false =>
        refine iteF ⟨H0, Z, ρ, s1, s.mono kp1, a1, ?_⟩
        have g1 : Go W Wx σ H ((evE Γ false y ρ s1).bind fun x s1 => R.lift (truD x) s1) _ := g0
        have nb : evE Γ false y ρ s1 ≠ .bad := fun e => by rw [e] at g1; exact g1
        dsimp only
        rw [ev_bor (Γ := Γ) y ρ s1 nb]
        exact (g1.mono kp1).imp fun b st2 k2 H2 a2 kp2 => k2 H2 a2 (kp1.trans kp2)
theorem snd_one (C : CK W Γ c k sc ws Wx X) {a : Expr} {op : BoolOp} {x : IE} {p : Pos} (ni : notIf a = true) (ha : Snd X W Γ Wx a x) : Snd X W Γ Wx (.BoolOp op [a] p) x := by
  have w : PW X (.BoolOp op [a] p) (tEvT W Wx (asT (evE Γ true x))) := by
    cases op with
    | And => exact pw_and1 (ha.t ni)
    | Or => exact pw_or1 (ha.t ni)
  exact ⟨pe_one ha.b, pe_one ha.n, fun q => pe_one (ha.f q), pe_one ha.v, fun _ => w.pt, fun op' vs' pos' e => by cases e; exact w⟩
theorem snd_and (C : CK W Γ c k sc ws Wx X) {a b : Expr} {r : List Expr} {x y : IE} {p : Pos} (ni : notIf a = true) (ha : Snd X W Γ Wx a x) (hb : Snd X W Γ Wx (.BoolOp .And (b :: r) p) y) : Snd X W Γ Wx (.BoolOp .And (a :: b :: r) p) (.and x y) := by
  have n : PE X (.BoolOp .And (a :: b :: r) p) (tEv W Wx (qN W) (evE Γ false (.and x y))) := pe_andE C.hK backN (fun _ _ q => q) ha.n hb.n
  have w : PW X (.BoolOp .And (a :: b :: r) p) (tEvT W Wx (asT (evE Γ true (.and x y)))) := ⟨fun whole pins s σ H Q I g => (pw_and (ha.t ni) (hb.w _ _ _ rfl)).run whole pins s σ H Q I (evT_and g)⟩
  refine ⟨PE_NB n, n, fun q => ?_, PE_NV n, fun _ => w.pt, fun op' vs' pos' e => by cases e; exact w⟩
  have q' : x.fresh = true ∧ y.fresh = true := by simpa [IE.fresh] using q
  exact pe_andE C.hK backF (fun s a p => frN s a p) (ha.f q'.1) (hb.f q'.2)
theorem snd_or (C : CK W Γ c k sc ws Wx X) {a b : Expr} {r : List Expr} {x y : IE} {p : Pos} (ni : notIf a = true) (ha : Snd X W Γ Wx a x) (hb : Snd X W Γ Wx (.BoolOp .Or (b :: r) p) y) : Snd X W Γ Wx (.BoolOp .Or (a :: b :: r) p) (.or x y) := by
  have n : PE X (.BoolOp .Or (a :: b :: r) p) (tEv W Wx (qN W) (evE Γ false (.or x y))) := pe_orE C.hK backN (fun _ _ q => q) ha.n hb.n
  have w : PW X (.BoolOp .Or (a :: b :: r) p) (tEvT W Wx (asT (evE Γ true (.or x y)))) := ⟨fun whole pins s σ H Q I g => (pw_or (ha.t ni) (hb.w _ _ _ rfl)).run whole pins s σ H Q I (evT_or g)⟩
  refine ⟨PE_NB n, n, fun q => ?_, PE_NV n, fun _ => w.pt, fun op' vs' pos' e => by cases e; exact w⟩
  have q' : x.fresh = true ∧ y.fresh = true := by simpa [IE.fresh] using q
  exact pe_orE C.hK backF (fun s a p => frN s a p) (ha.f q'.1) (hb.f q'.2)
theorem snd_ite (C : CK W Γ c k sc ws Wx X) {t a b : Expr} {x y z : IE} {p : Pos} (ni : notIf t = true) (ht : Snd X W Γ Wx t x) (ha : Snd X W Γ Wx a y) (hb : Snd X W Γ Wx b z) : Snd X W Γ Wx (.IfExp t a b p) (.ite x y z) := by
  have n : PE X (.IfExp t a b p) (tEv W Wx (qN W) (evE Γ false (.ite x y z))) := pe_iteE backN (ht.t ni) ha.n hb.n
  refine ⟨PE_NB n, n, fun q => ?_, PE_NV n, (fun q => by cases q), (fun _ _ _ e => nomatch e)⟩
  have q' : y.fresh = true ∧ z.fresh = true := by simpa [IE.fresh] using q
  exact pe_iteE backF (ht.t ni) (ha.f q'.1) (hb.f q'.2)

/-! ### None -/
theorem snd_isN (C : CK W Γ c k sc ws Wx X) {a : Expr} {x : IE} {p p2 : Pos} {j : Nat} (ha : Snd X W Γ Wx a x) : Snd X W Γ Wx (.Compare a [.Is] [.Constant .none j p2] p) (.isN x) := by
  have key : ∀ {σ H Q}, tEv W Wx (qN W) (evE Γ false (.isN x)) σ H Q → tIsN (tEv W Wx (qB W) (evE Γ true x)) σ H Q := fun {σ H Q} g => by
    obtain ⟨H0, Z, ρ, st, s, a, g⟩ := g
    refine ⟨H0, Z, ρ, st, s, a, (go_bind (show Go W Wx σ H ((evE Γ true x ρ st).bind fun x s1 => .ok (D.bl (isNon x)) s1) _ from g)).imp fun d st1 k1 H1 v1 a1 kp1 b1 => ?_⟩
    have s1 := s.mono kp1
    have k2 : ∀ H' v, W.At H' st1 → Kp W H H' → qN W Z ρ σ H H' (.bl (isNon d)) v → Q v H' := k1 H1 kp1
    refine k2 H1 _ a1 kp1 ?_
    have r := b1.rd s1
    cases d <;> first | (rw [show v1 = _ from r]; rfl) | (obtain ⟨_, _, e, _⟩ := r; rw [e]; rfl) | (obtain ⟨_, e⟩ := rp_ins r; rw [e]; rfl)
  have keyT : ∀ {σ H Q}, tEvT W Wx (asT (evE Γ true (.isN x))) σ H Q → tB (tIsN (tEv W Wx (qB W) (evE Γ true x))) σ H Q := fun {σ H Q} g => by
    refine key (Q := fun x H1 => ∃ c, x = .bl c ∧ Q c H1) ?_
    obtain ⟨H0, Z, ρ, st, s, a, g⟩ := g
    refine ⟨H0, Z, ρ, st, s, a, ?_⟩
    have g' : Go W Wx σ H (((evE Γ true x ρ st).bind fun x s1 => .ok (D.bl (isNon x)) s1).bind fun x s1 => R.lift (truD x) s1) (fun b st' => ∀ H', W.At H' st' → Kp W H H' → Q b H') := g
    show Go W Wx σ H ((evE Γ true x ρ st).bind fun x s1 => .ok (D.bl (isNon x)) s1) _
    revert g'
    cases evE Γ true x ρ st with
    | bad => exact fun g => g
    | ex e s1 => exact fun g => g
    | ok d s1 => exact fun g H' v a' k' q => ⟨_, q, g H' a' k'⟩
  exact mkN C.hK rfl rfl (PE.imp (pe_cmp (pc_isN ha.b) rfl) fun _ _ _ g => key g) (fun _ _ => PT.imp (pt_cmp (pc_isN ha.b) rfl) fun _ _ _ g => keyT g) (fun _ _ _ e => nomatch e)
theorem snd_notN (C : CK W Γ c k sc ws Wx X) {a : Expr} {x : IE} {p p2 : Pos} {j : Nat} (ha : Snd X W Γ Wx a x) : Snd X W Γ Wx (.Compare a [.IsNot] [.Constant .none j p2] p) (.notN x) := by
  have key : ∀ {σ H Q}, tEv W Wx (qN W) (evE Γ false (.notN x)) σ H Q → tNotN (tEv W Wx (qB W) (evE Γ true x)) σ H Q := fun {σ H Q} g => by
    obtain ⟨H0, Z, ρ, st, s, a, g⟩ := g
    refine ⟨H0, Z, ρ, st, s, a, (go_bind (show Go W Wx σ H ((evE Γ true x ρ st).bind fun x s1 => .ok (D.bl (!isNon x)) s1) _ from g)).imp fun d st1 k1 H1 v1 a1 kp1 b1 => ?_⟩
    have s1 := s.mono kp1
    have k2 : ∀ H' v, W.At H' st1 → Kp W H H' → qN W Z ρ σ H H' (.bl (!isNon d)) v → Q v H' := k1 H1 kp1
    refine k2 H1 _ a1 kp1 ?_
    have r := b1.rd s1
    cases d <;> first | (rw [show v1 = _ from r]; rfl) | (obtain ⟨_, _, e, _⟩ := r; rw [e]; rfl) | (obtain ⟨_, e⟩ := rp_ins r; rw [e]; rfl)
  have keyT : ∀ {σ H Q}, tEvT W Wx (asT (evE Γ true (.notN x))) σ H Q → tB (tNotN (tEv W Wx (qB W) (evE Γ true x))) σ H Q := fun {σ H Q} g => by
    refine key (Q := fun x H1 => ∃ c, x = .bl c ∧ Q c H1) ?_
    obtain ⟨H0, Z, ρ, st, s, a, g⟩ := g
    refine ⟨H0, Z, ρ, st, s, a, ?_⟩
    have g' : Go W Wx σ H (((evE Γ true x ρ st).bind fun x s1 => .ok (D.bl (!isNon x)) s1).bind fun x s1 => R.lift (truD x) s1) (fun b st' => ∀ H', W.At H' st' → Kp W H H' → Q b H') := g
    show Go W Wx σ H ((evE Γ true x ρ st).bind fun x s1 => .ok (D.bl (!isNon x)) s1) _
    revert g'
    cases evE Γ true x ρ st with
    | bad => exact fun g => g
    | ex e s1 => exact fun g => g
    | ok d s1 => exact fun g H' v a' k' q => ⟨_, q, g H' a' k'⟩
  exact mkN C.hK rfl rfl (PE.imp (pe_cmp (pc_notN ha.b) rfl) fun _ _ _ g => key g) (fun _ _ => PT.imp (pt_cmp (pc_notN ha.b) rfl) fun _ _ _ g => keyT g) (fun _ _ _ e => nomatch e)
end
end Ev
end
section
set_option Elab.async false
set_option linter.all false
set_option maxRecDepth 100000
set_option maxHeartbeats 2000000
namespace Ev
open PySem PySem.Spec PyProof.Rows L2

theorem star_ne {e : Expr} (h : notStar e = true) (es : List Expr) (env : PySem.Env) : starEach (e :: es) env = (false, eval e env) :: starEach es env := by
  cases e <;> first | rfl | (cases h)
theorem no_star {pos : Pos} {env : PySem.Env} : ∀ {es : List Expr}, es.all notStar = true → (backTo pos (starEach es env)).any (·.1) = false
  | [], _ => rfl
  | e :: r, h => by
    rw [List.all_cons, Bool.and_eq_true] at h
    rw [star_ne h.1]
    show (false || (backTo pos (starEach r env)).any (·.1)) = false
    rw [no_star h.2]; rfl
section
variable {X : Cx} {W : Wd} {Γ : List (Fn W.S)} {c : Cfg} {k : Nat} {sc ws : Scope} {Wx : WX}
/-- an argument list -/
structure SndA (X : Cx) (W : Wd) (Γ : List (Fn W.S)) (Wx : WX) (es : List Expr) (irs : IEs) : Prop where
  pa : PA X es (tEvs W Wx (qBs W) (evs Γ true irs))
  pc : PA X es (tEvs W Wx (qCs W irs) (evs Γ true irs))
  ns : es.all notStar = true
  len : ∀ ρ s l s', evs Γ true irs ρ s = .ok l s' → l.length = es.length
theorem sndA_nil : SndA X W Γ Wx [] .nil := ⟨⟨fun pos pins s σ H Q I g => pa_nil.run pos pins s σ H Q I (evs_nil (fun {_ _ _ _} => rfl) g)⟩, ⟨fun pos pins s σ H Q I g => pa_nil.run pos pins s σ H Q I (evs_nil (fun {_ _ _ _} => ⟨rfl, fun _ => rfl⟩) g)⟩, rfl, fun ρ s l s' e => by cases e; rfl⟩
/-- a value taken out where it is stored -/
def evU (Γ : List (Fn W.S)) (b : Bool) (x : IE) : Env → W.S → R W.S D := fun ρ s => (evE Γ b x ρ s).bind fun d s1 => .ok (unC x d) s1
theorem tEv_u {q : Pq} {u : D → D} (hu : ∀ {H0 Z ρ σ H H' d v}, SR W H0 Z ρ σ H' → q Z ρ σ H H' d v → q Z ρ σ H H' (u d) v) {f : Env → W.S → R W.S D} {σ : L2.St} {H : Hp} {Q : VK} (g : tEv W Wx q (fun ρ s => (f ρ s).bind fun d s1 => .ok (u d) s1) σ H Q) : tEv W Wx q f σ H Q := by
  obtain ⟨H0, Z, ρ, st, s, a, g⟩ := g
  exact ⟨H0, Z, ρ, st, s, a, (go_bind g).imp fun d st1 k H1 v a1 kp p => k H1 kp H1 v a1 kp (hu (s.mono kp) p)⟩
theorem bw_u {Z : Addr → Prop} {ρ : Env} {σ : L2.St} {H0 H' : Hp} {d : D} {v : V} (x : IE) (s : SR W H0 Z ρ σ H') (h : Bw W Z ρ σ H' d v) : Bw W Z ρ σ H' (unC x d) v := by
  rcases h with h | ⟨i, e1, e2⟩
  · exact .inl (rp_unC h)
  · obtain ⟨b, _, _, _, o⟩ := s.ow i d e1
    have ho : d.isObj = true := by cases d <;> first | rfl | exact o.elim
    rw [unC_obj ho]
    exact .inr ⟨i, e1, e2⟩
theorem Snd.bu {e : Expr} {ir : IE} (h : Snd X W Γ Wx e ir) : PE X e (tEv W Wx (qB W) (evU Γ true ir)) := PE.imp h.b fun _ _ _ g => tEv_u (fun s p => bw_u ir s p) g
theorem Snd.nu {e : Expr} {ir : IE} (h : Snd X W Γ Wx e ir) : PE X e (tEv W Wx (qN W) (evU Γ false ir)) := PE.imp h.n fun _ _ _ g => tEv_u (fun s p => rp_unC p) g
theorem Snd.cu {e : Expr} {ir : IE} (h : Snd X W Γ Wx e ir) : PE X e (tEv W Wx (qC W ir) (evU Γ true ir)) := PE.imp h.cc fun _ _ _ g => tEv_u (fun s p => ⟨bw_u ir s p.1, fun ho => rp_unC (p.2 ho)⟩) g
theorem evs_u {b : Bool} {x : IE} {y : IEs} (ρ : Env) (s : W.S) : evs Γ b (.cons x y) ρ s = (evU Γ b x ρ s).bind fun x s1 => (evs Γ b y ρ s1).bind fun l s2 => .ok (x :: l) s2 := by
  rw [evs]
  unfold evU
  cases evE Γ b x ρ s <;> rfl
theorem tEvs_eq {q : Pqs} {f g : Env → W.S → R W.S (List D)} {σ : L2.St} {H : Hp} {Q : List V → Hp → Prop} (e : ∀ ρ s, f ρ s = g ρ s) (h : tEvs W Wx q f σ H Q) : tEvs W Wx q g σ H Q := by
  have : f = g := funext fun ρ => funext fun s => e ρ s
  rw [← this]; exact h
theorem sndA_cons {e : Expr} {r : List Expr} {x : IE} {y : IEs} (hs : notStar e = true) (he : Snd X W Γ Wx e x) (hr : SndA X W Γ Wx r y) : SndA X W Γ Wx (e :: r) (.cons x y) := by
  refine ⟨PA.imp (pa_cons he.bu hr.pa (star_ne hs _ _)) fun σ H Q g => evs_consB (tEvs_eq evs_u g), PA.imp (pa_cons he.cu hr.pc (star_ne hs _ _)) fun σ H Q g => evs_consC (tEvs_eq evs_u g), by rw [List.all_cons, hs, hr.ns]; rfl, fun ρ s l s' e => ?_⟩
  have e' : ((evE Γ true x ρ s).bind fun d s1 => (evs Γ true y ρ s1).bind fun l s2 => .ok (unC x d :: l) s2) = .ok l s' := e
  cases h1 : evE Γ true x ρ s with
  | bad => rw [h1] at e'; cases e'
  | ex a b => rw [h1] at e'; cases e'
  | ok d s1 =>
    rw [h1, R.bind_ok] at e'
    cases h2 : evs Γ true y ρ s1 with
    | bad => rw [h2] at e'; cases e'
    | ex a b => rw [h2] at e'; cases e'
    | ok l2 s2 =>
      rw [h2, R.bind_ok] at e'
      cases e'
      rw [List.length_cons, List.length_cons, hr.len _ _ _ _ h2]
/-- a display's items -/
theorem sndD_nil : PA X [] (tEvs W Wx (qNs W) (evs Γ false .nil)) := ⟨fun pos pins s σ H Q I g => pa_nil.run pos pins s σ H Q I (evs_nil (fun {_ _ _ _} => rfl) g)⟩
theorem sndD_cons {e : Expr} {r : List Expr} {x : IE} {y : IEs} (hs : notStar e = true) (he : Snd X W Γ Wx e x) (hr : PA X r (tEvs W Wx (qNs W) (evs Γ false y))) : PA X (e :: r) (tEvs W Wx (qNs W) (evs Γ false (.cons x y))) :=
  PA.imp (pa_cons he.nu hr (star_ne hs _ _)) fun σ H Q g => evs_consN (tEvs_eq evs_u g)
theorem sndD_star (C : CK W Γ c k sc ws Wx X) {e : Expr} {p : Pos} {r : List Expr} {x : IE} {y : IEs} (he : Snd X W Γ Wx e x) (hr : PA X r (tEvs W Wx (qNs W) (evs Γ false y))) : PA X (.Starred e p :: r) (tEvs W Wx (qNs W) (evs Γ false (.star x y))) :=
  PA.imp (StX.pa_star he.b hr) fun σ H Q g => evs_star C.hK (fun {Z ρ σ H ds es vs us} h q => Rps.append h q) g
theorem snd_tup (C : CK W Γ c k sc ws Wx X) {es : List Expr} {irs : IEs} {j : Nat} {p : Pos} (h : PA X es (tEvs W Wx (qNs W) (evs Γ false irs))) : Snd X W Γ Wx (.Tuple es j p) (.tup irs) :=
  mkN C.hK rfl rfl (PE_FN (PE.imp (pe_tup h) fun _ _ _ g => ev_tup g)) (fun b _ => PT_of C.hK b fun _ => rfl) (fun _ _ _ e => nomatch e)
theorem snd_lst (C : CK W Γ c k sc ws Wx X) {es : List Expr} {irs : IEs} {p : Pos} (h : PA X es (tEvs W Wx (qNs W) (evs Γ false irs))) : Snd X W Γ Wx (.List es p) (.lst irs) :=
  mkF C.hK rfl (PE.imp (pe_lst h) fun _ _ _ g => ev_lst g) (fun b _ => PT_of C.hK b fun _ => rfl) (fun _ _ _ e => nomatch e)

/-! ### calls -/
theorem snd_call (C : CK W Γ c k sc ws Wx X) {x : PySem.Str} {e : Expr} {es : List Expr} {irs : IEs} {i m : Nat} {p pos : Pos} (hg : isGl sc x = true) (hn : nmOk x = true) (hf : fnOfN x c.fns = some (i, m)) (hl : (e :: es).length = m) (ha : SndA X W Γ Wx (e :: es) irs) : Snd X W Γ Wx (.Call (.Name x p) (e :: es) [] pos) (.call i irs) := by
  obtain ⟨F, hF, _, f, fd, ps, h1, h2, h3, h4, h5⟩ := C.fns x i m hf
  have ns := ha.ns
  rw [List.all_cons, Bool.and_eq_true] at ns
  refine mkF C.hK rfl (PE.imp (pe_callG (E := fun σ => WE Wx σ) h5 C.room C.gd (C.gl hg) h2 h3 h4 C.pass ha.pc (nmOk_1 hn) (star_ne ns.1 _ _) (no_star ns.2)) fun σ H Q g => ?_) (fun b _ => PT_of C.hK b fun _ => rfl) (fun _ _ _ e => nomatch e)
  refine ev_call (m := F) (irs := irs) ?_
  obtain ⟨H0, Z, ρ, st, s, a, g⟩ := g
  refine ⟨H0, Z, ρ, st, s, a, ?_⟩
  have e : evE Γ false (.call i irs) ρ st = (evs Γ true irs ρ st).bind fun l s1 => chk (irs.own ρ) (F l s1) := by
    unfold evE
    rw [hF]; rfl
  rw [e] at g
  exact g
theorem tyOf_nm {y : PySem.Str} {p : Pos} {ty : Ty} {z : PySem.Str} (h : tyOf (.Name y p) = some (z, ty)) : z = y ∧ y = (tyName ty : PySem.Str) ∧ bootBuiltins y = some (.type (tyName ty)) := by
  simp only [tyOf] at h
  split at h
  · rename_i e1; cases h; subst e1; exact ⟨rfl, rfl, PyProof.Rows.boot_int⟩
  split at h
  · rename_i e1; cases h; subst e1; exact ⟨rfl, rfl, PyProof.Rows.boot_bool⟩
  split at h
  · rename_i e1; cases h; subst e1; exact ⟨rfl, rfl, PyProof.Rows.boot_str⟩
  split at h
  · rename_i e1; cases h; subst e1; exact ⟨rfl, rfl, PyProof.Rows.boot_tuple⟩
  split at h
  · rename_i e1; cases h; subst e1; exact ⟨rfl, rfl, PyProof.Rows.boot_list⟩
  · cases h
theorem snd_isi (C : CK W Γ c k sc ws Wx X) {x y : PySem.Str} {e : Expr} {a : IE} {ty : Ty} {p p2 pos : Pos} (hg : isGl sc x = true) (hn : nmOk x = true) (hx : x = ("isinstance" : PySem.Str)) (hf : fnOfN x c.fns = none) (ht : tyOf (.Name y p2) = some (y, ty)) (hgy : isGl sc y = true) (hy : X.mg y = none) (hs : notStar e = true) (ha : Snd X W Γ Wx e a) :
    Snd X W Γ Wx (.Call (.Name x p) [e, .Name y p2] [] pos) (.isi a ty) := by
  subst hx
  have hty : PE X (.Name y p2) (tC (.ty (tyName ty))) := by
    have := (tyOf_nm ht).2
    refine pe_bltn (C.gl hgy) hy this.2 rfl ?_ ?_
    · rw [this.1]; cases ty <;> decide
    · rw [this.1]; cases ty <;> decide
  have base := pe_callB call_isi (C.gl hg) (C.blt _ (by decide) hf) PyProof.Rows.boot_isinstance (pa_cons ha.b (pa_cons hty pa_nil) (star_ne hs _ _)) (by decide) (by decide) (star_ne hs _ _) rfl (pos := pos) (p := p)
  refine mkN C.hK rfl rfl (PE.imp base fun σ H Q g => ?_) (fun b _ => PT_of C.hK b fun _ => rfl) (fun _ _ _ e => nomatch e)
  obtain ⟨H0, Z, ρ, st, s, a', g⟩ := g
  refine ⟨H0, Z, ρ, st, s, a', (go_bind (show Go W Wx σ H ((evE Γ true a ρ st).bind fun x s1 => R.lift ((isiD x ty).map D.bl) s1) _ from g)).imp fun d st1 k1 H1 v1 a1 kp1 b1 => ?_⟩
  obtain ⟨d', e', k2⟩ := go_lift (k1 H1 kp1)
  cases ei : isiD d ty with
  | none => rw [ei] at e'; cases e'
  | some b => rw [ei] at e'; cases e'; exact isi_ok C.hK (s.mono kp1) b1 ei (k2 H1 _ a1 kp1 rfl)
theorem boot_min' : bootBuiltins "min" = some (.builtin "min") := by decide +kernel
theorem boot_max' : bootBuiltins "max" = some (.builtin "max") := by decide +kernel
theorem boot_sum' : bootBuiltins "sum" = some (.builtin "sum") := by decide +kernel
theorem boot_any' : bootBuiltins "any" = some (.builtin "any") := by decide +kernel
theorem boot_all' : bootBuiltins "all" = some (.builtin "all") := by decide +kernel
theorem boot_repr' : bootBuiltins "repr" = some (.builtin "repr") := by decide +kernel
/-- gcd, a module's name for math.gcd -/
theorem snd_gcd (C : CK W Γ c k sc ws Wx X) {e e2 : Expr} {irs : IEs} {p pos : Pos} (hg : isGl sc ("gcd" : PySem.Str) = true) (hc : c.gc = true) (ha : SndA X W Γ Wx [e, e2] irs) : Snd X W Γ Wx (.Call (.Name "gcd" p) [e, e2] [] pos) (.blt .gcd irs) := by
  have ns := ha.ns
  rw [List.all_cons, Bool.and_eq_true] at ns
  refine mkF C.hK rfl (PE.imp (pe_callMB cr_gcd (C.gl hg) (C.gc hc) ha.pa (by decide) (star_ne ns.1 _ _) (no_star ns.2)) fun σ H Q g => ?_) (fun b _ => PT_of C.hK b fun _ => rfl) (fun _ _ _ e => nomatch e)
  exact ev_blt (b := .gcd) (fun s a b e k => bb_gcd s a b e k) g
theorem snd_repr (C : CK W Γ c k sc ws Wx X) {e : Expr} {irs : IEs} {p pos : Pos} (hg : isGl sc ("repr" : PySem.Str) = true) (hf : fnOfN ("repr" : PySem.Str) c.fns = none) (ha : SndA X W Γ Wx [e] irs) : Snd X W Γ Wx (.Call (.Name "repr" p) [e] [] pos) (.blt .repr irs) := by
  have ns := ha.ns
  rw [List.all_cons, Bool.and_eq_true] at ns
  refine mkF C.hK rfl (PE.imp (pe_callB (call_repr C.gd (by have := C.room.units65; omega)) (C.gl hg) (C.blt _ (by decide) hf) boot_repr' ha.pa (by decide) (by decide) (star_ne ns.1 _ _) (no_star ns.2)) fun σ H Q g => ?_) (fun b _ => PT_of C.hK b fun _ => rfl) (fun _ _ _ e => nomatch e)
  exact ev_blt (b := .repr) (fun s a b e k => bb_repr C.hK s a b e k) g
theorem snd_blt (C : CK W Γ c k sc ws Wx X) {x : PySem.Str} {e : Expr} {es : List Expr} {irs : IEs} {b : Blt} {p pos : Pos} (hg : isGl sc x = true) (hn : nmOk x = true) (hf : fnOfN x c.fns = none) (hb : bltOf x (e :: es).length = some b) (hso : b ≠ .sorted) (ha : SndA X W Γ Wx (e :: es) irs) :
    Snd X W Γ Wx (.Call (.Name x p) (e :: es) [] pos) (.blt b irs) := by
  have ns := ha.ns
  rw [List.all_cons, Bool.and_eq_true] at ns
  refine mkF C.hK rfl ?_ (fun b _ => PT_of C.hK b fun _ => rfl) (fun _ _ _ e => nomatch e)
  have F : ∀ {id : String} {r : List V → Hp → VK → Prop}, CallR X (.builtin id) r → x ∈ bltNames → bootBuiltins x = some (.builtin id) → x ≠ "__name__" →
      (∀ {H0 Z ρ σ H st ds vs d Q}, SR W H0 Z ρ σ H → W.At H st → Bws W Z ρ σ H ds vs → bltS st b ds = some d → (∀ H' v, W.At H' st → Kp W H H' → qF W Z ρ σ H H' d v → Q v H') → r vs H Q) → PE X (.Call (.Name x p) (e :: es) [] pos) (tEv W Wx (qF W) (evE Γ false (.blt b irs))) := fun {id r} hc hx hv hne hr =>
    PE.imp (pe_callB hc (C.gl hg) (C.blt _ hx hf) hv ha.pa hne (nmOk_1 hn) (star_ne ns.1 _ _) (no_star ns.2)) fun σ H Q g => ev_blt hr g
  have T : ∀ {id : String} {r : List V → Hp → VK → Prop}, CallR X (.type id) r → x ∈ bltNames → bootBuiltins x = some (.type id) → x ≠ "__name__" →
      (∀ {H0 Z ρ σ H st ds vs d Q}, SR W H0 Z ρ σ H → W.At H st → Bws W Z ρ σ H ds vs → bltS st b ds = some d → (∀ H' v, W.At H' st → Kp W H H' → qF W Z ρ σ H H' d v → Q v H') → r vs H Q) → PE X (.Call (.Name x p) (e :: es) [] pos) (tEv W Wx (qF W) (evE Γ false (.blt b irs))) := fun {id r} hc hx hv hne hr =>
    PE.imp (pe_callTy hc (C.gl hg) (C.blt _ hx hf) hv ha.pa hne (nmOk_1 hn) (star_ne ns.1 _ _) (no_star ns.2)) fun σ H Q g => ev_blt hr g
  have hK := C.hK
  have hc := C.calm
  unfold bltOf at hb
  split at hb
  · split at hb
    · rename_i e1; cases hb; subst e1; exact F call_len (by decide) PySem.boot_len (by decide) fun s a b e k => bb_lenS hK s a b e k
    split at hb
    · rename_i e1; cases hb; subst e1; exact F call_abs (by decide) PyProof.Rows.boot_abs (by decide) fun s a b e k => bb_abs s a b e k
    split at hb
    · rename_i e1; cases hb; subst e1; exact T call_int1 (by decide) PyProof.Rows.boot_int (by decide) fun s a b e k => bb_int1 s a b e k
    split at hb
    · rename_i e1; cases hb; subst e1; exact F (cr_sum hc) (by decide) boot_sum' (by decide) fun s a b e k => bb_sum hK s a b e k
    split at hb
    · rename_i e1; cases hb; subst e1; exact F (cr_min hc) (by decide) boot_min' (by decide) fun s a b e k => bb_min1 hK s a b e k
    split at hb
    · rename_i e1; cases hb; subst e1; exact F (cr_max hc) (by decide) boot_max' (by decide) fun s a b e k => bb_max1 hK s a b e k
    split at hb
    · rename_i e1; cases hb; subst e1; exact F (cr_any hc) (by decide) boot_any' (by decide) fun s a b e k => bb_any hK s a b e k
    split at hb
    · rename_i e1; cases hb; subst e1; exact F (cr_all hc) (by decide) boot_all' (by decide) fun s a b e k => bb_all hK s a b e k
    split at hb
    · rename_i e1; cases hb; subst e1; exact T call_list_of (by decide) PyProof.Rows.boot_list (by decide) fun s a b e k => bb_list hK s a b e k
    split at hb
    · rename_i e1; cases hb; subst e1; exact T call_tuple_of (by decide) PyProof.Rows.boot_tuple (by decide) fun s a b e k => bb_tuple hK s a b e k
    split at hb
    · cases hb; exact absurd rfl hso
    · cases hb
  · split at hb
    · split at hb
      · rename_i e1; cases hb; subst e1; exact F (call_min2 hc) (by decide) boot_min' (by decide) fun s a b e k => bb_min2 s a b e k
      split at hb
      · rename_i e1; cases hb; subst e1; exact F (call_max2 hc) (by decide) boot_max' (by decide) fun s a b e k => bb_max2 s a b e k
      · cases hb
    · cases hb

/-! ### places, slices -/
def isSlice : Expr → Bool
  | .Slice _ _ _ _ => true
  | _ => false
theorem snd_sub (C : CK W Γ c k sc ws Wx X) {a i : Expr} {x y : IE} {p : Pos} (hs : isSlice i = false) (ha : Snd X W Γ Wx a x) (hi : Snd X W Γ Wx i y) : Snd X W Γ Wx (.Subscript a i p) (.sub x y) := by
  have pl : PlainIx i := fun o v => by cases i <;> first | rfl | (cases hs)
  exact mkN C.hK rfl rfl (PE.imp (pe_ix (ix_all (by have := C.room.units65; omega)) ha.b hi.b pl) fun _ _ _ g => ev_opS (g := fun st x y => subS st x y) backN (fun s a b1 b2 e k => rr_ixS C.hK s a b1 b2 e k) g) (fun b _ => PT_of C.hK b fun _ => rfl) (fun _ _ _ e => nomatch e)
def tEvO (W : Wd) (Wx : WX) (f : Env → W.S → R W.S (Option Int)) : TO := fun σ H Q => ∃ H0 Z ρ st, SR W H0 Z ρ σ H ∧ W.At H st ∧
  Go W Wx σ H (f ρ st) fun o st' => ∀ H', W.At H' st' → Kp W H H' → Q o H'
theorem PO.imp {e : Option Expr} {t t' : TO} (h : PO X e t) (i : ∀ σ H Q, t' σ H Q → t σ H Q) : PO X e t' := ⟨fun pins s σ H Q I q => h.run pins s σ H Q I (i σ H Q q)⟩
theorem sndO_none : PO X none (tEvO W Wx (evO Γ .none)) := PO.imp po_none fun σ H Q g => by
  obtain ⟨H0, Z, ρ, st, s, a, g⟩ := g
  have g' : ∀ H', W.At H' st → Kp W H H' → Q none H' := g
  exact g' H a (.refl W H)
theorem sndO_some {e : Expr} {x : IE} (he : Snd X W Γ Wx e x) : PO X (some e) (tEvO W Wx (evO Γ (.some x))) := PO.imp (po_some he.b) fun σ H Q g => by
  obtain ⟨H0, Z, ρ, st, s, a, g⟩ := g
  refine ⟨H0, Z, ρ, st, s, a, (go_bind (show Go W Wx σ H ((evE Γ true x ρ st).bind fun x s1 => asInt x fun i => .ok (some i) s1) _ from g)).imp fun d st1 k1 H1 v1 a1 kp1 b1 => ?_⟩
  obtain ⟨i, rfl, g2⟩ := asInt_go (k1 H1 kp1)
  have g3 : ∀ H', W.At H' st1 → Kp W H H' → Q (some i) H' := g2
  exact ⟨i, b1.int (s.mono kp1), g3 H1 a1 kp1⟩
def rSlD (K : PySem.W.Frag) : V → Option Int → Option Int → Hp → VK → Prop := fun x lo hi H Q => rSlL K x lo hi H Q ∨ rSlA K x lo hi H Q
theorem sl_D : SlR X (rSlD X.K) := SlR.or sl_list sl_tupA
theorem snd_slc (C : CK W Γ c k sc ws Wx X) {a : Expr} {lo hi : Option Expr} {x : IE} {l h : IEo} {p p2 : Pos} (ha : Snd X W Γ Wx a x) (hl : PO X lo (tEvO W Wx (evO Γ l))) (hh : PO X hi (tEvO W Wx (evO Γ h))) : Snd X W Γ Wx (.Subscript a (.Slice lo hi none p2) p) (.slc x l h) := by
  refine mkF C.hK rfl (PE.imp (pe_slice sl_D ha.b hl hh) fun σ H Q g => ?_) (fun b _ => PT_of C.hK b fun _ => rfl) (fun _ _ _ e => nomatch e)
  obtain ⟨H0, Z, ρ, st, s, a, g⟩ := g
  refine ⟨H0, Z, ρ, st, s, a, (go_bind (show Go W Wx σ H ((evE Γ true x ρ st).bind fun x s1 => (evO Γ l ρ s1).bind fun l s2 => (evO Γ h ρ s2).bind fun h s3 => R.lift (slcD x l h) s3) _ from g)).imp fun d st1 k1 H1 v1 a1 kp1 b1 => ?_⟩
  refine ⟨H0, Z, ρ, st1, s.mono kp1, a1, (go_bind (k1 H1 kp1)).imp fun o1 st2 k2 H2 a2 kp2 => ?_⟩
  have kp12 := kp1.trans kp2
  refine ⟨H0, Z, ρ, st2, s.mono kp12, a2, (go_bind (k2 H2 kp2)).imp fun o2 st3 k3 H3 a3 kp3 => ?_⟩
  have kp := kp12.trans kp3
  have s3 := s.mono kp
  obtain ⟨d', e, kk⟩ := go_lift (k3 H3 kp3)
  have b3 := b1.mono (s.mono kp1) (kp2.trans kp3)
  cases d with
  | lst l' =>
    cases e
    obtain ⟨q, vs, rfl, t, r⟩ := b3.lst s3
    exact .inl ⟨q, vs, rfl, .inl t, fun p hp => kk _ _ (At.new a3 hp) (kp.trans (.new hp)) (Fr.back kp (fr_lst s3 hp (cut_ok o1 o2 r)))⟩
  | tup l' =>
    cases e
    obtain ⟨q, vs, rfl, t, r⟩ := b3.tup s3
    refine .inr ⟨q, vs, rfl, C.hK ▸ t.seq, fun hw => ?_, fun _ p hp => kk _ _ (At.new a3 hp) (kp.trans (.new hp)) (fr_tup s3 hp (cut_ok o1 o2 r))⟩
    refine kk H3 _ a3 kp ?_
    have : cutD l' o1 o2 = l' := by
      unfold cutD
      rw [sIx_same, sIx_same, Rps.length r] at hw
      rw [hw.1, hw.2, List.drop_zero, Nat.sub_zero, List.take_length]
    rw [this]
    exact ⟨q, vs, rfl, t, r⟩
  | _ => cases e
end
end Ev
end
section
set_option Elab.async false
set_option linter.all false
set_option maxRecDepth 100000
set_option maxHeartbeats 2000000
namespace Ev
open PySem PySem.Spec PyProof.Rows L2

/-! ### calls with keywords, with nothing -/
theorem perm_vals {vs : List V} {us : List Value} (h : Vals vs us) : ∀ perm : List Nat, Vals (permL perm vs) (permL perm us)
  | [] => .nil
  | j :: r => by
    unfold permL
    rw [List.filterMap_cons, List.filterMap_cons]
    cases e : vs[j]? with
    | none =>
      have : us[j]? = none := by
        rw [List.getElem?_eq_none_iff] at e ⊢
        rw [← h.length]; exact e
      rw [this]; exact perm_vals h r
    | some v =>
      obtain ⟨u, e2, rv⟩ := h.get e
      rw [e2]
      exact .cons rv (perm_vals h r)
section
variable {X : Cx} {W : Wd} {Γ : List (Fn W.S)} {c : Cfg} {k : Nat} {sc ws : Scope} {Wx : WX} {Z : Addr → Prop} {H H0 : Hp} {ρ : Env} {σ : L2.St} {st : W.S}
theorem perm_rps {l : List D} {vs : List V} (h : Rps W Z H l vs) : ∀ perm : List Nat, Rps W Z H (permL perm l) (permL perm vs)
  | [] => rfl
  | j :: r => by
    unfold permL
    rw [List.filterMap_cons, List.filterMap_cons]
    cases e : l[j]? with
    | none =>
      have : vs[j]? = none := by
        rw [List.getElem?_eq_none_iff] at e ⊢
        rw [Rps.length h]; exact e
      rw [this]; exact perm_rps h r
    | some v =>
      obtain ⟨u, e2, rv⟩ := h.get e
      rw [e2]
      exact ⟨u, _, rfl, rv, perm_rps h r⟩
theorem Bws.get : ∀ {ds : List D} {vs : List V} {i : Nat} {d : D}, Bws W Z ρ σ H ds vs → ds[i]? = some d → ∃ v, vs[i]? = some v ∧ Bw W Z ρ σ H d v
  | [], _, _, _, _, e => by simp at e
  | d :: r, vs, 0, d', h, e => by
    obtain ⟨v, us, rfl, p, q⟩ := h
    have : d = d' := by simpa using e
    subst this
    exact ⟨v, rfl, p⟩
  | d :: r, vs, i + 1, _, h, e => by
    obtain ⟨v, us, rfl, p, q⟩ := h
    obtain ⟨u, e2, p2⟩ := Bws.get (i := i) q (by simpa using e)
    exact ⟨u, by simpa using e2, p2⟩
theorem Bws.length : ∀ {ds : List D} {vs : List V}, Bws W Z ρ σ H ds vs → vs.length = ds.length
  | [], _, h => by rw [show _ = [] from h]; rfl
  | d :: r, vs, h => by
    obtain ⟨v, us, rfl, _, q⟩ := h
    rw [List.length_cons, List.length_cons, Bws.length q]
theorem perm_bws {l : List D} {vs : List V} (h : Bws W Z ρ σ H l vs) : ∀ perm : List Nat, Bws W Z ρ σ H (permL perm l) (permL perm vs)
  | [] => rfl
  | j :: r => by
    unfold permL
    rw [List.filterMap_cons, List.filterMap_cons]
    cases e : l[j]? with
    | none =>
      have : vs[j]? = none := by
        rw [List.getElem?_eq_none_iff] at e ⊢
        rw [Bws.length h]; exact e
      rw [this]; exact perm_bws h r
    | some v =>
      obtain ⟨u, e2, rv⟩ := Bws.get h e
      rw [e2]
      exact ⟨u, _, rfl, rv, perm_bws h r⟩
def tCallP (sp : Sp) (perm : List Nat) (E : L2.St → XK) (t tk : TA) : TE := fun σ H Q => t σ H fun vs H1 => tk σ H1 fun zs H2 => sp (permL perm (vs ++ zs)) H2 Q (E σ)
theorem run_P {CX : CXT} {k : Nat} {f : Addr} {fd : FuncData} {ps ks : List PySem.Str} {sp : Sp} {E : L2.St → XK} {n : Nat} {perm : List Nat} {pins : List (Addr × Obj)} {s : Shared} {Q : VK} {us ws : List Value} {vs zs : List V} (F : FnG X.prog X.w X.K X.mg X.base CX k f fd ps sp) (hr : Room k X.A) (hgd : X.A.guards = some [])
    (hb : ∀ (us ws : List Value), us.length = n → ws.length = ks.length → bindArgs fd ⟨us, ks.zip ws⟩ = pure (ps.zip (permL perm (us ++ ws)))) (hx : PassesAt CX X σ (E σ)) (I : Inv X pins σ H s) (r : Vals vs us) (r2 : Vals zs ws) (l1 : us.length = n) (l2 : ws.length = ks.length) (h : sp (permL perm (vs ++ zs)) H Q (E σ)) :
    wpAny (model X.prog X.w) X.A (call (.ref f) us (ks.zip ws)) (EP X pins σ Q) X.xe s := by
  refine wpAny_call (codeAny_mono (F.run hr hgd I.env0 (.of_eq (hb us ws l1 l2)) (perm_vals (r.append r2) perm) h) fun r s' hq => ?_)
  cases r with
  | error e => exact hx pins H s e s' I hq
  | ok fl =>
    cases fl with
    | ret u => exact I.after hq
    | next => exact False.elim hq
    | brk => exact False.elim hq
    | cont => exact False.elim hq
theorem kwNames_all {kws : List Keyword} {ns : List PySem.Str} {pos : Pos} {env : PySem.Env} : kwNames kws = some ns → (backToKw pos (keywordEach kws env)).all (·.1.isSome) = true ∧ (backToKw pos (keywordEach kws env)).filterMap (·.1) = ns ∧ (backToKw pos (keywordEach kws env)).any (·.1.isNone) = false := by
  induction kws generalizing ns with
  | nil => intro h; cases h; exact ⟨rfl, rfl, rfl⟩
  | cons q r ih =>
    obtain ⟨a, e, p⟩ := q
    cases a with
    | none => intro h; cases h
    | some x =>
      intro h
      unfold kwNames at h
      cases c : kwNames r with
      | none => rw [c] at h; cases h
      | some ms =>
        rw [c] at h
        cases h
        obtain ⟨h1, h2, h3⟩ := ih c
        refine ⟨?_, ?_, ?_⟩
        · show (true && (backToKw pos (keywordEach r env)).all (·.1.isSome)) = true
          rw [h1]; rfl
        · show x :: (backToKw pos (keywordEach r env)).filterMap (·.1) = x :: ms
          rw [h2]
        · show (false || (backToKw pos (keywordEach r env)).any (·.1.isNone)) = false
          rw [h3]; rfl
theorem kwNames_len {kws : List Keyword} {ns : List PySem.Str} (h : kwNames kws = some ns) : ns.length = kws.length := by
  induction kws generalizing ns with
  | nil => cases h; rfl
  | cons q r ih =>
    obtain ⟨a, e, p⟩ := q
    cases a with
    | none => cases h
    | some x =>
      unfold kwNames at h
      cases c : kwNames r with
      | none => rw [c] at h; cases h
      | some ms => rw [c] at h; cases h; rw [List.length_cons, List.length_cons, ih c]
/-- keywords' values -/
structure SndK (X : Cx) (W : Wd) (Γ : List (Fn W.S)) (Wx : WX) (kws : List Keyword) (irs : IEs) : Prop where
  pk : PK X kws (tEvs W Wx (qCs W irs) (evs Γ true irs))
theorem PK.imp {X : Cx} {e : List Keyword} {t t' : TA} (h : PK X e t) (i : ∀ σ H Q, t' σ H Q → t σ H Q) : PK X e t' := ⟨fun pos pins s σ H Q I q => h.run pos pins s σ H Q I (i σ H Q q)⟩
theorem sndK_nil : SndK X W Γ Wx [] .nil := ⟨⟨fun pos pins s σ H Q I g => pk_nil.run pos pins s σ H Q I (evs_nil (fun {_ _ _ _} => ⟨rfl, fun _ => rfl⟩) g)⟩⟩
theorem sndK_cons {nm : Option PySem.Str} {kp : Pos} {e : Expr} {r : List Keyword} {x : IE} {y : IEs} (he : Snd X W Γ Wx e x) (hr : SndK X W Γ Wx r y) : SndK X W Γ Wx (⟨nm, e, kp⟩ :: r) (.cons x y) :=
  ⟨PK.imp (pk_cons he.cu hr.pk) fun σ H Q g => evs_consC (tEvs_eq evs_u g)⟩
/-- as many values as expressions -/
theorem evs_many {irs : IEs} {n : Nat} (h : ∀ ρ s l s', evs Γ true irs ρ s = .ok l s' → l.length = n) {σ : L2.St} {H : Hp} {Q : List V → Hp → Prop} (g : tEvs W Wx (qCs W irs) (evs Γ true irs) σ H Q) : tEvs W Wx (qCs W irs) (evs Γ true irs) σ H fun vs H1 => vs.length = n ∧ Q vs H1 := by
  obtain ⟨H0, Z, ρ, st, s, a, g⟩ := g
  refine ⟨H0, Z, ρ, st, s, a, ?_⟩
  cases e : evs Γ true irs ρ st with
  | bad => rw [e] at g; exact g
  | ex x s1 => rw [e] at g; exact g
  | ok l s1 =>
    rw [e] at g
    have g' : ∀ H' vs, W.At H' s1 → Kp W H H' → qCs W irs Z ρ σ H' l vs → Q vs H' := g
    intro H' vs a' k' q
    exact ⟨(Rps.length (Bws.rd (s.mono k') q.1)).trans (h ρ st l s1 e), g' H' vs a' k' q⟩
def tCallP0 (sp : Sp) (perm : List Nat) (E : L2.St → XK) (tk : TA) : TE := fun σ H Q => tk σ H fun zs H1 => sp (permL perm zs) H1 Q (E σ)
theorem pe_callP0 {CX : CXT} {k : Nat} {x : PySem.Str} {f : Addr} {fd : FuncData} {ps ks : List PySem.Str} {sp : Sp} {E : L2.St → XK} {perm : List Nat} {kws : List Keyword} {tk : TA} {p pos : Pos} (F : FnG X.prog X.w X.K X.mg X.base CX k f fd ps sp) (hr : Room k X.A) (hgd : X.A.guards = some []) (hg : Gl X x) (hm : X.mg x = some (.ref f)) (hk : PySem.W.keepIn X.K (.ref f) = true)
    (hb : ∀ (us ws : List Value), us.length = 0 → ws.length = ks.length → bindArgs fd ⟨us, ks.zip ws⟩ = pure (ps.zip (permL perm (us ++ ws)))) (hx : ∀ σ, PassesAt CX X σ (E σ)) (hkw : PK X kws tk) (hns : kwNames kws = some ks) (hdb : (x == ("__debug__" : PySem.Str)) = false)
    (l2 : ∀ σ H Q, tk σ H Q → tk σ H fun vs H1 => vs.length = ks.length ∧ Q vs H1) : PE X (.Call (.Name x p) [] kws pos) (tCallP0 sp perm E tk) := by
  obtain ⟨k1, k2, k3⟩ := kwNames_all (pos := pos) (env := X.env) hns
  refine ⟨fun pins s σ H Q I h => wpAny_Call_Name_kw (ld_glob I hg hm ?_ hdb)⟩
  refine PySem.W.callWith_KW0 (h₀ := X.base) I.ok.mod.kin hk k1 (thn (hkw.run pos pins s σ H _ I (l2 _ _ _ h)) fun ws s2 ⟨zs, H2, I2, rz, e2, q2⟩ => ⟨I2.kIn, ?_⟩) (by show (false || _) = false; rw [k3]; rfl)
  rw [k2]
  exact run_P (us := []) (vs := []) F hr hgd hb (hx σ) I2 .nil rz rfl (by rw [← rz.length]; exact e2) q2
theorem pe_callP {CX : CXT} {k : Nat} {x : PySem.Str} {f : Addr} {fd : FuncData} {ps ks : List PySem.Str} {sp : Sp} {E : L2.St → XK} {n : Nat} {perm : List Nat} {e : Expr} {r : List Expr} {kws : List Keyword} {t tk : TA} {p pos : Pos} (F : FnG X.prog X.w X.K X.mg X.base CX k f fd ps sp) (hr : Room k X.A) (hgd : X.A.guards = some []) (hg : Gl X x) (hm : X.mg x = some (.ref f)) (hk : PySem.W.keepIn X.K (.ref f) = true)
    (hb : ∀ (us ws : List Value), us.length = n → ws.length = ks.length → bindArgs fd ⟨us, ks.zip ws⟩ = pure (ps.zip (permL perm (us ++ ws)))) (hx : ∀ σ, PassesAt CX X σ (E σ)) (ha : PA X (e :: r) t) (hkw : PK X kws tk) (hns : kwNames kws = some ks) (hdb : (x == ("__debug__" : PySem.Str)) = false) (hst : (e :: r).all notStar = true)
    (l1 : ∀ σ H Q, t σ H Q → t σ H fun vs H1 => vs.length = n ∧ Q vs H1) (l2 : ∀ σ H Q, tk σ H Q → tk σ H fun vs H1 => vs.length = ks.length ∧ Q vs H1) : PE X (.Call (.Name x p) (e :: r) kws pos) (tCallP sp perm E t tk) := by
  obtain ⟨k1, k2, k3⟩ := kwNames_all (pos := pos) (env := X.env) hns
  refine ⟨fun pins s σ H Q I h => wpAny_Call_Name_kw (ld_glob I hg hm ?_ hdb)⟩
  rw [List.all_cons, Bool.and_eq_true] at hst
  refine PySem.W.callWith_KW (h₀ := X.base) I.ok.mod.kin hk k1 (thn (ha.run pos pins s σ H _ I (l1 _ _ _ h)) fun us s1 ⟨vs, H1, I1, r1, e1, q⟩ => ?_) ?_ (star_ne hst.1 _ _)
  · refine thn (hkw.run pos pins s1 σ H1 _ I1 (l2 _ _ _ q)) fun ws s2 ⟨zs, H2, I2, rz, e2, q2⟩ => ⟨I2.kIn, ?_⟩
    rw [k2]
    show wpAny (model X.prog X.w) X.A (call (.ref f) us (ks.zip ws)) (EP X pins σ Q) X.xe s2
    exact run_P F hr hgd hb (hx σ) I2 r1 rz (by rw [← r1.length]; exact e1) (by rw [← rz.length]; exact e2) q2
  · rw [k3, star_ne hst.1]
    show ((false || (backTo pos (starEach r X.env)).any (·.1)) || false) = false
    rw [no_star hst.2]; rfl
theorem snd_callp (C : CK W Γ c k sc ws Wx X) {x : PySem.Str} {es : List Expr} {kws : List Keyword} {a b : IEs} {i : Nat} {ns : List PySem.Str} {perm : List Nat} {p pos : Pos} (hg : isGl sc x = true) (hn : nmOk x = true) (hns : kwNames kws = some ns) (hk : kwOf x es.length ns c.kwp = some (i, perm))
    (ha : SndA X W Γ Wx es a) (hb : SndK X W Γ Wx kws b) (hbl : ∀ ρ s l s', evs Γ true b ρ s = .ok l s' → l.length = ns.length) (h0 : es = [] → a = .nil) : Snd X W Γ Wx (.Call (.Name x p) es kws pos) (.callp i a b perm) := by
  obtain ⟨F, hF, f, fd, ps, h1, h2, h3, h4⟩ := C.kw x _ ns i perm hk
  have e0 : ∀ ρ st, evE Γ false (.callp i a b perm) ρ st = (evs Γ true a ρ st).bind fun l1 s1 => (evs Γ true b ρ s1).bind fun l2 s2 => chk (a.own ρ || b.own ρ) (F (permL perm (l1 ++ l2)) s2) := by
    intro ρ st
    unfold evE
    rw [hF]; rfl
  have key : ∀ {σ : L2.St} {H : Hp} {Q : VK}, tEv W Wx (qF W) (evE Γ false (.callp i a b perm)) σ H Q → tEvs W Wx (qCs W a) (evs Γ true a) σ H fun vs H1 => tEvs W Wx (qCs W b) (evs Γ true b) σ H1 fun zs H2 => spF W F (permL perm (vs ++ zs)) H2 Q (WE Wx σ) := by
    intro σ H Q g
    obtain ⟨H0, Z, ρ, st, s, a0, g⟩ := g
    rw [e0] at g
    refine ⟨H0, Z, ρ, st, s, a0, (go_bind g).imp fun l1 st1 k1 H1 vs a1 kp1 b1 => ?_⟩
    refine ⟨H0, Z, ρ, st1, s.mono kp1, a1, (go_bind (k1 H1 kp1)).imp fun l2 st2 k2 H2 zs a2 kp2 b2 => ?_⟩
    have kp := kp1.trans kp2
    have s2 := s.mono kp
    refine sp_call (irs := a) s2 a2 (perm_bws (Bws.append (b1.1.mono (s.mono kp1) kp2) b2.1) perm) (fun ho => ?_) ((k2 H2 kp2).imp fun d st3 g2 H' v a' k' r => g2 H' v a' (kp.trans k') (Fr.back kp r))
    rw [Bool.or_eq_false_iff] at ho
    exact perm_rps (Rps.append (kp2.rps s.ft (b1.2 ho.1)) (b2.2 ho.2)) perm
  refine mkF C.hK rfl ?_ (fun b _ => PT_of C.hK b fun _ => rfl) (fun _ _ _ e => nomatch e)
  cases es with
  | nil =>
    refine PE.imp (pe_callP0 (E := fun σ => WE Wx σ) h3 C.room C.gd (C.gl hg) h1 h2 h4 C.pass hb.pk hns (nmOk_1 hn) fun σ H Q g => evs_many hbl g) fun σ H Q g => ?_
    have g2 := key g
    have ea := h0 rfl
    subst ea
    obtain ⟨H0, Z, ρ, st, s, a0, g3⟩ := g2
    have g4 : ∀ H' vs, W.At H' st → Kp W H H' → qCs W .nil Z ρ σ H' [] vs → tEvs W Wx (qCs W b) (evs Γ true b) σ H' fun zs H2 => spF W F (permL perm (vs ++ zs)) H2 Q (WE Wx σ) := g3
    exact g4 H [] a0 (.refl W H) ⟨rfl, fun _ => rfl⟩
  | cons e r =>
    exact PE.imp (pe_callP (E := fun σ => WE Wx σ) h3 C.room C.gd (C.gl hg) h1 h2 h4 C.pass ha.pc hb.pk hns (nmOk_1 hn) ha.ns (fun σ H Q g => evs_many ha.len g) fun σ H Q g => evs_many hbl g) fun σ H Q g => key g
theorem snd_call0 (C : CK W Γ c k sc ws Wx X) {x : PySem.Str} {i : Nat} {p pos : Pos} (hg : isGl sc x = true) (hn : nmOk x = true) (hf : fnOfN x c.fns = some (i, 0)) : Snd X W Γ Wx (.Call (.Name x p) [] [] pos) (.call i .nil) := by
  obtain ⟨F, hF, _, f, fd, ps, h1, h2, h3, h4, h5⟩ := C.fns x i 0 hf
  refine mkF C.hK rfl ?_ (fun b _ => PT_of C.hK b fun _ => rfl) (fun _ _ _ e => nomatch e)
  refine ⟨fun pins s σ H Q I g => wpAny_Call_Name_kw (ld_glob I (C.gl hg) h2 ?_ (nmOk_1 hn))⟩
  refine PySem.W.callWith_K0 I.kIn h3 (run_g (us := []) (E := fun σ => WE Wx σ) h5 C.room C.gd h4 (C.pass σ) I .nil ?_)
  obtain ⟨H0, Z, ρ, st, sr, a, g⟩ := g
  have e : evE Γ false (.call i .nil) ρ st = chk false (F [] st) := by
    unfold evE
    rw [hF]; rfl
  rw [e] at g
  exact sp_call (irs := .nil) (ds := []) (vs := []) (own := false) sr a (by exact rfl) (fun _ => by exact rfl) g

/-! ### dicts -/
theorem snd_dnew (C : CK W Γ c k sc ws Wx X) {pos : Pos} (tk : Bool) : Snd X W Γ Wx (.Dict [] [] pos) (.dnew tk) := by
  refine mkF C.hK rfl ?_ (fun b _ => PT_of C.hK b fun _ => rfl) (fun _ _ _ e => nomatch e)
  cases tk with
  | true =>
    refine PE.imp pe_dnewT fun σ H Q g p hp => ?_
    obtain ⟨H0, Z, ρ, st, s, a, g⟩ := g
    have g' : ∀ H' v, W.At H' st → Kp W H H' → qF W Z ρ σ H H' (.dct true [] []) v → Q v H' := g
    exact g' _ _ (At.new a hp) (.new hp) ⟨p, [], rfl, hp, upd_same, ⟨rfl, fun h => by cases h⟩, rfl⟩
  | false =>
    refine PE.imp pe_dnewK fun σ H Q g p hp => ?_
    obtain ⟨H0, Z, ρ, st, s, a, g⟩ := g
    have g' : ∀ H' v, W.At H' st → Kp W H H' → qF W Z ρ σ H H' (.dct false [] []) v → Q v H' := g
    exact g' _ _ (At.new a hp) (.new hp) ⟨p, [], rfl, hp, upd_same, ⟨rfl, fun _ k hk => nomatch hk⟩, rfl⟩
theorem snd_dget (C : CK W Γ c k sc ws Wx X) {x : PySem.Str} {e d : Expr} {i : Nat} {a b : IE} {p apos cpos : Pos} (hv : vis sc x = true) (hn : nmOk x = true) (hi : ixOf x c.N = some i) (hl : (apos.endLine == cpos.line) = true) (h1 : notStar e = true) (h2 : notStar d = true)
    (he : Snd X W Γ Wx e a) (hd : Snd X W Γ Wx d b) : Snd X W Γ Wx (.Call (.Attribute (.Name x p) "get" apos) [e, d] [] cpos) (.dget (.var i) a b) := by
  have hx := snd_var (p := p) C hv hn hi
  have tr : backTo cpos (starEach [e, d] X.env) = [(false, eval e X.env), (false, eval d X.env)] := by
    rw [star_ne h1, star_ne h2]; rfl
  refine mkN C.hK rfl rfl (PE.imp (pe_dget2 (by have := C.room.units65; omega) hx.b he.b hd.n ⟨rfl, by rw [tr]; rfl, hl, tr⟩) fun σ H Q g => ?_) (fun b _ => PT_of C.hK b fun _ => rfl) (fun _ _ _ e => nomatch e)
  obtain ⟨H0, Z, ρ, st, s, a0, g⟩ := g
  refine ⟨H0, Z, ρ, st, s, a0, (go_bind (show Go W Wx σ H ((evE Γ true (.var i) ρ st).bind fun d s1 => match d with
    | .dct tk ks vs => (evE Γ true a ρ s1).bind fun y s2 => (evE Γ false b ρ s2).bind fun z s3 => R.lift ((kyOf tk y).map fun q => (dlook ks vs q).getD z) s3
    | _ => .bad) (fun d st' => ∀ H' v, W.At H' st' → Kp W H H' → qN W Z ρ σ H H' d v → Q v H') from g)).imp fun d0 st1 k1 H1 v1 a1 kp1 b1 => ?_⟩
  have s1 := s.mono kp1
  cases d0 with
  | dct tk ks vs =>
    have k1' := k1 H1 kp1
    dsimp only at k1'
    obtain ⟨q, us, rfl, ha, ok, r⟩ := b1.dct s1
    refine ⟨q, rfl, by cases tk <;> first | exact .inl ⟨_, .inl ha⟩ | exact .inr ⟨_, .inl ha⟩, ?_⟩
    refine ⟨H0, Z, ρ, st1, s1, a1, (go_bind k1').imp fun y st2 k2 H2 v2 a2 kp2 b2 => ?_⟩
    have kp12 := kp1.trans kp2
    refine ⟨H0, Z, ρ, st2, s.mono kp12, a2, (go_bind (k2 H2 kp2)).imp fun z st3 k3 H3 v3 a3 kp3 b3 => ?_⟩
    have kp := kp12.trans kp3
    have s3 := s.mono kp
    obtain ⟨d', e, k4⟩ := go_lift (k3 H3 kp3)
    cases ek : kyOf tk y with
    | none => rw [ek] at e; cases e
    | some qk =>
      rw [ek] at e
      cases e
      obtain ⟨q2, us2, e2, ha3, ok3, r3⟩ := (b1.mono s1 (kp2.trans kp3)).dct s3
      cases e2
      have b2' := b2.mono (s.mono kp12) kp3
      obtain ⟨o, gg, h1', h2'⟩ := dget_ok ha3 ok3 r3 ek (b2'.key s3 ek)
      refine ⟨o, gg, ?_⟩
      cases c : dlook ks vs qk with
      | none =>
        dsimp only at k4
        rw [c] at k4
        rw [h2' c]
        exact k4 H3 _ a3 kp b3
      | some x =>
        dsimp only at k4
        rw [c] at k4
        obtain ⟨u, rfl, pu⟩ := h1' x c
        exact k4 H3 _ a3 kp pu
  | _ => exact (k1 H1 kp1).elim
end
end Ev
end
section
set_option Elab.async false
set_option linter.all false
set_option maxRecDepth 100000
set_option maxHeartbeats 2000000
namespace Ev
open PySem PySem.Spec PyProof.Rows L2

section
variable {X : Cx} {W : Wd} {Γ : List (Fn W.S)} {c : Cfg} {k : Nat} {sc ws : Scope} {Wx : WX}

/-! ### the block of a comprehension -/
theorem relS_eq (scope sc : Scope) : relS' scope sc = L2.relS scope sc := rfl
theorem blk_ok {N : List PySem.Str} {sc scope : Scope} {own : List (PySem.Str × Nat)} (h : blkB N sc scope own = true) : BlkOk N sc scope own := blkOk_by h
theorem passW0 {X : Cx} (σ : L2.St) : PassesAt (L2.CX X.prog X.w) X σ (WE W0 σ) := passAt (fun _ _ h => by obtain ⟨_, _, _, _, _, _, _, _, _, _, _, _, _, _, _, _, w⟩ := h; exact w.elim) σ
theorem CK.blk (C : CK W Γ c k sc ws Wx X) {scope : Scope} (ok : BlkOk c.N sc scope (ownP c.N scope)) (s : Shared) (H : Hp) (C1 : Addr) (cl : List (PySem.Str × Addr)) (fp : List Addr) : CK W Γ c k (relS' scope sc) scope W0 (X.blk s H scope (compEnvC scope cl C1 X.env) fp) where
  hK := C.hK
  calm := C.calm
  room := C.room
  gd := C.gd
  hN := C.hN
  nd := C.nd
  hsc := by
    show L2.relS scope X.env.scope = _
    rw [C.hsc]; rfl
  fnk := ok.kind
  wl := fun x e => lookup_relS_keep (sc := sc) (by simp) e
  wc := fun x e => ⟨lookup_relS_keep (sc := sc) (by simp) e, by
    show (scope.names.lookup x == some NameKind.cell) = true
    rw [e]; rfl⟩
  pass := fun σ => passW0 σ
  fns := C.fns
  kw := C.kw
  blt := C.blt
  gc := C.gc

/-! ### what walks -/
def isTgTup : Tg → Bool
  | .tup _ => true
  | _ => false
theorem tSrc_imp {vars fr : List Nat} {f f' : Env → W.S → R W.S (List D)} {σ : L2.St} {H : Hp} {Rr : It → Hp → Prop} (hf : ∀ ρ s, f ρ s ≠ .bad → f' ρ s = f ρ s) (h : tSrc W Wx vars fr f σ H Rr) : tSrc W Wx vars fr f' σ H Rr := by
  obtain ⟨H0, Z, ρ, st, s, a, g⟩ := h
  refine ⟨H0, Z, ρ, st, s, a, ?_⟩
  rw [hf ρ st g.nb]
  exact g
theorem PE_V {e : Expr} {ir : IE} (h : Snd X W Γ Wx e ir) : PE X e (tEv W Wx (qV W ir.vars) (evE Γ true ir)) := h.v
/-- what a source is read as -/
structure SndS (X : Cx) (W : Wd) (Γ : List (Fn W.S)) (Wx : WX) (tg e : Expr) (src : ISrc) : Prop where
  i : ∀ fr : List Nat, PI X tg e (tSrc W Wx src.vars fr (evSrc Γ src))
theorem ss_seq (C : CK W Γ c k sc ws Wx X) {tg e : Expr} {x : IE} (h : Snd X W Γ Wx e x) : SndS X W Γ Wx tg e (.seq x) :=
  ⟨fun fr => PI.imp (PI.or (pi_list h.v) (pi_tup h.v)) fun σ H Rr g => src_seq C.hK (fun _ q => q) g⟩
theorem ss_rng1 (C : CK W Γ c k sc ws Wx X) {tg a : Expr} {x : IE} {p pos : Pos} (hg : isGl sc "range" = true) (hm : X.mg "range" = none) (hs : notStar a = true) (h : Snd X W Γ Wx a x) : SndS X W Γ Wx tg (.Call (.Name "range" p) [a] [] pos) (.rng1 x) :=
  ⟨fun fr => PI.imp (pi_range1 (C.gl hg) hm (pa_cons h.b pa_nil (star_ne hs _ _)) (star_ne hs _ _)) fun σ H Rr g => src_rng1 g⟩
theorem ss_rng2 (C : CK W Γ c k sc ws Wx X) {tg a b : Expr} {x y : IE} {p pos : Pos} (hg : isGl sc "range" = true) (hm : X.mg "range" = none) (hs : notStar a = true) (hs2 : notStar b = true) (h : Snd X W Γ Wx a x) (h2 : Snd X W Γ Wx b y) : SndS X W Γ Wx tg (.Call (.Name "range" p) [a, b] [] pos) (.rng2 x y) :=
  ⟨fun fr => PI.imp (pi_range2 (C.gl hg) hm (pa_cons h.b (pa_cons h2.b pa_nil (star_ne hs2 _ _)) (star_ne hs _ _)) (by rw [star_ne hs, star_ne hs2]; rfl) (star_ne hs2 _ _)) fun σ H Rr g => src_rng2 g⟩
theorem ss_rev (C : CK W Γ c k sc ws Wx X) {tg a : Expr} {x : IE} {p pos : Pos} (hg : isGl sc "reversed" = true) (hm : X.mg "reversed" = none) (hs : notStar a = true) (h : Snd X W Γ Wx a x) : SndS X W Γ Wx tg (.Call (.Name "reversed" p) [a] [] pos) (.rev x) :=
  ⟨fun fr => PI.imp (RT.pi_revA (C.gl hg) hm h.v (star_ne hs _ _)) fun σ H Rr g => src_rev C.hK (fun _ q => q) g⟩
theorem ss_rrng1 (C : CK W Γ c k sc ws Wx X) {tg a : Expr} {x : IE} {p pos p2 pos2 : Pos} (hg : isGl sc "reversed" = true) (hm : X.mg "reversed" = none) (hg2 : isGl sc "range" = true) (hm2 : X.mg "range" = none) (hs : notStar a = true) (h : Snd X W Γ Wx a x) :
    SndS X W Γ Wx tg (.Call (.Name "reversed" p) [.Call (.Name "range" p2) [a] [] pos2] [] pos) (.rrng1 x) :=
  ⟨fun fr => PI.imp (pi_revR (C.gl hg) hm (prg_1 (C.gl hg2) hm2 h.b (star_ne hs _ _))) fun σ H Rr g => src_rrng1 g⟩
theorem ss_rrng2 (C : CK W Γ c k sc ws Wx X) {tg a b : Expr} {x y : IE} {p pos p2 pos2 : Pos} (hg : isGl sc "reversed" = true) (hm : X.mg "reversed" = none) (hg2 : isGl sc "range" = true) (hm2 : X.mg "range" = none) (hs : notStar a = true) (hs2 : notStar b = true) (h : Snd X W Γ Wx a x) (h2 : Snd X W Γ Wx b y) :
    SndS X W Γ Wx tg (.Call (.Name "reversed" p) [.Call (.Name "range" p2) [a, b] [] pos2] [] pos) (.rrng2 x y) :=
  ⟨fun fr => PI.imp (pi_revR (C.gl hg) hm (prg_2 (C.gl hg2) hm2 h.b h2.b (star_ne hs _ _) (star_ne hs2 _ _) (by rw [star_ne hs2]; rfl))) fun σ H Rr g => src_rrng2 g⟩
theorem ss_enum (C : CK W Γ c k sc ws Wx X) {elts : List Expr} {kk : Nat} {tpos : Pos} {a : Expr} {x : IE} {p pos : Pos} (hg : isGl sc "enumerate" = true) (hm : X.mg "enumerate" = none) (hs : notStar a = true) (h : Snd X W Γ Wx a x) : SndS X W Γ Wx (.Tuple elts kk tpos) (.Call (.Name "enumerate" p) [a] [] pos) (.enum x) :=
  ⟨fun fr => PI.imp (pi_enA (C.gl hg) hm (pa_cons h.v pa_nil (star_ne hs _ _)) (star_ne hs _ _)) fun σ H Rr g => src_enumD C.hK (vs := x.vars) (fun _ q => q) g⟩
theorem ss_zip (C : CK W Γ c k sc ws Wx X) {elts : List Expr} {kk : Nat} {tpos : Pos} {a b : Expr} {x y : IE} {p pos : Pos} (hg : isGl sc "zip" = true) (hm : X.mg "zip" = none) (hs : notStar a = true) (hs2 : notStar b = true) (h : Snd X W Γ Wx a x) (h2 : Snd X W Γ Wx b y) : SndS X W Γ Wx (.Tuple elts kk tpos) (.Call (.Name "zip" p) [a, b] [] pos) (.zip x y) :=
  ⟨fun fr => PI.imp (RZ.pi_zipA (C.gl hg) hm (pa_cons h.v (pa_cons h2.v pa_nil (star_ne hs2 _ _)) (star_ne hs _ _)) (star_ne hs _ _) (by rw [star_ne hs2]; rfl)) fun σ H Rr g => src_zip C.hK (fun i q => List.mem_append_left _ q) (fun i q => List.mem_append_right _ q) g⟩
end
end Ev
end
section
set_option Elab.async false
set_option linter.all false
set_option maxRecDepth 100000
set_option maxHeartbeats 2000000
namespace Ev
open PySem PySem.Spec PyProof.Rows L2

section
variable {X : Cx} {W : Wd} {Γ : List (Fn W.S)} {c : Cfg} {k : Nat} {sc ws : Scope} {Wx : WX}
/-! ### targets -/
theorem pgs_names (C : CK W Γ c k sc ws Wx X) : ∀ {es : List Expr} {xs : List PySem.Str} {l : List Nat}, namesOf es = some xs → xs.all (wrt ws) = true → ixsOf c.N xs = some l →
    PGs X es (gAll l) ∧ (assignEach es X.env).length = l.length ∧ (assignEach es X.env).findIdx? (·.1) = none
  | [], xs, l, h1, h2, h3 => by
    cases h1
    cases h3
    exact ⟨pgs_nil, rfl, rfl⟩
  | e :: r, xs, l, h1, h2, h3 => by
    cases e <;> first | (cases h1; done) | skip
    rename_i x p
    cases q : namesOf r with
    | none => unfold namesOf at h1; rw [q] at h1; cases h1
    | some ys =>
      have e1 : xs = x :: ys := by unfold namesOf at h1; rw [q] at h1; cases h1; rfl
      subst e1
      rw [List.all_cons, Bool.and_eq_true] at h2
      unfold ixsOf at h3
      split at h3
      · rename_i i l' hi hl
        cases h3
        obtain ⟨g, len, fi⟩ := pgs_names C q h2.2 hl
        have lo := C.loc h2.1
        refine ⟨pgs_cons (pg_name C.nd' (C.ix hi) lo.1 lo.2) g, ?_, ?_⟩
        · show (assignEach r X.env).length + 1 = _
          rw [len]; rfl
        · have : assignEach (.Name x p :: r) X.env = (false, assign (.Name x p) X.env) :: assignEach r X.env := rfl
          rw [this, List.findIdx?_cons]
          simp only [Bool.false_eq_true, if_false, fi]
          rfl
      · cases h3
theorem pg_of (C : CK W Γ c k sc ws Wx X) {tg : Expr} {t : Tg} (h : compTg c.N ws tg = some t) : PG X tg (gOf X.K t) := by
  cases tg <;> first | (cases h; done) | skip
  · rename_i x p
    unfold compTg at h
    dsimp only at h
    split at h
    · rename_i hw
      cases q : ixOf x c.N with
      | none => rw [q] at h; cases h
      | some i =>
        rw [q] at h
        cases h
        have lo := C.loc hw
        exact pg_name C.nd' (C.ix q) lo.1 lo.2
    · cases h
  · rename_i es kk p
    unfold compTg at h
    dsimp only at h
    split at h
    · rename_i xs hx
      split at h
      · rename_i hw
        cases q : ixsOf c.N xs with
        | none => rw [q] at h; cases h
        | some l =>
          rw [q] at h
          cases h
          obtain ⟨g, len, fi⟩ := pgs_names C hx hw q
          exact pg_tup C.calm g len fi
      · cases h
    · cases h

/-! ### tests -/
theorem PTs.imp {X : Cx} {e : List Expr} {t t' : TT} (h : PTs X e t) (i : ∀ σ H Q, t' σ H Q → t σ H Q) : PTs X e t' := ⟨fun pins s σ H Q I q => h.run pins s σ H Q I (i σ H Q q)⟩
theorem pts_N : PTs X [] (tEvT W Wx (evT Γ .nil)) := PTs.imp pts_nil fun σ H Q g => by
  obtain ⟨H0, Z, ρ, st, s, a, g⟩ := g
  have g' : ∀ H', W.At H' st → Kp W H H' → Q true H' := g
  exact g' H a (.refl W H)
theorem pts_1 {e : Expr} {x : IE} (ni : notIf e = true) (h : Snd X W Γ Wx e x) : PTs X [e] (tEvT W Wx (evT Γ (.cons x .nil))) := PTs.imp (pts_one (h.t ni)) fun σ H Q g => by
  obtain ⟨H0, Z, ρ, st, s, a, g⟩ := g
  refine ⟨H0, Z, ρ, st, s, a, ?_⟩
  have g' : Go W Wx σ H ((evE Γ true x ρ st).bind fun x s1 => match truD x with
    | some true => .ok true s1
    | some false => .ok false s1
    | none => .bad) (fun b st' => ∀ H', W.At H' st' → Kp W H H' → Q b H') := g
  show Go W Wx σ H ((evE Γ true x ρ st).bind fun x s1 => R.lift (truD x) s1) _
  revert g'
  cases evE Γ true x ρ st with
  | bad => exact fun g => g
  | ex e s1 => exact fun g => g
  | ok d s1 =>
    simp only [R.bind_ok]
    cases truD d with
    | none => exact fun g => g
    | some b => cases b <;> exact fun g => g

/-! ### a list comprehension -/
theorem lc_u {W : Wd} {Γ : List (Fn W.S)} {b : Bool} {e1 : IE} {t : Tg} {own : List Nat} {src : ISrc} {f : IEs} (ρ : Env) (s : W.S) : evE Γ b (.lc e1 t own src f) ρ s = (evSrc Γ src ρ s).bind fun items s1 => (turns (turnF t own (evT Γ f) (evU Γ false e1) ρ) items [] s1).bind fun l s2 => .ok (.lst l) s2 := by
  rw [evE]
  congr 1
  funext items s1
  congr 2
  funext d s2
  unfold turnF
  cases bindTg t d (wipeE ρ own) with
  | none => rfl
  | some ρ1 =>
    dsimp only
    congr 1
    funext c s3
    cases c with
    | false => rfl
    | true =>
      simp only [if_true]
      unfold evU
      cases evE Γ false e1 ρ1 s3 <;> rfl
theorem tEv_eq {W : Wd} {Wx : WX} {q : Pq} {f g : Env → W.S → R W.S D} {σ : L2.St} {H : Hp} {Q : VK} (e : ∀ ρ s, f ρ s = g ρ s) (h : tEv W Wx q f σ H Q) : tEv W Wx q g σ H Q := by
  have : f = g := funext fun ρ => funext fun s => e ρ s
  rw [← this]; exact h
theorem not_folded {iter : Expr} (h : notSet iter = true) (env : PySem.Env) (x : Value) : foldedSetIterable iter env x = pure x := by
  cases iter <;> first | rfl | (cases h)
theorem snd_lc (C : CK W Γ c k sc ws Wx X) {elt tg iter : Expr} {ifs : List Expr} {scope : Scope} {p : Pos} {t : Tg} {src : ISrc} {f : IEs} {e1 : IE} (hB : blkB c.N sc scope (ownP c.N scope) = true) (hns : notSet iter = true) (ht : compTg c.N scope tg = some t)
    (hsrc : SndS X W Γ Wx tg iter src) (hf : ∀ X', CK W Γ c k (relS' scope sc) scope W0 X' → PTs X' ifs (tEvT W W0 (evT Γ f))) (he : ∀ X', CK W Γ c k (relS' scope sc) scope W0 X' → Snd X' W Γ W0 elt e1)
    (hall : ∀ i ∈ t.ids, i ∈ (ownP c.N scope).map (·.2)) : Snd X W Γ Wx (.ListComp elt [⟨tg, iter, ifs, 0⟩] scope p) (.lc e1 t ((ownP c.N scope).map (·.2)) src f) := by
  have ok := blk_ok hB
  have ok' : BlkOk X.N X.env.scope scope (ownP c.N scope) := by rw [C.hN, C.hsc]; exact ok
  have K : ∀ s H C1 cl fp, CK W Γ c k (relS' scope sc) scope W0 (X.blk s H scope (compEnvC scope cl C1 X.env) fp) := fun s H C1 cl fp => C.blk ok s H C1 cl fp
  have base := pe_lc (pos := p) (g := gOf X.K t) C.calm C.nd' (hsrc.i []) ok' (fun s H C1 cl fp => pg_of (K s H C1 cl fp) ht) (fun s H C1 cl fp => hf _ (K s H C1 cl fp)) (fun s H C1 cl fp => (he _ (K s H C1 cl fp)).nu) (not_folded hns _)
  refine mkF C.hK rfl (PE.imp base fun σ H Q g => ?_) (fun b _ => PT_of C.hK b fun _ => rfl) (fun _ _ _ e => nomatch e)
  exact ev_lc C.hK hall (fun _ _ _ g => g) (tEv_eq lc_u g)
/-- the very list, as a statement stores it -/
theorem set_lc (C : CK W Γ c k sc sc Wx X) {elt tg iter : Expr} {ifs : List Expr} {scope : Scope} {p py spos : Pos} {y : PySem.Str} {i : Nat} {t : Tg} {src : ISrc} {f : IEs} {e1 : IE} (hy : ixOf y c.N = some i) (hyl : isLoc sc y = true) (hl : (py.line == p.line) = true)
    (ha : (scope.names.any fun (n, k) => n == y && (k == .local || k == .cell)) = false) (hB : blkB c.N sc scope (ownP c.N scope) = true) (hns : notSet iter = true) (ht : compTg c.N scope tg = some t)
    (hsrc : SndS X W Γ Wx tg iter src) (hf : ∀ X', CK W Γ c k (relS' scope sc) scope W0 X' → PTs X' ifs (tEvT W W0 (evT Γ f))) (he : ∀ X', CK W Γ c k (relS' scope sc) scope W0 X' → Snd X' W Γ W0 elt e1)
    (hall : ∀ i ∈ t.ids, i ∈ (ownP c.N scope).map (·.2)) : PS X (.Assign [.Name y py] (.ListComp elt [⟨tg, iter, ifs, 0⟩] scope p) spos) (tAsg (tEv W Wx (qF W) (evE Γ false (.lc e1 t ((ownP c.N scope).map (·.2)) src f))) (gName i)) := by
  have ok := blk_ok hB
  have ok' : BlkOk X.N X.env.scope scope (ownP c.N scope) := by rw [C.hN, C.hsc]; exact ok
  have K : ∀ s H C1 cl fp, CK W Γ c k (relS' scope sc) scope W0 (X.blk s H scope (compEnvC scope cl C1 X.env) fp) := fun s H C1 cl fp => C.blk ok s H C1 cl fp
  have hyl' : X.env.scope.names.lookup y = some .local := by
    rw [C.hsc]
    unfold isLoc at hyl
    split at hyl
    · assumption
    · cases hyl
  have base := ps_setLc (g := gOf X.K t) (pos := p) (py := py) (spos := spos) (elt := elt) C.calm C.nd' (C.ix hy) hyl' (sw_true (by rw [C.hsc]; exact C.fnk) hyl' hl ha) (hsrc.i []) ok' (fun s H C1 cl fp => pg_of (K s H C1 cl fp) ht) (fun s H C1 cl fp => hf _ (K s H C1 cl fp)) (fun s H C1 cl fp => (he _ (K s H C1 cl fp)).nu) (not_folded hns _)
  refine PS.imp base fun D σ H g => ?_
  exact ev_lc C.hK hall (fun _ _ _ g => g) (tEv_eq lc_u g)
end
end Ev
end
section
set_option Elab.async false
set_option linter.all false
set_option maxRecDepth 100000
set_option maxHeartbeats 4000000
namespace Ev
open PySem PySem.Spec PyProof.Rows L2

/-- all that the compiler gives at n is sound -/
structure SoundAt (W : Wd) (Γ : List (Fn W.S)) (c : Cfg) (k n : Nat) : Prop where
  e : ∀ {sc ws e ir X Wx}, CK W Γ c k sc ws Wx X → comp c n sc ws e = some ir → Snd X W Γ Wx e ir ∧ notStar e = true
  a : ∀ {sc ws es irs X Wx}, CK W Γ c k sc ws Wx X → compA c n sc ws es = some irs → SndA X W Γ Wx es irs
  kk : ∀ {sc ws irs X Wx} (kws : List Keyword), CK W Γ c k sc ws Wx X → compA c n sc ws (kws.map (·.value)) = some irs → SndK X W Γ Wx kws irs
  d : ∀ {sc ws es irs X Wx}, CK W Γ c k sc ws Wx X → compD c n sc ws es = some irs → PA X es (tEvs W Wx (qNs W) (evs Γ false irs))
  t : ∀ {sc ws es irs X Wx}, CK W Γ c k sc ws Wx X → compT c n sc ws es = some irs → PTs X es (tEvT W Wx (evT Γ irs))
  o : ∀ {sc ws o io X Wx}, CK W Γ c k sc ws Wx X → compO c n sc ws o = some io → PO X o (tEvO W Wx (evO Γ io))
  s : ∀ {sc ws e src X Wx tg}, CK W Γ c k sc ws Wx X → compSrc c n sc ws (isTupE tg) e = some src → SndS X W Γ Wx tg e src
theorem map_some {α β : Type} {f : α → β} {o : Option α} {b : β} (h : o.map f = some b) : ∃ a, o = some a ∧ f a = b := by
  cases o with
  | none => cases h
  | some a => exact ⟨a, rfl, Option.some.inj h⟩
section
variable {W : Wd} {Γ : List (Fn W.S)} {c : Cfg} {k n : Nat}
theorem sound_a (S : SoundAt W Γ c k n) {sc ws es irs X Wx} (C : CK W Γ c k sc ws Wx X) (h : compA c (n + 1) sc ws es = some irs) : SndA X W Γ Wx es irs := by
  cases es with
  | nil => unfold compA at h; cases h; exact sndA_nil
  | cons e r =>
    unfold compA at h
    split at h
    · rename_i h1 h2
      cases h
      have := S.e C h1
      exact sndA_cons this.2 this.1 (S.a C h2)
    · cases h
theorem sound_kk (S : SoundAt W Γ c k n) {sc ws irs X Wx} (kws : List Keyword) (C : CK W Γ c k sc ws Wx X) (h : compA c (n + 1) sc ws (kws.map (·.value)) = some irs) : SndK X W Γ Wx kws irs := by
  cases kws with
  | nil => unfold compA at h; cases h; exact sndK_nil
  | cons e r =>
    obtain ⟨nm, e, kp⟩ := e
    rw [List.map_cons] at h
    unfold compA at h
    split at h
    · rename_i h1 h2
      cases h
      exact sndK_cons (S.e C h1).1 (S.kk r C h2)
    · cases h
theorem sound_d (S : SoundAt W Γ c k n) {sc ws es irs X Wx} (C : CK W Γ c k sc ws Wx X) (h : compD c (n + 1) sc ws es = some irs) : PA X es (tEvs W Wx (qNs W) (evs Γ false irs)) := by
  cases es with
  | nil => unfold compD at h; cases h; exact sndD_nil
  | cons e r =>
    unfold compD at h
    split at h
    · cases ‹_ = ([] : List Expr)›
    · rename_i e1 p r1 he
      cases he
      split at h
      · rename_i h1 h2
        cases h
        exact sndD_star C (S.e C h1).1 (S.d C h2)
      · cases h
    · rename_i e1 r1 hne he
      cases he
      split at h
      · rename_i h1 h2
        cases h
        have := S.e C h1
        exact sndD_cons this.2 this.1 (S.d C h2)
      · cases h
theorem sound_t (S : SoundAt W Γ c k n) {sc ws es irs X Wx} (C : CK W Γ c k sc ws Wx X) (h : compT c (n + 1) sc ws es = some irs) : PTs X es (tEvT W Wx (evT Γ irs)) := by
  unfold compT at h
  split at h
  · cases h; exact pts_N
  · rename_i e
    split at h
    · rename_i ni
      obtain ⟨x, h1, rfl⟩ := map_some h
      exact pts_1 ni (S.e C h1).1
    · cases h
  · cases h
theorem sound_o (S : SoundAt W Γ c k n) {sc ws o io X Wx} (C : CK W Γ c k sc ws Wx X) (h : compO c (n + 1) sc ws o = some io) : PO X o (tEvO W Wx (evO Γ io)) := by
  cases o with
  | none => unfold compO at h; cases h; exact sndO_none
  | some e =>
    unfold compO at h
    obtain ⟨x, h1, rfl⟩ := map_some h
    exact sndO_some (S.e C h1).1
theorem eqs_of {x s : PySem.Str} (h : eqs x s = true) : x = s := of_decide_eq_true h
theorem sound_s (S : SoundAt W Γ c k n) {sc ws e src X Wx tg} (C : CK W Γ c k sc ws Wx X) (h : compSrc c (n + 1) sc ws (isTupE tg) e = some src) : SndS X W Γ Wx tg e src := by
  unfold compSrc at h
  split at h
  · rename_i x p a pos
    split at h
    · rename_i hc
      simp only [Bool.and_eq_true, Bool.not_eq_true', Option.isSome_eq_false_iff, Option.isNone_iff_eq_none] at hc
      obtain ⟨⟨hg, hn⟩, hf⟩ := hc
      split at h
      · rename_i e1
        have e1 := eqs_of e1; subst e1
        obtain ⟨y, h1, rfl⟩ := map_some h
        have := S.e C h1
        exact ss_rng1 C hg (C.blt _ (by decide) hf) this.2 this.1
      split at h
      · rename_i e1
        have e1 := eqs_of e1; subst e1
        split at h
        · rename_i ht
          obtain ⟨y, h1, rfl⟩ := map_some h
          have := S.e C h1
          cases tg <;> first | (cases ht; done) | skip
          exact ss_enum C hg (C.blt _ (by decide) hf) this.2 this.1
        · cases h
      split at h
      · rename_i e1
        have e1 := eqs_of e1; subst e1
        have hm := C.blt "reversed" (by decide) hf
        split at h
        · split at h
          · rename_i hq
            simp only [Bool.and_eq_true, Bool.not_eq_true', Option.isSome_eq_false_iff, Option.isNone_iff_eq_none] at hq
            obtain ⟨⟨g2, e2⟩, f2⟩ := hq
            have e2 := eqs_of e2; subst e2
            obtain ⟨z, h1, rfl⟩ := map_some h
            have := S.e C h1
            exact ss_rrng1 C hg hm g2 (C.blt _ (by decide) f2) this.2 this.1
          · obtain ⟨z, h1, rfl⟩ := map_some h
            have := S.e C h1
            exact ss_rev C hg hm this.2 this.1
        · split at h
          · rename_i hq
            simp only [Bool.and_eq_true, Bool.not_eq_true', Option.isSome_eq_false_iff, Option.isNone_iff_eq_none] at hq
            obtain ⟨⟨g2, e2⟩, f2⟩ := hq
            have e2 := eqs_of e2; subst e2
            split at h
            · rename_i h1 h2
              cases h
              have a1 := S.e C h1
              have a2 := S.e C h2
              exact ss_rrng2 C hg hm g2 (C.blt _ (by decide) f2) a1.2 a2.2 a1.1 a2.1
            · cases h
          · obtain ⟨z, h1, rfl⟩ := map_some h
            have := S.e C h1
            exact ss_rev C hg hm this.2 this.1
        · obtain ⟨z, h1, rfl⟩ := map_some h
          have := S.e C h1
          exact ss_rev C hg hm this.2 this.1
      · obtain ⟨z, h1, rfl⟩ := map_some h
        exact ss_seq C (S.e C h1).1
    · obtain ⟨z, h1, rfl⟩ := map_some h
      exact ss_seq C (S.e C h1).1
  · rename_i x p a b pos
    split at h
    · rename_i hc
      simp only [Bool.and_eq_true, Bool.not_eq_true', Option.isSome_eq_false_iff, Option.isNone_iff_eq_none] at hc
      obtain ⟨⟨hg, hn⟩, hf⟩ := hc
      split at h
      · rename_i e1
        have e1 := eqs_of e1; subst e1
        split at h
        · rename_i h1 h2
          cases h
          have a1 := S.e C h1
          have a2 := S.e C h2
          exact ss_rng2 C hg (C.blt _ (by decide) hf) a1.2 a2.2 a1.1 a2.1
        · cases h
      split at h
      · rename_i e1
        have e1 := eqs_of e1; subst e1
        split at h
        · rename_i ht
          split at h
          · rename_i h1 h2
            cases h
            have a1 := S.e C h1
            have a2 := S.e C h2
            cases tg <;> first | (cases ht; done) | skip
            exact ss_zip C hg (C.blt _ (by decide) hf) a1.2 a2.2 a1.1 a2.1
          · cases h
        · cases h
      · obtain ⟨z, h1, rfl⟩ := map_some h
        exact ss_seq C (S.e C h1).1
    · obtain ⟨z, h1, rfl⟩ := map_some h
      exact ss_seq C (S.e C h1).1
  · obtain ⟨z, h1, rfl⟩ := map_some h
    exact ss_seq C (S.e C h1).1
end
end Ev
end
section
set_option Elab.async false
set_option linter.all false
set_option maxRecDepth 100000
set_option maxHeartbeats 2000000
namespace Ev
open PySem PySem.Spec PyProof.Rows L2
/-- the keys' addresses -/
theorem kt_addr {H : Hp} : ∀ {kvs : List (List Key × V)} {xs : List (List Key × Addr × Value)}, L2.KT H kvs xs → ∀ {rows : List (List Int)}, kvs.map (·.1) = rows.map (fun r => r.map Sum.inl) →
    xs.length = rows.length ∧ ∀ (j : Nat) (q : List Key × Addr × Value), xs[j]? = some q → ∃ r, rows[j]? = some r ∧ H q.2.1 = some (.tup (r.map V.int)) := by
  intro kvs xs r
  induction r with
  | nil => intro rows e; cases rows with
    | nil => exact ⟨rfl, fun j q h => by cases h⟩
    | cons _ _ => cases e
  | @cons p q ps qs h t ih =>
    intro rows e
    cases rows with
    | nil => cases e
    | cons r0 rows =>
      rw [List.map_cons, List.map_cons] at e
      injection e with e1 e2
      obtain ⟨i1, i2⟩ := ih e2
      refine ⟨by rw [List.length_cons, List.length_cons, i1], fun j z hj => ?_⟩
      cases j with
      | zero =>
        cases hj
        refine ⟨r0, rfl, ?_⟩
        have h2 := h.2.1
        rw [e1, List.map_map] at h2
        exact h2
      | succ j => exact i2 j z hj
section
variable {X : Cx} {W : Wd} {Γ : List (Fn W.S)} {c : Cfg} {k : Nat} {sc ws : Scope} {Wx : WX} {Z : Addr → Prop} {H H0 : Hp} {ρ : Env} {σ : L2.St} {st : W.S}
def rSrtD : List V → Hp → VK → Prop := fun vs H Q => ∃ (a : Addr) (kvs : List (List Key × V)) (rows : List (List Int)) (d : Nat) (B : Int), vs = [.ref a] ∧ H a = some (.dT kvs) ∧ kvs.map (·.1) = rows.map (fun r => r.map Sum.inl) ∧ rows.length < 64 ∧ 1 ≤ d ∧
  (∀ r ∈ rows, r.length = d ∧ TS.Bd B r) ∧ ∀ (ts : List (Addr × List Int)) (p : Addr), (ts.map (·.2)).Perm rows → ts.Pairwise (fun x y => TS.code B x.2 ≤ TS.code B y.2) → (∀ t ∈ ts, H t.1 = some (.tup (t.2.map V.int))) → H p = none → Q (.ref p) (upd H p (.lst (ts.map fun t => V.ref t.1)))
theorem cr_srtD (hcalm : X.calm = true) : CallR X (.builtin "sorted") rSrtD := by
  intro pins s σ H vs us Q I r q
  obtain ⟨a, kvs, rows, d, B, rfl, ha, hrows, h64, hd, hB, q⟩ := q
  rw [Vals.ref1 r]
  obtain ⟨_, lo, xs, rel, dd⟩ := dt_of I.hok ha
  obtain ⟨es, ep, hr, hs, he⟩ := dd.raw
  obtain ⟨xl, xat⟩ := kt_addr rel hrows
  have hes : es.size = rows.length := hs.trans xl
  refine Calls.call_function_entry kind_sorted plain_sorted entry_sorted (args_sorted1 _) ?_
  unfold Builtin.«sorted»
  refine wpAny_bind (m := checkCount "sorted" 1 1 _) (wpAny_pure (wpAny_bind (PySem.W.kdu_collect (A := X.A.in1) (KdlSrc.rawDict (es := es) (ep := ep) lo) (I.ok.hd hcalm) hr (by rw [hes, sizeLine_eq]; omega) fun h' tk acc hk hacc => ?_)))
  have I1 : Inv X pins σ H { s with heap := h', toks := tk } := I.kept hk
  have hal : acc.toList.length = rows.length := by rw [Array.length_toList, hacc.1, hes]
  -- each key is a tuple of ints
  have hitem : ∀ (j : Nat) (v : Value), acc.toList[j]? = some v → ∃ t r, v = .ref t ∧ rows[j]? = some r ∧ H t = some (.tup (r.map V.int)) := fun j v e => by
    obtain ⟨hi, ev⟩ := hacc.2 j v (by rw [← Array.getElem?_toList]; exact e)
    obtain ⟨y, hy, h1, _, _⟩ := he j hi
    obtain ⟨r0, hr0, ht⟩ := xat j y hy
    exact ⟨y.2.1, r0, ev.trans h1, hr0, ht⟩
  have hti : ∀ {t : Addr} {r : List Int}, H t = some (.tup (r.map V.int)) → TS.TupInts h' (.ref t) r := fun ht => tupI_raw I1 (.inl (.inl ht))
  have hmem : ∀ v, v ∈ acc.toList → ∃ t r, v = .ref t ∧ r ∈ rows ∧ H t = some (.tup (r.map V.int)) := fun v hv => by
    obtain ⟨j, hj, e⟩ := List.mem_iff_getElem.mp hv
    obtain ⟨t, r0, e1, e2, e3⟩ := hitem j v (List.getElem?_eq_some_iff.mpr ⟨hj, e⟩)
    exact ⟨t, r0, e1, List.mem_of_getElem? e2, e3⟩
  have hvs : (acc.toList.map (TS.intsOf h')) = rows := by
    apply List.ext_getElem?
    intro j
    rw [List.getElem?_map]
    cases e : acc.toList[j]? with
    | none =>
      have : rows[j]? = none := by
        rw [List.getElem?_eq_none_iff] at e ⊢
        rw [← hal]; exact e
      rw [this]; rfl
    | some v =>
      obtain ⟨t, r0, rfl, e2, e3⟩ := hitem j v e
      rw [e2]
      exact congrArg some (hti e3).ints
  refine wpAny_bind (wpAny_newList ?_ (by rw [hal, sizeLine_eq]; omega))
  have hoL : (h'.push (seqObj "list" acc.toList.toArray 0)).get? h'.objs.size = some (seqObj "list" acc.toList.toArray 0) := Heap.get?_push_size _ rfl
  have keep : ∀ b o, h'.get? b = some o → o.cls = .type "tuple" → (h'.push (seqObj "list" acc.toList.toArray 0)).get? b = some o := fun b o e _ => Heap.get?_push_of_some _ e
  show wpAny _ _ _ _ _ { s with heap := h'.push (seqObj "list" acc.toList.toArray 0), toks := tk }
  refine wpAny_bind (wpAny_holding (wpAny_call_entry slot_list_sort ⟨_, hoL, rfl⟩ entry_list_sort (TS.sort_tups (d := d) (B := B) hoL (by rw [hal]; exact h64) hd (fun v hv => ?_) (fun v => TS.code B (TS.intsOf h' v)) (fun v hv ns t => ?_) fun out a1 a2 => ⟨_, rfl, ?_⟩) (args_list_sort _)))
  · obtain ⟨t, r0, rfl, hm, e3⟩ := hmem v hv
    exact ⟨r0, (hti e3).keeps keep, hB r0 hm⟩
  · obtain ⟨t0, r0, rfl, hm, e3⟩ := hmem v hv
    have e : ns = r0 := t.ints.symm.trans ((hti e3).keeps keep).ints
    rw [e]
    show TS.code B (TS.intsOf h' (.ref t0)) = TS.code B r0
    rw [(hti e3).ints]
  · obtain ⟨e', he'⟩ := PyProof.Rows.sortedHeap_at (vs := acc.toList) (out := out) hoL
    have hout : ∀ u ∈ out.toList, ∃ t r, u = .ref t ∧ r ∈ rows ∧ H t = some (.tup (r.map V.int)) := fun u hu => hmem u (a1.mem_iff.mp hu)
    have hlen : (out.toList.map bkV).length ≤ sizeLine := by
      rw [List.length_map, a1.length_eq, hal, sizeLine_eq]; omega
    let ts : List (Addr × List Int) := out.toList.map fun u => ((match u with | .ref t => t | _ => 0), TS.intsOf h' u)
    have e1 : (ts.map fun t => V.ref t.1) = out.toList.map bkV := by
      rw [List.map_map]
      apply List.map_congr_left
      intro u hu
      obtain ⟨t, r0, rfl, _⟩ := hout u hu
      rfl
    refine wpAny_pure ⟨_, rfl, .ref h'.objs.size, upd H h'.objs.size (.lst (out.toList.map bkV)), I1.laid (t' := tk) (fun b u e => ?_) (Nat.le_refl _)
      ⟨hlen, out.toList, e', bkV_vals fun u hu => (by obtain ⟨t, r0, rfl, _⟩ := hout u hu; exact ⟨t, rfl⟩), by rw [Array.toArray_toList]; exact he'⟩, rfl, ?_⟩
    · have hb : b < h'.objs.size := Heap.lt_size e
      rw [PyProof.Rows.sortedHeap_old (Nat.ne_of_lt hb) (by rw [size_push']; exact Nat.lt_succ_of_lt hb)]
      exact Heap.get?_push_of_some _ e
    · rw [← e1]
      refine q ts _ ?_ ?_ (fun t ht => ?_) (I1.hok.fresh (Nat.le_refl _))
      · have z := a1.map (TS.intsOf h')
        rw [hvs] at z
        have e2 : ts.map (·.2) = out.toList.map (TS.intsOf h') := by
          rw [List.map_map]; rfl
        rw [e2]; exact z
      · exact List.pairwise_map.mpr a2
      · obtain ⟨u, hu, rfl⟩ := List.mem_map.mp ht
        obtain ⟨t, r0, rfl, _, e3⟩ := hout u hu
        show H t = some (.tup ((TS.intsOf h' (.ref t)).map V.int))
        rw [(hti e3).ints]; exact e3
end
end Ev
end
section
set_option Elab.async false
set_option linter.all false
set_option maxRecDepth 100000
set_option maxHeartbeats 2000000
namespace Ev
open PySem PySem.Spec PyProof.Rows L2

/-! ### the order of a sorted list -/
theorem ins_perm {α : Type} (lt : α → α → Bool) (x : α) : ∀ l : List α, (ins lt x l).Perm (x :: l)
  | [] => .refl _
  | y :: r => by
    unfold ins
    split
    · exact ((ins_perm lt x r).cons y).trans (.swap x y r)
    · exact .refl _
theorem isort_perm {α : Type} (lt : α → α → Bool) : ∀ l : List α, (isort lt l).Perm l
  | [] => .refl _
  | x :: r => (ins_perm lt x (isort lt r)).trans ((isort_perm lt r).cons x)
theorem ins_srt {α : Type} {lt : α → α → Bool} {rk : α → Int} {x : α} : ∀ {l : List α}, (∀ y ∈ l, lt y x = decide (rk y < rk x)) → l.Pairwise (fun a b => rk a ≤ rk b) → (ins lt x l).Pairwise (fun a b => rk a ≤ rk b)
  | [], _, _ => List.pairwise_singleton _ _
  | y :: r, h, p => by
    unfold ins
    rw [h y List.mem_cons_self]
    obtain ⟨p1, p2⟩ := List.pairwise_cons.mp p
    by_cases c : rk y < rk x
    · rw [decide_eq_true c, if_pos rfl]
      refine List.pairwise_cons.mpr ⟨fun z hz => ?_, ins_srt (fun z hz => h z (List.mem_cons_of_mem _ hz)) p2⟩
      rcases List.mem_cons.mp ((ins_perm lt x r).mem_iff.mp hz) with e | hz
      · rw [e]; omega
      · exact p1 z hz
    · rw [decide_eq_false c]
      refine List.pairwise_cons.mpr ⟨fun z hz => ?_, p⟩
      rcases List.mem_cons.mp hz with e | hz
      · rw [e]; omega
      · have := p1 z hz; omega
theorem isort_srt {α : Type} {lt : α → α → Bool} {rk : α → Int} : ∀ {l : List α}, (∀ y ∈ l, ∀ x ∈ l, lt y x = decide (rk y < rk x)) → (isort lt l).Pairwise (fun a b => rk a ≤ rk b)
  | [], _ => .nil
  | x :: r, h => ins_srt (fun y hy => h y (List.mem_cons_of_mem _ ((isort_perm lt r).mem_iff.mp hy)) x List.mem_cons_self) (isort_srt fun y hy z hz => h y (List.mem_cons_of_mem _ hy) z (List.mem_cons_of_mem _ hz))
theorem isort_of {α : Type} {lt : α → α → Bool} {rk : α → Int} {l l' : List α} (h : ∀ y ∈ l, ∀ x ∈ l, lt y x = decide (rk y < rk x)) (inj : ∀ y ∈ l, ∀ x ∈ l, rk y = rk x → y = x) (p : l'.Perm l) (s : l'.Pairwise (fun a b => rk a ≤ rk b)) : l' = isort lt l :=
  List.Perm.eq_of_pairwise (le := fun a b => rk a ≤ rk b) (fun a b ha hb h1 h2 => inj a (p.mem_iff.mp ha) b ((isort_perm lt l).mem_iff.mp hb) (by omega)) s (isort_srt h) (p.trans (isort_perm lt l).symm)
theorem lex_code {B : Int} : ∀ {x y : List Int}, x.length = y.length → TS.Bd B x → TS.Bd B y → lexLt x y = decide (TS.code B x < TS.code B y) ∧ (TS.code B x = TS.code B y → x = y)
  | [], [], _, _, _ => ⟨by unfold lexLt; simp, fun _ => rfl⟩
  | [], _ :: _, h, _, _ => by cases h
  | _ :: _, [], h, _, _ => by cases h
  | a :: x, b :: y, h, h1, h2 => by
    have hl : x.length = y.length := by simpa using h
    obtain ⟨q1, q2⟩ := lex_code hl h1.tail h2.tail
    unfold lexLt
    by_cases c : a = b
    · subst c
      rw [if_pos rfl, q1]
      have e := TS.code_same (B := B) (d := a) hl
      refine ⟨by simp only [e], fun e2 => ?_⟩
      have : TS.code B x = TS.code B y := by
        have z : a * B ^ x.length + TS.code B x = a * B ^ y.length + TS.code B y := e2
        rw [hl] at z; omega
      rw [q2 this]
    · rw [if_neg c]
      rcases Int.lt_or_gt_of_ne c with g | g
      · have := TS.code_lt (B := B) hl h1.tail h2.tail g
        exact ⟨by rw [decide_eq_true g, decide_eq_true this], fun e => by omega⟩
      · have := TS.code_lt (B := B) hl.symm h2.tail h1.tail g
        exact ⟨by rw [decide_eq_false (by omega), decide_eq_false (by omega)], fun e => by omega⟩
theorem bd_one : ∀ r : List Int, (∀ i ∈ r, 0 ≤ i) → ∃ B : Int, 0 ≤ B ∧ TS.Bd B r
  | [], _ => ⟨0, Int.le_refl _, fun m h => nomatch h⟩
  | i :: r, h => by
    obtain ⟨B, b0, hb⟩ := bd_one r fun j hj => h j (List.mem_cons_of_mem _ hj)
    have := h i List.mem_cons_self
    refine ⟨B + i + 1, by omega, fun m hm => ?_⟩
    rcases List.mem_cons.mp hm with e | hm
    · rw [e]; omega
    · have := hb m hm; omega
theorem bd_all : ∀ rs : List (List Int), (∀ r ∈ rs, ∀ i ∈ r, 0 ≤ i) → ∃ B : Int, 0 ≤ B ∧ ∀ r ∈ rs, TS.Bd B r
  | [], _ => ⟨0, Int.le_refl _, fun m h => nomatch h⟩
  | r :: rs, h => by
    obtain ⟨B, b0, hb⟩ := bd_all rs fun j hj => h j (List.mem_cons_of_mem _ hj)
    obtain ⟨C, c0, hc⟩ := bd_one r (h r List.mem_cons_self)
    refine ⟨B + C, by omega, fun x hx => ?_⟩
    rcases List.mem_cons.mp hx with e | hx
    · rw [e]; exact fun m hm => ⟨(hc m hm).1, by have := (hc m hm).2; omega⟩
    · exact fun m hm => ⟨(hb x hx m hm).1, by have := (hb x hx m hm).2; omega⟩
section
variable {X : Cx} {W : Wd} {Γ : List (Fn W.S)} {c : Cfg} {k : Nat} {sc ws : Scope} {Wx : WX} {Z : Addr → Prop} {H H0 : Hp} {ρ : Env} {σ : L2.St} {st : W.S}
theorem rps_perm {xs ys : List V} (p : xs.Perm ys) : ∀ {ds : List D}, Rps W Z H ds xs → ∃ es : List D, es.Perm ds ∧ Rps W Z H es ys := by
  induction p with
  | nil => exact fun {ds} r => ⟨ds, .refl _, r⟩
  | cons x p ih =>
    intro ds r
    cases ds with
    | nil => cases (show _ = [] from r)
    | cons d ds =>
      obtain ⟨v, us, e, h1, h2⟩ := r
      cases e
      obtain ⟨es, p1, p2⟩ := ih h2
      exact ⟨d :: es, p1.cons d, ⟨_, _, rfl, h1, p2⟩⟩
  | swap x y l =>
    intro ds r
    cases ds with
    | nil => cases (show _ = [] from r)
    | cons d ds =>
      obtain ⟨v, us, e, h1, h2⟩ := r
      cases e
      cases ds with
      | nil => cases (show _ = [] from h2)
      | cons d2 ds =>
        obtain ⟨v, us, e, h3, h4⟩ := h2
        cases e
        exact ⟨d2 :: d :: ds, .swap _ _ _, ⟨_, _, rfl, h3, _, _, rfl, h1, h4⟩⟩
  | trans p q ih1 ih2 =>
    intro ds r
    obtain ⟨es, p1, r1⟩ := ih1 r
    obtain ⟨fs, p2, r2⟩ := ih2 r1
    exact ⟨fs, p2.trans p1, r2⟩
theorem ints_eq : ∀ {l : List D} {is : List Int}, D.ints l = some is → l = is.map D.int
  | [], is, e => by cases e; rfl
  | d :: r, is, e => by
    cases d <;> first | (cases e; done) | skip
    unfold D.ints at e
    obtain ⟨js, e1, rfl⟩ := map_some e
    rw [ints_eq e1]; rfl
theorem rows_eq : ∀ {l : List D} {rs : List (List Int)}, D.rows l = some rs → l = rs.map D.row
  | [], is, e => by cases e; rfl
  | d :: r, is, e => by
    cases d <;> first | (cases e; done) | skip
    unfold D.rows at e
    split at e
    · rename_i h1 h2
      cases e
      rw [rows_eq h2, ints_eq h1]; rfl
    · cases e
theorem row_inj : ∀ {rs qs : List (List Int)}, rs.map D.row = qs.map D.row → rs = qs
  | [], [], _ => rfl
  | [], _ :: _, e => by cases e
  | _ :: _, [], e => by cases e
  | r :: rs, q :: qs, e => by
    rw [List.map_cons, List.map_cons] at e
    injection e with e1 e2
    have e3 : r.map D.int = q.map D.int := by
      unfold D.row at e1
      injection e1
    have : ∀ (a b : List Int), a.map D.int = b.map D.int → a = b := by
      intro a
      induction a with
      | nil => intro b h; cases b with
        | nil => rfl
        | cons _ _ => cases h
      | cons x a ih => intro b h; cases b with
        | nil => cases h
        | cons y b =>
          rw [List.map_cons, List.map_cons] at h
          injection h with h1 h2
          injection h1 with h1
          rw [h1, ih b h2]
    rw [this r q e3, row_inj e2]
theorem perm_rows {rs : List (List Int)} : ∀ {es : List D}, es.Perm (rs.map D.row) → ∃ qs : List (List Int), es = qs.map D.row ∧ qs.Perm rs := by
  intro es p
  have : ∀ x ∈ es, ∃ q, x = D.row q := fun x hx => by
    obtain ⟨q, _, e⟩ := List.mem_map.mp (p.mem_iff.mp hx)
    exact ⟨q, e.symm⟩
  have mk : ∀ l : List D, (∀ x ∈ l, ∃ q, x = D.row q) → ∃ qs : List (List Int), l = qs.map D.row := by
    intro l
    induction l with
    | nil => exact fun _ => ⟨[], rfl⟩
    | cons x l ih =>
      intro h
      obtain ⟨q, rfl⟩ := h x List.mem_cons_self
      obtain ⟨qs, rfl⟩ := ih fun y hy => h y (List.mem_cons_of_mem _ hy)
      exact ⟨q :: qs, rfl⟩
  obtain ⟨qs, rfl⟩ := mk es this
  let un : D → List Int := fun d => match d with
    | .tup l => (D.ints l).getD []
    | _ => []
  have hun : ∀ q : List Int, un (D.row q) = q := by
    intro q
    show (D.ints (q.map D.int)).getD [] = q
    have : ∀ q : List Int, D.ints (q.map D.int) = some q := by
      intro q
      induction q with
      | nil => rfl
      | cons x q ih => rw [List.map_cons]; unfold D.ints; rw [ih]; rfl
    rw [this]; rfl
  refine ⟨qs, rfl, ?_⟩
  have z := p.map un
  rw [List.map_map, List.map_map] at z
  have id' : (un ∘ D.row) = id := funext hun
  rw [id', List.map_id, List.map_id] at z
  exact z
theorem row_tupI (hK : X.K = W.K) {r : List Int} {v : V} (h : Rp W Z H (D.row r) v) : TupI X.K H v r := by
  obtain ⟨a, vs, rfl, t, q⟩ := h
  have e : vs = r.map V.int := Rps.ints (by
    have : ∀ q : List Int, D.ints (q.map D.int) = some q := by
      intro q
      induction q with
      | nil => rfl
      | cons x q ih => rw [List.map_cons]; unfold D.ints; rw [ih]; rfl
    exact this r) q
  subst e
  exact ⟨a, rfl, hK ▸ t.seq⟩
def rSrt (K : PySem.W.Frag) : List V → Hp → VK → Prop := fun vs H Q => rSortedI K vs H Q ∨ (∃ (d : Nat) (B : Int), 1 ≤ d ∧ rSortU K d B vs H Q) ∨ rSrtD vs H Q
theorem cr_srt (hc : X.calm = true) : CallR X (.builtin "sorted") (rSrt X.K) := fun pins s σ H xs us Q I r h => by
  rcases h with h | ⟨d, B, hd, h⟩ | h
  · exact cr_sortedI pins s σ H xs us Q I r h
  · exact cr_sortT hd pins s σ H xs us Q I r h
  · exact cr_srtD hc pins s σ H xs us Q I r h
theorem rows_srt (hK : X.K = W.K) {B : Int} : ∀ {qs : List (List Int)} {ys : List V}, Rps W Z H (qs.map D.row) ys → ys.Pairwise (fun x y => ∀ n m, TupI X.K H x n → TupI X.K H y m → TS.code B n ≤ TS.code B m) → qs.Pairwise (fun a b => TS.code B a ≤ TS.code B b)
  | [], _, _, _ => .nil
  | q :: qs, ys, r, p => by
    obtain ⟨v, us, rfl, h1, h2⟩ := r
    obtain ⟨p1, p2⟩ := List.pairwise_cons.mp p
    refine List.pairwise_cons.mpr ⟨fun b hb => ?_, rows_srt hK h2 p2⟩
    obtain ⟨i, hi, e⟩ := List.mem_iff_getElem.mp hb
    have hd : (qs.map D.row)[i]? = some (D.row b) := by rw [List.getElem?_map, List.getElem?_eq_getElem hi, e]; rfl
    obtain ⟨u, hu, pu⟩ := Rps.get h2 hd
    exact p1 u (List.mem_of_getElem? hu) _ _ (row_tupI hK h1) (row_tupI hK pu)
theorem srt_rows {ks : List Ky} {d : D} (e : sortD (ks.map (unKy true)) = some d) : ∃ rs : List (List Int), ks = rs.map (fun r => r.map Sum.inl) ∧ rs.length < 64 ∧ (∀ r ∈ rs, (r.length = (rs.headD []).length ∧ 1 ≤ r.length) ∧ ∀ i ∈ r, 0 ≤ i) ∧ d = .lst ((isort lexLt rs).map D.row) := by
  have one : ∀ (k : Ky) (is : List Int), D.ints (k.map kyD) = some is → k = is.map Sum.inl := by
    intro k
    induction k with
    | nil => intro is h; cases h; rfl
    | cons x k ih =>
      intro is h
      cases x with
      | inl i =>
        have h' : (D.ints (k.map kyD)).map (i :: ·) = some is := h
        obtain ⟨js, h1, rfl⟩ := map_some h'
        rw [ih js h1]; rfl
      | inr x => cases h
  have all : ∀ (ks : List Ky) (rs : List (List Int)), D.rows (ks.map (unKy true)) = some rs → ks = rs.map (fun r => r.map Sum.inl) := by
    intro ks
    induction ks with
    | nil => intro rs h; cases h; rfl
    | cons k ks ih =>
      intro rs h
      have h' : (match D.ints (k.map kyD), D.rows (ks.map (unKy true)) with
        | some x, some y => some (x :: y)
        | _, _ => none) = some rs := h
      split at h'
      · rename_i h1 h2
        cases h'
        rw [one k _ h1, ih _ h2]; rfl
      · cases h'
  unfold sortD at e
  split at e
  · rename_i is hi
    cases ks with
    | nil =>
      cases hi
      cases e
      exact ⟨[], rfl, (by decide : 0 < 64), (fun r h => absurd h (by simp)), rfl⟩
    | cons k ks => cases hi
  · split at e
    · rename_i rs hr
      split at e
      · rename_i hc
        cases e
        obtain ⟨h64, hall⟩ := hc
        rw [List.all_eq_true] at hall
        refine ⟨rs, all ks rs hr, h64, fun r hr => ?_, rfl⟩
        have := hall r hr
        rw [Bool.and_eq_true, decide_eq_true_eq, List.all_eq_true] at this
        exact ⟨this.1, fun i hi => of_decide_eq_true (this.2 i hi)⟩
      · cases e
    · cases e
theorem zip_keys : ∀ {ks : List Ky} {us : List V}, ks.length = us.length → (ks.zip us).map (·.1) = ks
  | [], [], _ => rfl
  | [], _ :: _, h => by cases h
  | _ :: _, [], h => by cases h
  | k :: ks, u :: us, h => by
    rw [List.zip_cons_cons, List.map_cons, zip_keys (by simpa using h)]
theorem rps_of_ts : ∀ {ts : List (Addr × List Int)}, (∀ t ∈ ts, H t.1 = some (.tup (t.2.map V.int))) → Rps W Z H (ts.map fun t => D.row t.2) (ts.map fun t => V.ref t.1)
  | [], _ => rfl
  | t :: ts, h => ⟨_, _, rfl, ⟨t.1, t.2.map V.int, rfl, .inl (h t List.mem_cons_self), rps_ints _⟩, rps_of_ts fun x hx => h x (List.mem_cons_of_mem _ hx)⟩
theorem bb_sortedD {ks : List Ky} {us0 : List D} {vs : List V} {d : D} {Q : VK} (s : SR W H0 Z ρ σ H) (a : W.At H st) (b : Bws W Z ρ σ H [.dct true ks us0] vs) (e : sortD (ks.map (unKy true)) = some d) (k : ∀ H' v, W.At H' st → Kp W H H' → qF W Z ρ σ H H' d v → Q v H') : rSrt X.K vs H Q := by
  obtain ⟨v, rfl, b1⟩ := b.one
  obtain ⟨p, us, rfl, ha, ok, r⟩ := b1.dct s
  obtain ⟨rs, rfl, h64, hx, rfl⟩ := srt_rows e
  obtain ⟨B, _, hB⟩ := bd_all rs fun r hr => (hx r hr).2
  have hl : (rs.map fun r => r.map (Sum.inl (β := PySem.Str))).length = us.length := ok.1.trans (Rps.length r).symm
  have fin : ∀ (ts : List (Addr × List Int)) (q : Addr), (ts.map (·.2)).Perm rs → ts.Pairwise (fun x y => TS.code B x.2 ≤ TS.code B y.2) → (∀ t ∈ ts, H t.1 = some (.tup (t.2.map V.int))) → H q = none → Q (.ref q) (upd H q (.lst (ts.map fun t => V.ref t.1))) := by
    intro ts q hp hs ht hq
    have e2 : ts.map (·.2) = isort lexLt rs := isort_of (rk := TS.code B) (fun y hy x hx' => (lex_code ((hx y hy).1.1.trans (hx x hx').1.1.symm) (hB y hy) (hB x hx')).1) (fun y hy x hx' => (lex_code ((hx y hy).1.1.trans (hx x hx').1.1.symm) (hB y hy) (hB x hx')).2) hp (List.pairwise_map.mpr hs)
    refine k _ _ (At.new a hq) (.new hq) (fr_lst s hq ?_)
    rw [← e2, List.map_map]
    exact rps_of_ts ht
  refine .inr (.inr ⟨p, _, rs, (if rs = [] then 1 else (rs.headD []).length), B, rfl, ha, zip_keys hl, h64, ?_, fun r hr => ⟨?_, hB r hr⟩, fin⟩)
  · by_cases hne : rs = []
    · rw [if_pos hne]; exact Nat.le_refl _
    · rw [if_neg hne]
      cases rs with
      | nil => exact absurd rfl hne
      | cons r0 rs => exact (hx r0 List.mem_cons_self).1.2
  · have hne : rs ≠ [] := fun h => by subst h; cases hr
    rw [if_neg hne]
    exact (hx r hr).1.1
theorem bb_sorted (hK : X.K = W.K) {ds : List D} {vs : List V} {d : D} {Q : VK} (s : SR W H0 Z ρ σ H) (a : W.At H st) (b : Bws W Z ρ σ H ds vs) (e : sortedF ds = some d) (k : ∀ H' v, W.At H' st → Kp W H H' → qF W Z ρ σ H H' d v → Q v H') : rSrt X.K vs H Q := by
  unfold sortedF at e
  split at e
  rotate_left
  · exact bb_sortedD s a b e k
  · cases e
  rename_i l
  obtain ⟨v, rfl, b1⟩ := b.one
  obtain ⟨p, xs, rfl, t, r⟩ := b1.lst s
  unfold sortD at e
  split at e
  · rename_i is hi
    cases e
    have ex : xs = is.map V.int := Rps.ints hi r
    subst ex
    refine .inl ⟨p, is, rfl, .inl t, fun ns' q hp hs hq => ?_⟩
    have e2 : ns' = isort (fun a b => decide (a < b)) is := isort_of (rk := id) (fun _ _ _ _ => rfl) (fun _ _ _ _ h => h) hp hs
    subst e2
    exact k _ _ (At.new a hq) (.new hq) (fr_lst s hq (rps_ints _))
  · split at e
    · rename_i rs hr
      split at e
      · rename_i hc
        cases e
        obtain ⟨h64, hall⟩ := hc
        rw [List.all_eq_true] at hall
        have el := rows_eq hr
        subst el
        have hx : ∀ r ∈ rs, (r.length = (rs.headD []).length ∧ 1 ≤ r.length) ∧ ∀ i ∈ r, 0 ≤ i := fun r hr => by
          have := hall r hr
          rw [Bool.and_eq_true, decide_eq_true_eq, List.all_eq_true] at this
          exact ⟨this.1, fun i hi => of_decide_eq_true (this.2 i hi)⟩
        obtain ⟨B, _, hB⟩ := bd_all rs fun r hr => (hx r hr).2
        have hlen : xs.length < 64 := by rw [Rps.length r, List.length_map]; exact h64
        by_cases hne : rs = []
        · subst hne
          have ex : xs = [] := r
          subst ex
          refine .inl ⟨p, [], rfl, .inl t, fun ns' q hp hs hq => ?_⟩
          have e2 : ns' = [] := hp.eq_nil
          subst e2
          exact k _ _ (At.new a hq) (.new hq) (fr_lst s hq (l := []) (vs := []) rfl)
        · have hd : 1 ≤ (rs.headD []).length := by
            cases rs with
            | nil => exact absurd rfl hne
            | cons r0 rs => exact (hx r0 List.mem_cons_self).1.2
          refine .inr (.inl ⟨(rs.headD []).length, B, hd, p, xs, rfl, .inl t, hlen, fun x hxm => ?_, fun ys q hp hs hq => ?_⟩)
          · obtain ⟨i, hi, ei⟩ := List.mem_iff_getElem.mp hxm
            obtain ⟨dd, e1, pr⟩ := r.getV (List.getElem?_eq_some_iff.mpr ⟨hi, ei⟩)
            rw [List.getElem?_map] at e1
            obtain ⟨r1, e3, rfl⟩ := map_some e1
            have hm := List.mem_of_getElem? e3
            exact ⟨r1, row_tupI hK pr, (hx r1 hm).1.1, hB r1 hm⟩
          · obtain ⟨es, pe, re⟩ := rps_perm hp.symm r
            obtain ⟨qs, rfl, pq⟩ := perm_rows pe
            have e2 : qs = isort lexLt rs := isort_of (rk := TS.code B) (fun y hy x hx' => (lex_code ((hx y hy).1.1.trans (hx x hx').1.1.symm) (hB y hy) (hB x hx')).1) (fun y hy x hx' => (lex_code ((hx y hy).1.1.trans (hx x hx').1.1.symm) (hB y hy) (hB x hx')).2) pq (rows_srt hK re hs)
            subst e2
            exact k _ _ (At.new a hq) (.new hq) (fr_lst s hq re)
      · cases e
    · cases e
theorem boot_sorted' : bootBuiltins "sorted" = some (.builtin "sorted") := by decide +kernel
theorem snd_sorted (C : CK W Γ c k sc ws Wx X) {e : Expr} {es : List Expr} {irs : IEs} {p pos : Pos} (hg : isGl sc "sorted" = true) (hf : fnOfN "sorted" c.fns = none) (ha : SndA X W Γ Wx (e :: es) irs) :
    Snd X W Γ Wx (.Call (.Name "sorted" p) (e :: es) [] pos) (.blt .sorted irs) := by
  have ns := ha.ns
  rw [List.all_cons, Bool.and_eq_true] at ns
  refine mkF C.hK rfl ?_ (fun b _ => PT_of C.hK b fun _ => rfl) (fun _ _ _ e => nomatch e)
  exact PE.imp (pe_callB (cr_srt C.calm) (C.gl hg) (C.blt _ (by decide) hf) boot_sorted' ha.pa (by decide) (by decide) (star_ne ns.1 _ _) (no_star ns.2)) fun σ H Q g => ev_blt (b := .sorted) (fun s a b e k => bb_sorted C.hK s a b e k) g
/-! ### sorted(set(x)), x a list of tuples of ints -/
theorem ddup_mem {x : List Int} : ∀ {l : List (List Int)}, x ∈ ddup l ↔ x ∈ l
  | [] => .rfl
  | y :: r => by
    unfold ddup
    split
    · rename_i h
      have h' : y ∈ ddup r := by simpa using h
      rw [ddup_mem, List.mem_cons]
      constructor
      · exact .inr
      · rintro (rfl | q)
        · exact ddup_mem.mp h'
        · exact q
    · rw [List.mem_cons, List.mem_cons, ddup_mem]
theorem ddup_nodup : ∀ l : List (List Int), (ddup l).Nodup
  | [] => .nil
  | y :: r => by
    unfold ddup
    split
    · exact ddup_nodup r
    · rename_i h
      exact List.nodup_cons.mpr ⟨by simpa using h, ddup_nodup r⟩
theorem rps_rows : ∀ {rs : List (List Int)} {xs : List V}, Rps W Z H (rs.map D.row) xs → ∃ ks : List (Addr × List Int), xs = ks.map (fun p => V.ref p.1) ∧ ks.map (·.2) = rs ∧ ∀ p ∈ ks, TpAt W H p.1 (p.2.map V.int)
  | [], xs, h => ⟨[], h, rfl, fun _ h => nomatch h⟩
  | r :: rs, xs, h => by
    obtain ⟨v, us, rfl, h1, h2⟩ := h
    obtain ⟨ks, rfl, e2, h3⟩ := rps_rows h2
    obtain ⟨a, vs, rfl, t, q⟩ := h1
    have e : vs = r.map V.int := Rps.ints (by
      have : ∀ q : List Int, D.ints (q.map D.int) = some q := by
        intro q
        induction q with
        | nil => rfl
        | cons x q ih => rw [List.map_cons]; unfold D.ints; rw [ih]; rfl
      exact this r) q
    subst e
    refine ⟨(a, r) :: ks, rfl, by rw [List.map_cons, e2], fun p hp => ?_⟩
    rcases List.mem_cons.mp hp with rfl | hp
    · exact t
    · exact h3 p hp
theorem rps_tp : ∀ {ts : List (Addr × List Int)}, (∀ t ∈ ts, TpAt W H t.1 (t.2.map V.int)) → Rps W Z H (ts.map fun t => D.row t.2) (ts.map fun t => V.ref t.1)
  | [], _ => rfl
  | t :: ts, h => ⟨_, _, rfl, ⟨t.1, t.2.map V.int, rfl, h t (by simp), rps_ints _⟩, rps_tp fun x hx => h x (by simp [hx])⟩
theorem tp_new {p : Addr} {o : HO} {a : Addr} {vs : List V} (hp : H p = none) (h : TpAt W H a vs) : TpAt W (upd H p o) a vs := h.elim (fun q => .inl ((Kp.new (W := W) hp).tups _ _ q)) .inr
theorem boot_set' : bootBuiltins "set" = some (.type "set") := by decide +kernel
theorem snd_sset (C : CK W Γ c k sc ws Wx X) {e : Expr} {irs : IEs} {p p2 pos pos2 : Pos} (hg : isGl sc "sorted" = true) (hf : fnOfN "sorted" c.fns = none) (hg2 : isGl sc "set" = true) (hf2 : fnOfN "set" c.fns = none) (ha : SndA X W Γ Wx [e] irs) :
    Snd X W Γ Wx (.Call (.Name "sorted" p) [.Call (.Name "set" p2) [e] [] pos2] [] pos) (.blt .sset irs) := by
  have ns := ha.ns
  rw [List.all_cons, Bool.and_eq_true] at ns
  refine mkF C.hK rfl ?_ (fun b _ => PT_of C.hK b fun _ => rfl) (fun _ _ _ e => nomatch e)
  have p1 := pe_callTy (p := p2) (pos := pos2) (cr_setOfT C.calm (by have := C.room.units65; omega)) (C.gl hg2) (C.blt _ (by decide) hf2) boot_set' ha.pa (by decide) (by decide) (star_ne ns.1 _ _) (no_star ns.2)
  refine PE.imp (pe_callB (cr_sortedT C.calm) (C.gl hg) (C.blt _ (by decide) hf) boot_sorted' (pa_cons p1 pa_nil) (by decide) (by decide) rfl rfl) fun σ H Q g => ?_
  obtain ⟨H0, Z, ρ, st, s, a, g⟩ := g
  refine ⟨H0, Z, ρ, st, s, a, (go_bind g).imp fun l st1 k1 H1 vs a1 kp1 b1 => ?_⟩
  obtain ⟨d, e, k3⟩ := go_lift (k1 H1 kp1)
  have s1 := s.mono kp1
  have e' : ssetF l = some d := by
    rw [← e]
    unfold bltS
    split
    · exact absurd ‹Blt.sset = Blt.len› (by decide)
    · rfl
  unfold ssetF at e'
  split at e'
  rotate_left
  · cases e'
  rename_i l0
  split at e'
  rotate_left
  · cases e'
  rename_i rs hr
  split at e'
  rotate_left
  · cases e'
  rename_i hc
  cases e'
  obtain ⟨h64, hall⟩ := hc
  rw [List.all_eq_true] at hall
  have el := rows_eq hr
  subst el
  have hx : ∀ r ∈ rs, (r.length = (rs.headD []).length ∧ 1 ≤ r.length) ∧ ∀ i ∈ r, 0 ≤ i := fun r hr => by
    have := hall r hr
    rw [Bool.and_eq_true, decide_eq_true_eq, List.all_eq_true] at this
    exact ⟨this.1, fun i hi => of_decide_eq_true (this.2 i hi)⟩
  obtain ⟨B, _, hB⟩ := bd_all rs fun r hr => (hx r hr).2
  obtain ⟨v, rfl, b2⟩ := b1.one
  obtain ⟨q0, xs, rfl, t, r⟩ := b2.lst s1
  obtain ⟨ks, rfl, ek, hk⟩ := rps_rows r
  have hlen : ks.length = rs.length := by rw [← ek, List.length_map]
  refine ⟨q0, ks, rfl, .inl t, fun p hp => C.hK ▸ (hk p hp).seq, by omega, fun a2 L hn hsub hsup => ?_⟩
  have hL : ∀ p ∈ L, p.2 ∈ rs := fun p hp => by rw [← ek]; exact List.mem_map.mpr ⟨p, hsub p hp, rfl⟩
  refine ⟨a2, L, (if rs = [] then 1 else (rs.headD []).length), B, rfl, upd_same, fun p hp => C.hK ▸ (tp_new hn (hk p (hsub p hp))).seq, ?_, fun p hp => ⟨?_, hB _ (hL p hp)⟩, fun L' q pm nd few pw hq => ?_⟩
  · by_cases hne : rs = []
    · rw [if_pos hne]; exact Nat.le_refl _
    · rw [if_neg hne]
      cases rs with
      | nil => exact absurd rfl hne
      | cons r0 rs => exact (hx r0 List.mem_cons_self).1.2
  · have hne : rs ≠ [] := fun h => by
      have := hL p hp
      rw [h] at this; cases this
    rw [if_neg hne]
    exact (hx _ (hL p hp)).1.1
  · have hpm : (L'.map (·.2)).Perm (ddup rs) := (List.perm_ext_iff_of_nodup nd (ddup_nodup rs)).mpr fun x => by
      rw [ddup_mem]
      constructor
      · intro h
        obtain ⟨p, hp, rfl⟩ := List.mem_map.mp h
        exact hL p (pm.mem_iff.mp hp)
      · intro h
        rw [← ek] at h
        obtain ⟨p, hp, rfl⟩ := List.mem_map.mp h
        exact ((pm.map (·.2)).mem_iff).mpr (hsup p hp)
    have e2 : L'.map (·.2) = isort lexLt (ddup rs) := isort_of (rk := TS.code B) (fun y hy x hx' => (lex_code ((hx y (ddup_mem.mp hy)).1.1.trans (hx x (ddup_mem.mp hx')).1.1.symm) (hB y (ddup_mem.mp hy)) (hB x (ddup_mem.mp hx'))).1) (fun y hy x hx' => (lex_code ((hx y (ddup_mem.mp hy)).1.1.trans (hx x (ddup_mem.mp hx')).1.1.symm) (hB y (ddup_mem.mp hy)) (hB x (ddup_mem.mp hx'))).2) hpm (List.pairwise_map.mpr pw)
    have rr : Rps W Z (upd H1 a2 (SetTO X.prog X.w a2 L)) ((isort lexLt (ddup rs)).map D.row) (L'.map fun t => V.ref t.1) := by
      rw [← e2, List.map_map]
      exact rps_tp fun t ht => tp_new hn (hk t (hsub t (pm.mem_iff.mp ht)))
    have kn := Kp.new (W := W) (o := SetTO X.prog X.w a2 L) hn
    exact k3 _ _ (At.new (At.new a1 hn) hq) ((kp1.trans kn).trans (.new hq)) (Fr.back (kp1.trans kn) (fr_lst (s1.mono kn) hq rr))
end
end Ev
end
section
set_option Elab.async false
set_option linter.all false
set_option maxRecDepth 100000
set_option maxHeartbeats 2000000
namespace Ev
open PySem PySem.Spec PyProof.Rows L2

/-! ### a tuple, from its end -/
theorem pick_list {α : Type} : ∀ (l : List α) (g : Nat → Option α), (∀ k, k < l.length → g k = l[k]?) → (List.range l.length).filterMap g = l
  | [], _, _ => rfl
  | x :: r, g, h => by
    have h0 : g 0 = some x := h 0 (Nat.succ_pos _)
    rw [List.length_cons, List.range_succ_eq_map, List.filterMap_cons, h0, List.filterMap_map]
    show x :: _ = x :: r
    rw [pick_list r (g ∘ Nat.succ) fun k hk => h (k + 1) (Nat.succ_lt_succ hk)]
theorem pick_back (xs : Array Value) : ((List.range xs.size).filterMap fun (k : Nat) => xs[(((xs.size : Int) - 1) + (k : Int) * (-1)).toNat]?).toArray = xs.toList.reverse.toArray := by
  congr 1
  have := pick_list xs.toList.reverse (fun (k : Nat) => xs[(((xs.size : Int) - 1) + (k : Int) * (-1)).toNat]?) fun k hk => ?_
  · rw [List.length_reverse, Array.length_toList] at this; exact this
  · rw [List.length_reverse, Array.length_toList] at hk
    rw [List.getElem?_reverse (by rw [Array.length_toList]; exact hk), Array.getElem?_toList, Array.length_toList]
    congr 1
    omega
section
variable {prog : Program} {w : World} {A : Around} {E : Value → Shared → Prop} {s : Shared}
theorem applied_back {sl : Addr} {vl vu vs : Value} {n : Nat} {Q : Int × Int × Nat → Shared → Prop} (hs : s.heap.IsSliceOf sl vl vu vs) (pl : IsPart vl none) (pu : IsPart vu none) (ps : IsPart vs (some (-1)))
    (h : Q ((n : Int) - 1, -1, n) s) : wpAny (model prog w) A (Builtin.Slice.sliceApplied (.ref sl) (pure (n : Int))) Q E s := by
  obtain ⟨os, hos, _, hds⟩ := id hs
  unfold Builtin.Slice.sliceApplied Builtin.Slice.sliceFields
  refine wpAny_bind (wpAny_bind (wpAny_field hos hds (x := vl) rfl (wpAny_bind (wpAny_field hos hds (x := vu) rfl (wpAny_bind (wpAny_field hos hds (x := vs) rfl (wpAny_pure ?_)))))))
  refine wpAny_bind (HT.slicePart_ ps ?_)
  show wpAny _ _ (if ((-1 : Int) == 0) = true then _ else _) _ _ s
  rw [if_neg (by decide)]
  refine wpAny_bind (HT.slicePart_ pl (wpAny_bind (HT.slicePart_ pu (wpAny_bind (wpAny_pure (wpAny_pure ?_))))))
  have e1 : (Builtin.Slice.sliceAdjust none none (-1) (n : Int)) = ((n : Int) - 1, -1) := rfl
  have e2 : Builtin.Slice.slicePlaces ((n : Int) - 1) (-1) (-1) = n := by
    unfold Builtin.Slice.slicePlaces
    rw [if_neg (by decide)]
    by_cases c : (n : Int) - 1 > -1
    · rw [if_pos c]
      have e : -(-1 : Int) = 1 := rfl
      rw [e, Int.ediv_one]; omega
    · rw [if_neg c]; omega
  show Q ((n : Int) - 1, -1, Builtin.Slice.slicePlaces ((n : Int) - 1) (-1) (-1)) s
  rw [e2]; exact h
theorem tup_back {t sl : Addr} {items : Array Value} {vl vu vs : Value} {Q : Value → Shared → Prop} (ht : IsTup s.heap t items) (hs : s.heap.IsSliceOf sl vl vu vs) (pl : IsPart vl none) (pu : IsPart vu none) (ps : IsPart vs (some (-1))) (hz : items.size ≤ sizeLine)
    (h : Q (.ref s.heap.objs.size) { s with heap := s.heap.push { cls := .type "tuple", data := .seq items.toList.reverse.toArray } }) : wpAny (model prog w) A (getItem (.ref t) (.ref sl)) Q E s := by
  have hw : sizeOk (.seq items.toList.reverse.toArray) := by
    show items.toList.reverse.toArray.size ≤ sizeLine
    rw [List.size_toArray, List.length_reverse, Array.length_toList]; exact hz
  have hTs : s.TypeIs (.ref sl) "slice" := let ⟨os, hos, hcs, _⟩ := hs; ⟨os, hos, hcs⟩
  unfold getItem
  try with_reducible refine wpAny_holding ?_
  first | refine wpAny_bind (wpAny_pure ?_) | skip
  refine wpAny_bind (wpAny_sequenceKey ht.typeIs (by decide) (wpAny_bind (wpAny_callSpecial?_slot (name := Str.ofString "__getitem__") ht.typeIs slot_tuple_getitem (wpAny_call_entry slot_tuple_getitem ht.typeIs entry_tuple_getitem ?_ (args_tuple_getitem _ _)))))
  show wpAny _ _ (Builtin.Tuple.tupleItemsOf (.ref t) >>= _) _ _ s
  refine wpAny_bind (tupleItemsOf_ ht (wpAny_bind (wpAny_typeOf hTs ?_)))
  rw [if_pos (by decide)]
  refine wpAny_bind (applied_back hs pl pu ps ?_)
  show wpAny _ _ (if ((((items.size : Nat) : Int) - 1 == 0) && ((-1 : Int) == 1) && (items.size == items.size)) = true then _ else _) _ _ s
  rw [if_neg (by rw [show ((-1 : Int) == 1) = false from rfl, Bool.and_false]; exact Bool.false_ne_true), pick_back]
  first
    | exact wpAny_bind (m := Builtin.Tuple.tupleExact _) (wpAny_newObj_type (wpAny_pure ⟨_, rfl, wpAny_pure h⟩) hw)
    | exact wpAny_bind (m := Builtin.Tuple.tupleExact _) (wpAny_newObj_type (wpAny_bind (wpAny_pure (wpAny_pure ⟨_, rfl, wpAny_pure h⟩))) hw)
    | exact wpAny_bind (wpAny_bind (m := Builtin.Tuple.tupleExact _) (wpAny_newObj_type (wpAny_pure (wpAny_pure ⟨_, rfl, wpAny_pure h⟩)) hw))
    | exact wpAny_bind (wpAny_bind (m := Builtin.Tuple.tupleExact _) (wpAny_newObj_type (wpAny_pure ⟨_, rfl, wpAny_pure h⟩) hw))
end
/-- x[::-1], x a list or a tuple -/
def tBack (K : PySem.W.Frag) (te : TE) : TE := fun σ H Q => te σ H fun x H1 => ∃ a xs, x = .ref a ∧ ((SqL K H1 a xs ∧ ∀ p, H1 p = none → Q (.ref p) (upd H1 p (.lst xs.reverse))) ∨ (SqT K H1 a xs ∧ ∀ p, H1 p = none → Q (.ref p) (upd H1 p (.tup xs.reverse))))
theorem pe_back {X : Cx} {e : Expr} {te : TE} {k : Nat} {p1 p2 p3 pos : Pos} (he : PE X e te) : PE X (.Subscript e (.Slice none none (some (.UnaryOp .USub (.Constant (.int 1) k p1) p2)) p3) pos) (tBack X.K te) := by
  refine ⟨fun pins s σ H Q I h => Subscript_ (thn (he.run pins s σ H _ I h) fun v s1 ⟨x, H1, I1, r1, q1⟩ => ?_)⟩
  obtain ⟨a, xs, rfl, q⟩ := q1
  cases r1
  have step : PO X (some (.UnaryOp .USub (.Constant (.int 1) k p1) p2)) (tPart (tUn (rU fun i => .int (-i)) (tC (.int 1)))) := po_some (pe_un un_neg pe_int)
  refine wpAny_Slice (thn (po_none.run pins s1 σ H1 (fun o H2 => o = none ∧ H2 = H1) I1 ⟨rfl, rfl⟩) fun vl s2 ⟨l, H2, I2, pl, el, e2⟩ => ?_)
  subst el e2
  refine thn (po_none.run pins s2 σ _ (fun o H3 => o = none ∧ H3 = H2) I2 ⟨rfl, rfl⟩) fun vu s3 ⟨u, H3, I3, pu, eu, e3⟩ => ?_
  subst eu e3
  refine thn (step.run pins s3 σ _ (fun o H4 => o = some (-1) ∧ H4 = H3) I3 ⟨1, rfl, -1, rfl, rfl, rfl⟩) fun vs s4 ⟨o, H4, I4, ps, eo, e4⟩ => ?_
  subst eo e4
  have I5 : Inv X pins σ H4 { s4 with heap := s4.heap.push { cls := .type "slice", data := .fields #[vl, vu, vs] } } := I4.kept (t' := s4.toks) fun b ob q => Heap.get?_push_of_some _ q
  show wpAny (model X.prog X.w) X.A (subscriptTail e (.Slice none none (some (.UnaryOp .USub (.Constant (.int 1) k p1) p2)) p3) (.ref a) (.ref s4.heap.objs.size)) (EP X pins σ Q) X.xe { s4 with heap := s4.heap.push { cls := .type "slice", data := .fields #[vl, vu, vs] } }
  rcases q with ⟨hx, q⟩ | ⟨hx, q⟩
  · obtain ⟨its, r, ht, hz⟩ := I5.list hx
    have hlen := r.length
    refine tail_any (ops := [.ref a, .ref s4.heap.objs.size]) ht.isList.typeIs (PySem.slot_list_getitem.lookup) (wpAny_getItem_list_slice ht.isList (Heap.IsSliceOf.new _ vl vu vs) pl pu ps (by decide) ?_ (by rw [List.size_toArray]; omega)) (by with_unfolding_all rfl)
    rw [PySem.W.krv_pick]
    exact ⟨.ref _, _, I5.laid (t' := s4.toks) (o := .lst xs.reverse) (fun b ob q => Heap.get?_push_of_some _ q) (Nat.le_refl _) ⟨by rw [List.length_reverse]; exact hz, _, 0, r.reverse, Heap.get?_push_size _ rfl⟩, rfl, q _ (I5.hok.fresh (Nat.le_refl _))⟩
  · obtain ⟨its, r, ht, hz⟩ := I5.tuple hx
    have hlen := r.length
    refine tail_any (ops := [.ref a, .ref s4.heap.objs.size]) ht.typeIs (PyProof.Rows.slot_tuple_getitem.lookup) (tup_back ht (Heap.IsSliceOf.new _ vl vu vs) pl pu ps (by rw [List.size_toArray]; omega) ?_) (by with_unfolding_all rfl)
    exact ⟨.ref _, _, I5.laid (t' := s4.toks) (o := .tup xs.reverse) (fun b ob q => Heap.get?_push_of_some _ q) (Nat.le_refl _) ⟨by rw [List.length_reverse]; exact hz, _, r.reverse, IsTup.new _ _⟩, rfl, q _ (I5.hok.fresh (Nat.le_refl _))⟩
section
variable {X : Cx} {W : Wd} {Γ : List (Fn W.S)} {c : Cfg} {k : Nat} {sc ws : Scope} {Wx : WX}
theorem snd_rev (C : CK W Γ c k sc ws Wx X) {a : Expr} {x : IE} {j : Nat} {p1 p2 p3 p : Pos} (ha : Snd X W Γ Wx a x) : Snd X W Γ Wx (.Subscript a (.Slice none none (some (.UnaryOp .USub (.Constant (.int 1) j p1) p2)) p3) p) (.rev x) := by
  refine mkF C.hK rfl (PE.imp (pe_back ha.b) fun σ H Q g => ?_) (fun b _ => PT_of C.hK b fun _ => rfl) (fun _ _ _ e => nomatch e)
  obtain ⟨H0, Z, ρ, st, s, a, g⟩ := g
  refine ⟨H0, Z, ρ, st, s, a, (go_bind (show Go W Wx σ H ((evE Γ true x ρ st).bind fun x s1 => R.lift (revD x) s1) _ from g)).imp fun d st1 k1 H1 v1 a1 kp1 b1 => ?_⟩
  have s1 := s.mono kp1
  obtain ⟨d', e, kk⟩ := go_lift (k1 H1 kp1)
  cases d with
  | lst l' =>
    cases e
    obtain ⟨q, vs, rfl, t, r⟩ := b1.lst s1
    exact ⟨q, vs, rfl, .inl ⟨.inl t, fun p hp => kk _ _ (At.new a1 hp) (kp1.trans (.new hp)) (Fr.back kp1 (fr_lst s1 hp r.reverse))⟩⟩
  | tup l' =>
    cases e
    obtain ⟨q, vs, rfl, t, r⟩ := b1.tup s1
    exact ⟨q, vs, rfl, .inr ⟨C.hK ▸ t.seq, fun p hp => kk _ _ (At.new a1 hp) (kp1.trans (.new hp)) (fr_tup s1 hp r.reverse)⟩⟩
  | _ => cases e
end
end Ev
end
section
set_option Elab.async false
set_option linter.all false
set_option maxRecDepth 100000
set_option maxHeartbeats 4000000
namespace Ev
open PySem PySem.Spec PyProof.Rows L2

section
variable {W : Wd} {Γ : List (Fn W.S)} {c : Cfg} {k n : Nat}
theorem tgIn_mem {t : Tg} {own : List Nat} (h : tgIn t own = true) : ∀ i ∈ t.ids, i ∈ own := by
  intro i hi
  cases t with
  | name j =>
    have e : i = j := List.mem_singleton.mp hi
    subst e
    simpa [tgIn] using h
  | tup l =>
    have h' : l.all (fun i => own.contains i) = true := h
    rw [List.all_eq_true] at h'
    simpa using h' i hi
theorem compA_nil {sc ws : Scope} {a : IEs} (h : compA c n sc ws [] = some a) : a = .nil := by
  cases n with
  | zero => cases h
  | succ n => unfold compA at h; cases h; rfl
theorem comp_slice {sc ws : Scope} {a b d : Option Expr} {p : Pos} : comp c n sc ws (.Slice a b d p) = none := by cases n <;> rfl
theorem comp_noslice {sc ws : Scope} {i : Expr} {y : IE} (h : comp c n sc ws i = some y) : isSlice i = false := by
  cases i <;> first | rfl | (rw [comp_slice] at h; cases h)
theorem blt_sorted {x : PySem.Str} {n : Nat} (h : bltOf x n = some .sorted) : x = ("sorted" : PySem.Str) := by
  unfold bltOf at h
  split at h
  · repeat (split at h; · cases h)
    split at h
    · assumption
    · cases h
  · split at h
    · split at h
      · cases h
      split at h
      · cases h
      · cases h
    · cases h
theorem sound_e (S : SoundAt W Γ c k n) {sc ws e ir X Wx} (C : CK W Γ c k sc ws Wx X) (h : comp c (n + 1) sc ws e = some ir) : Snd X W Γ Wx e ir ∧ notStar e = true := by
  unfold comp at h
  dsimp only at h
  split at h
  · -- a name
    split at h
    · rename_i hc
      rw [Bool.and_eq_true] at hc
      obtain ⟨i, h1, rfl⟩ := map_some h
      exact ⟨snd_var C hc.1 hc.2 h1, rfl⟩
    · cases h
  · cases h; exact ⟨snd_c C.hK pe_int (fun _ _ => rfl) (fun _ => rfl) (fun _ _ _ e => nomatch e), rfl⟩
  · cases h; exact ⟨snd_c C.hK pe_bl (fun _ _ => rfl) (fun _ => rfl) (fun _ _ _ e => nomatch e), rfl⟩
  · cases h; exact ⟨snd_c C.hK pe_non (fun _ _ => rfl) (fun _ => rfl) (fun _ _ _ e => nomatch e), rfl⟩
  · cases h; exact ⟨snd_c C.hK pe_str (fun _ _ => rfl) (fun _ => rfl) (fun _ _ _ e => nomatch e), rfl⟩
  · split at h
    · rename_i ho h1 h2
      cases h
      exact ⟨snd_bop C ho (S.e C h1).1 (S.e C h2).1, rfl⟩
    · cases h
  · obtain ⟨x, h1, rfl⟩ := map_some h
    exact ⟨snd_neg C (S.e C h1).1, rfl⟩
  · split at h
    · rename_i ni
      obtain ⟨x, h1, rfl⟩ := map_some h
      exact ⟨snd_not C ni (S.e C h1).1, rfl⟩
    · cases h
  · split at h
    · rename_i ni
      exact ⟨snd_one C ni (S.e C h).1, rfl⟩
    · cases h
  · split at h
    · rename_i ni
      split at h
      · rename_i h1 h2
        split at h
        · cases h; exact ⟨snd_and C ni (S.e C h1).1 (S.e C h2).1, rfl⟩
        · cases h; exact ⟨snd_or C ni (S.e C h1).1 (S.e C h2).1, rfl⟩
      · cases h
    · cases h
  · split at h
    · obtain ⟨x, h1, rfl⟩ := map_some h
      exact ⟨snd_isN C (S.e C h1).1, rfl⟩
    · obtain ⟨x, h1, rfl⟩ := map_some h
      exact ⟨snd_notN C (S.e C h1).1, rfl⟩
    · split at h
      · rename_i hs
        split at h
        · rename_i ho h1 h2
          cases h
          exact ⟨snd_cmp C ho hs (S.e C h1).1 (S.e C h2).1, rfl⟩
        · cases h
      · cases h
  · split at h
    · rename_i ni
      split at h
      · rename_i h1 h2 h3
        cases h
        exact ⟨snd_ite C ni (S.e C h1).1 (S.e C h2).1 (S.e C h3).1, rfl⟩
      · cases h
    · cases h
  · obtain ⟨x, h1, rfl⟩ := map_some h
    exact ⟨snd_tup C (S.d C h1), rfl⟩
  · obtain ⟨x, h1, rfl⟩ := map_some h
    exact ⟨snd_lst C (S.d C h1), rfl⟩
  · split at h
    · rename_i hc
      rw [Bool.and_eq_true] at hc
      split at h
      · rename_i hf
        split at h
        · rename_i hl
          obtain ⟨x, h1, rfl⟩ := map_some h
          exact ⟨snd_call C hc.1 hc.2 hf hl (S.a C h1), rfl⟩
        · cases h
      · rename_i hf
        split at h
        · rename_i he
          have he := eqs_of he
          split at h
          · rename_i t
            split at h
            · rename_i y ty ht
              split at h
              · rename_i hg
                obtain ⟨x, h1, rfl⟩ := map_some h
                have q := S.e C h1
                cases t <;> first | (cases ht; done) | skip
                have q3 := tyOf_nm ht
                have e1 := q3.1
                subst e1
                rw [Bool.and_eq_true, Option.isNone_iff_eq_none] at hg
                have hy : X.mg y = none := by
                  refine C.blt _ ?_ hg.2
                  rw [q3.2.1]; cases ty <;> decide
                exact ⟨snd_isi C hc.1 hc.2 he hf ht hg.1 hy q.2 q.1, rfl⟩
              · cases h
            · cases h
          · cases h
        split at h
        · rename_i hcc
          rw [Bool.and_eq_true] at hcc
          have ex := eqs_of hcc.2
          subst ex
          split at h
          · obtain ⟨x, h1, rfl⟩ := map_some h
            exact ⟨snd_gcd C hc.1 hcc.1 (S.a C h1), rfl⟩
          · cases h
        split at h
        · rename_i hcc
          have ex := eqs_of hcc
          subst ex
          split at h
          · obtain ⟨x, h1, rfl⟩ := map_some h
            exact ⟨snd_repr C hc.1 hf (S.a C h1), rfl⟩
          · cases h
        split at h
        · rename_i hcc
          rw [Bool.and_eq_true] at hcc
          have ex := eqs_of hcc.1
          subst ex
          have hset := hcc.2
          split at h
          · split at h
            · rename_i hq
              rw [Bool.and_eq_true, Option.isNone_iff_eq_none] at hq
              have ey := eqs_of hset
              subst ey
              obtain ⟨x, h1, rfl⟩ := map_some h
              exact ⟨snd_sset C hc.1 hf hq.1 hq.2 (S.a C h1), rfl⟩
            · cases h
          · cases h
        · split at h
          · rename_i bb hb
            obtain ⟨x, h1, rfl⟩ := map_some h
            by_cases hs : bb = .sorted
            · subst hs
              have ex := blt_sorted hb
              subst ex
              exact ⟨snd_sorted C hc.1 hf (S.a C h1), rfl⟩
            · exact ⟨snd_blt C hc.1 hc.2 hf hb hs (S.a C h1), rfl⟩
          · cases h
    · cases h
  · split at h
    · rename_i hc
      rw [Bool.and_eq_true] at hc
      split at h
      · rename_i hf
        cases h
        exact ⟨snd_call0 C hc.1 hc.2 hf, rfl⟩
      · cases h
    · cases h
  · split at h
    · rename_i hc
      rw [Bool.and_eq_true] at hc
      split at h
      · rename_i ns hns
        split at h
        · rename_i hk ha hb
          cases h
          have A := S.a C hb
          refine ⟨snd_callp C hc.1 hc.2 hns hk (S.a C ha) (S.kk _ C hb) (fun ρ s l s' e => ?_) (fun e => ?_), rfl⟩
          · rw [A.len ρ s l s' e, List.length_map, kwNames_len hns]
          · subst e
            exact compA_nil ha
        · cases h
      · cases h
    · cases h
  · split at h
    · rename_i hc
      rw [Bool.and_eq_true, Bool.and_eq_true, Bool.and_eq_true] at hc
      split at h
      · rename_i hi ha hb
        cases h
        have em := eqs_of hc.1.1.1
        subst em
        have q1 := S.e C ha
        have q2 := S.e C hb
        exact ⟨snd_dget C hc.1.2 hc.2 hi hc.1.1.2 q1.2 q2.2 q1.1 q2.1, rfl⟩
      · cases h
    · cases h
  · obtain ⟨x, h1, rfl⟩ := map_some h
    exact ⟨snd_rev C (S.e C h1).1, rfl⟩
  · split at h
    · rename_i h1 h2 h3
      cases h
      exact ⟨snd_slc C (S.e C h1).1 (S.o C h2) (S.o C h3), rfl⟩
    · cases h
  · split at h
    · rename_i h1 h2
      cases h
      exact ⟨snd_sub C (comp_noslice h2) (S.e C h1).1 (S.e C h2).1, rfl⟩
    · cases h
  · split at h
    · rename_i hc
      rw [Bool.and_eq_true] at hc
      split at h
      · rename_i ht hs hf he
        split at h
        · rename_i ha
          cases h
          refine ⟨snd_lc C hc.1 hc.2 ht (S.s C hs) (fun X' C' => S.t C' hf) (fun X' C' => (S.e C' he).1) ?_, rfl⟩
          exact tgIn_mem ha
        · cases h
      · cases h
    · cases h
  · cases h
end
end Ev
end
section
set_option Elab.async false
set_option linter.all false
set_option maxRecDepth 100000
set_option maxHeartbeats 4000000
namespace Ev
open PySem PySem.Spec PyProof.Rows L2

section
variable {S : Type} [StOps S]
theorem bind_okE {α β : Type} {x : R S α} {g : α → S → R S β} {b : β} {s' : S} (h : x.bind g = .ok b s') : ∃ a s1, x = .ok a s1 ∧ g a s1 = .ok b s' := by
  cases x with
  | ok a s1 => exact ⟨a, s1, rfl, h⟩
  | ex e s1 => cases h
  | bad => cases h
theorem len_nx {n : Nat} {ρ ρ' : Env} (h : Fl.len n (.nx ρ)) : ρ.length = n := h
theorem forS_keep {f : D → Env → S → R S Fl} (hf : ∀ d, KeepsN (f d)) : ∀ (l : List D), KeepsN (forS f l)
  | [] => fun ρ s w s' e => by cases e; exact (rfl : ρ.length = ρ.length)
  | d :: r => fun ρ s w s' e => by
    unfold forS at e
    obtain ⟨w1, s1, e1, e2⟩ := bind_okE e
    have k := hf d ρ s w1 s1 e1
    cases w1 with
    | nx ρ1 =>
      have k : ρ1.length = ρ.length := k
      have := forS_keep hf r ρ1 s1 w s' e2
      rw [k] at this; exact this
    | ct ρ1 =>
      have k : ρ1.length = ρ.length := k
      have := forS_keep hf r ρ1 s1 w s' e2
      rw [k] at this; exact this
    | bk ρ1 => cases e2; exact k
    | rt d => cases e2; exact trivial
theorem whlS_keep {t : Env → S → R S Bool} {f : Env → S → R S Fl} (hf : KeepsN f) : ∀ (n : Nat), KeepsN (whlS t f n)
  | 0 => fun ρ s w s' e => by cases e
  | n + 1 => fun ρ s w s' e => by
    unfold whlS at e
    obtain ⟨b, s1, e1, e2⟩ := bind_okE e
    cases b with
    | false =>
      have e3 : R.ok (Fl.nx ρ) s1 = R.ok w s' := e2
      cases e3; exact (rfl : ρ.length = ρ.length)
    | true =>
      have e3 : ((f ρ s1).bind fun w s2 => match w with
        | .nx ρ1 => whlS t f n ρ1 s2
        | .ct ρ1 => whlS t f n ρ1 s2
        | .bk ρ1 => .ok (.nx ρ1) s2
        | .rt d => .ok (.rt d) s2) = R.ok w s' := e2
      obtain ⟨w1, s2, e4, e5⟩ := bind_okE e3
      have k := hf ρ s1 w1 s2 e4
      cases w1 with
      | nx ρ1 =>
        have k : ρ1.length = ρ.length := k
        have := whlS_keep hf n ρ1 s2 w s' e5
        rw [k] at this; exact this
      | ct ρ1 =>
        have k : ρ1.length = ρ.length := k
        have := whlS_keep hf n ρ1 s2 w s' e5
        rw [k] at this; exact this
      | bk ρ1 => cases e5; exact k
      | rt d => cases e5; exact trivial
theorem Fl.same.from_ {wr : List Nat} {ρ ρ1 : Env} {w : Fl} (h : Fl.same wr ρ1 w) (k : ∀ i, i ∉ wr → ρ1[i]? = ρ[i]?) : Fl.same wr ρ w := by
  cases w with
  | rt d => exact trivial
  | nx ρ' => exact fun i hi => (h i hi).trans (k i hi)
  | ct ρ' => exact fun i hi => (h i hi).trans (k i hi)
  | bk ρ' => exact fun i hi => (h i hi).trans (k i hi)
theorem Fl.same.mono {wr wr' : List Nat} {ρ : Env} {w : Fl} (h : Fl.same wr ρ w) (s : ∀ i ∈ wr, i ∈ wr') : Fl.same wr' ρ w := by
  cases w with
  | rt d => exact trivial
  | nx ρ' => exact fun i hi => h i fun q => hi (s i q)
  | ct ρ' => exact fun i hi => h i fun q => hi (s i q)
  | bk ρ' => exact fun i hi => h i fun q => hi (s i q)
theorem set_keepW {ρ : Env} {i : Nat} {x : Slot} : Fl.same [i] ρ (.nx (ρ.set i x)) := fun j hj => by
  rw [List.getElem?_set, if_neg (fun (e : i = j) => hj (e ▸ List.mem_cons_self))]
mutual
theorem keepS (Γ : List (Fn S)) : ∀ x : IS, KeepsN (evS Γ x)
  | .asg i e => fun ρ s w s' h => by
    unfold evS at h
    obtain ⟨d, s1, _, e2⟩ := bind_okE h
    cases e2; exact List.length_set
  | .asgN i e => fun ρ s w s' h => by
    unfold evS at h
    obtain ⟨d, s1, _, e2⟩ := bind_okE h
    cases e2; exact List.length_set
  | .asgT l e => fun ρ s w s' h => by
    unfold evS at h
    obtain ⟨d, s1, _, e2⟩ := bind_okE h
    cases d with
    | tup ds =>
      dsimp only at e2
      cases q : setAll l ds ρ with
      | none => rw [q] at e2; cases e2
      | some ρ1 => rw [q] at e2; cases e2; exact setAll_len q
    | _ => cases e2
  | .setix i k e => fun ρ s w s' h => by
    unfold evS at h
    split at h
    · obtain ⟨d, s1, _, e2⟩ := bind_okE h
      obtain ⟨d2, s2, _, e3⟩ := bind_okE e2
      unfold asInt at e3
      split at e3
      · dsimp only at e3
        split at e3
        · cases e3; exact List.length_set
        · cases e3
      · cases e3
    · obtain ⟨d, s1, _, e2⟩ := bind_okE h
      obtain ⟨d2, s2, _, e3⟩ := bind_okE e2
      split at e3
      · split at e3
        · cases e3; exact List.length_set
        · cases e3
      · cases e3
    · obtain ⟨d, s1, _, e2⟩ := bind_okE h
      obtain ⟨d2, s2, _, e3⟩ := bind_okE e2
      unfold putS at e3
      split at e3
      · split at e3
        · split at e3
          · cases e3; exact (rfl : ρ.length = ρ.length)
          · cases e3
        · cases e3
      · cases e3
    · cases h
  | .app i e => fun ρ s w s' h => by
    unfold evS at h
    split at h
    · obtain ⟨d, s1, _, e2⟩ := bind_okE h
      split at e2
      · cases e2; exact List.length_set
      · cases e2
    · cases h
  | .expr e => fun ρ s w s' h => by
    unfold evS at h
    obtain ⟨d, s1, _, e2⟩ := bind_okE h
    cases e2; exact (rfl : ρ.length = ρ.length)
  | .aug i o e => fun ρ s w s' h => by
    unfold evS at h
    split at h
    · obtain ⟨d, s1, _, e2⟩ := bind_okE h
      split at e2
      · cases e2; exact List.length_set
      · cases e2; exact List.length_set
      · cases e2
    · cases h
  | .ite t a b => fun ρ s w s' h => by
    unfold evS at h
    obtain ⟨d, s1, _, e2⟩ := bind_okE h
    split at e2
    · exact keepSs Γ a ρ s1 w s' e2
    · exact keepSs Γ b ρ s1 w s' e2
    · cases e2
  | .for_ tg fr src body => fun ρ s w s' h => by
    unfold evS at h
    obtain ⟨d, s1, _, e2⟩ := bind_okE h
    have := forS_keep (f := fun d ρ1 s2 => match bindTg tg d ρ1 with
        | some ρ2 => evSs Γ body ρ2 s2
        | none => .bad) (fun d ρ1 s2 w s3 e => by
      dsimp only at e
      cases q : bindTg tg d ρ1 with
      | none => rw [q] at e; cases e
      | some ρ2 =>
        rw [q] at e
        have k := keepSs Γ body ρ2 s2 w s3 e
        rw [bindTg_len q] at k; exact k) _ _ _ _ _ e2
    rw [freeAll_len] at this; exact this
  | .whl t body => fun ρ s w s' h => by
    unfold evS at h
    exact whlS_keep (keepSs Γ body) _ ρ s w s' h
  | .ret e => fun ρ s w s' h => by
    unfold evS at h
    split at h
    · split at h
      · cases h; exact trivial
      · split at h <;> (cases h; exact trivial)
      · cases h
    · obtain ⟨d, s1, _, e2⟩ := bind_okE h
      split at e2 <;> (cases e2; exact trivial)
  | .retN => fun ρ s w s' h => by
    unfold evS at h
    cases h; exact trivial
  | .rse c ns es => fun ρ s w s' h => by
    unfold evS at h
    obtain ⟨d, s1, _, e2⟩ := bind_okE h
    split at e2 <;> cases e2
  | .tryR body cs i rr => fun ρ s w s' h => by
    unfold evS at h
    cases q : evSs Γ body ρ s with
    | bad => rw [q] at h; cases h
    | ok a1 s1 =>
      rw [q] at h
      have h2 : (R.ok a1 s1 : R S Fl) = .ok w s' := h
      cases h2
      exact keepSs Γ body ρ s _ _ q
    | ex e s1 =>
      rw [q] at h
      obtain ⟨c1, ns, fs⟩ := e
      unfold tryF at h
      dsimp only at h
      split at h
      · split at h
        · cases h; exact trivial
        · cases h
      · cases h
  | .brk => fun ρ s w s' h => by
    unfold evS at h
    cases h; exact (rfl : ρ.length = ρ.length)
  | .cont => fun ρ s w s' h => by
    unfold evS at h
    cases h; exact (rfl : ρ.length = ρ.length)
  | .pass => fun ρ s w s' h => by
    unfold evS at h
    cases h; exact (rfl : ρ.length = ρ.length)
theorem keepSs (Γ : List (Fn S)) : ∀ x : ISs, KeepsN (evSs Γ x)
  | .nil => fun ρ s w s' h => by
    unfold evSs at h
    cases h; exact (rfl : ρ.length = ρ.length)
  | .cons x r => fun ρ s w s' h => by
    unfold evSs at h
    obtain ⟨w1, s1, e1, e2⟩ := bind_okE h
    have k := keepS Γ x ρ s w1 s1 e1
    cases w1 with
    | nx ρ1 =>
      have k : ρ1.length = ρ.length := k
      have := keepSs Γ r ρ1 s1 w s' e2
      rw [k] at this; exact this
    | rt d => cases e2; exact trivial
    | bk ρ1 => cases e2; exact k
    | ct ρ1 => cases e2; exact k
end
theorem forS_keepW {wr : List Nat} {f : D → Env → S → R S Fl} (hf : ∀ d, KeepsW wr (f d)) : ∀ (l : List D), KeepsW wr (forS f l)
  | [] => fun ρ s w s' e => by cases e; exact fun _ _ => rfl
  | d :: r => fun ρ s w s' e => by
    unfold forS at e
    obtain ⟨w1, s1, e1, e2⟩ := bind_okE e
    have k := hf d ρ s w1 s1 e1
    cases w1 with
    | nx ρ1 =>
      have k : ∀ i, i ∉ wr → ρ1[i]? = ρ[i]? := k
      have := forS_keepW hf r ρ1 s1 w s' e2
      exact this.from_ k
    | ct ρ1 =>
      have k : ∀ i, i ∉ wr → ρ1[i]? = ρ[i]? := k
      have := forS_keepW hf r ρ1 s1 w s' e2
      exact this.from_ k
    | bk ρ1 => cases e2; exact k
    | rt d => cases e2; exact trivial
theorem whlS_keepW {wr : List Nat} {t : Env → S → R S Bool} {f : Env → S → R S Fl} (hf : KeepsW wr f) : ∀ (n : Nat), KeepsW wr (whlS t f n)
  | 0 => fun ρ s w s' e => by cases e
  | n + 1 => fun ρ s w s' e => by
    unfold whlS at e
    obtain ⟨b, s1, e1, e2⟩ := bind_okE e
    cases b with
    | false =>
      have e3 : R.ok (Fl.nx ρ) s1 = R.ok w s' := e2
      cases e3; exact fun _ _ => rfl
    | true =>
      have e3 : ((f ρ s1).bind fun w s2 => match w with
        | .nx ρ1 => whlS t f n ρ1 s2
        | .ct ρ1 => whlS t f n ρ1 s2
        | .bk ρ1 => .ok (.nx ρ1) s2
        | .rt d => .ok (.rt d) s2) = R.ok w s' := e2
      obtain ⟨w1, s2, e4, e5⟩ := bind_okE e3
      have k := hf ρ s1 w1 s2 e4
      cases w1 with
      | nx ρ1 => exact (whlS_keepW hf n ρ1 s2 w s' e5).from_ k
      | ct ρ1 => exact (whlS_keepW hf n ρ1 s2 w s' e5).from_ k
      | bk ρ1 => cases e5; exact k
      | rt d => cases e5; exact trivial
mutual
theorem sameS (Γ : List (Fn S)) : ∀ x : IS, KeepsW x.wr (evS Γ x)
  | .asg i e => fun ρ s w s' h => by
    unfold evS at h
    obtain ⟨d, s1, _, e2⟩ := bind_okE h
    cases e2; exact set_keepW
  | .asgN i e => fun ρ s w s' h => by
    unfold evS at h
    obtain ⟨d, s1, _, e2⟩ := bind_okE h
    cases e2; exact set_keepW
  | .asgT l e => fun ρ s w s' h => by
    unfold evS at h
    obtain ⟨d, s1, _, e2⟩ := bind_okE h
    cases d with
    | tup ds =>
      dsimp only at e2
      cases q : setAll l ds ρ with
      | none => rw [q] at e2; cases e2
      | some ρ1 => rw [q] at e2; cases e2; exact setAll_get q
    | _ => cases e2
  | .setix i k e => fun ρ s w s' h => by
    unfold evS at h
    split at h
    · obtain ⟨d, s1, _, e2⟩ := bind_okE h
      obtain ⟨d2, s2, _, e3⟩ := bind_okE e2
      unfold asInt at e3
      split at e3
      · dsimp only at e3
        split at e3
        · cases e3; exact set_keepW
        · cases e3
      · cases e3
    · obtain ⟨d, s1, _, e2⟩ := bind_okE h
      obtain ⟨d2, s2, _, e3⟩ := bind_okE e2
      split at e3
      · split at e3
        · cases e3; exact set_keepW
        · cases e3
      · cases e3
    · obtain ⟨d, s1, _, e2⟩ := bind_okE h
      obtain ⟨d2, s2, _, e3⟩ := bind_okE e2
      unfold putS at e3
      split at e3
      · split at e3
        · split at e3
          · cases e3; exact fun _ _ => rfl
          · cases e3
        · cases e3
      · cases e3
    · cases h
  | .app i e => fun ρ s w s' h => by
    unfold evS at h
    split at h
    · obtain ⟨d, s1, _, e2⟩ := bind_okE h
      split at e2
      · cases e2; exact set_keepW
      · cases e2
    · cases h
  | .expr e => fun ρ s w s' h => by
    unfold evS at h
    obtain ⟨d, s1, _, e2⟩ := bind_okE h
    cases e2; exact fun _ _ => rfl
  | .aug i o e => fun ρ s w s' h => by
    unfold evS at h
    split at h
    · obtain ⟨d, s1, _, e2⟩ := bind_okE h
      split at e2
      · cases e2; exact set_keepW
      · cases e2; exact set_keepW
      · cases e2
    · cases h
  | .ite t a b => fun ρ s w s' h => by
    unfold evS at h
    obtain ⟨d, s1, _, e2⟩ := bind_okE h
    split at e2
    · exact (sameSs Γ a ρ s1 w s' e2).mono fun i q => List.mem_append_left _ q
    · exact (sameSs Γ b ρ s1 w s' e2).mono fun i q => List.mem_append_right _ q
    · cases e2
  | .for_ tg fr src body => fun ρ s w s' h => by
    unfold evS at h
    obtain ⟨d, s1, _, e2⟩ := bind_okE h
    have := forS_keepW (wr := fr ++ (tg.wr ++ body.wr)) (f := fun d ρ1 s2 => match bindTg tg d ρ1 with
        | some ρ2 => evSs Γ body ρ2 s2
        | none => .bad) (fun d ρ1 s2 w s3 e => by
      dsimp only at e
      cases q : bindTg tg d ρ1 with
      | none => rw [q] at e; cases e
      | some ρ2 =>
        rw [q] at e
        exact ((sameSs Γ body ρ2 s2 w s3 e).mono fun i q => List.mem_append_right _ (List.mem_append_right _ q)).from_ fun i hi => bindTg_get q i fun z => hi (List.mem_append_right _ (List.mem_append_left _ z))) _ _ _ _ _ e2
    refine this.from_ fun i hi => ?_
    rw [freeAll_get]
    have nf : fr.contains i = false := by simpa using fun q => hi (List.mem_append_left _ q)
    cases ρ[i]? with
    | none => rfl
    | some v => rw [Option.map_some, nf, if_neg Bool.false_ne_true]
  | .whl t body => fun ρ s w s' h => by
    unfold evS at h
    exact whlS_keepW (sameSs Γ body) _ ρ s w s' h
  | .ret e => fun ρ s w s' h => by
    unfold evS at h
    split at h
    · split at h
      · cases h; exact trivial
      · split at h <;> (cases h; exact trivial)
      · cases h
    · obtain ⟨d, s1, _, e2⟩ := bind_okE h
      split at e2 <;> (cases e2; exact trivial)
  | .retN => fun ρ s w s' h => by
    unfold evS at h
    cases h; exact trivial
  | .rse c ns es => fun ρ s w s' h => by
    unfold evS at h
    obtain ⟨d, s1, _, e2⟩ := bind_okE h
    split at e2 <;> cases e2
  | .tryR body cs i rr => fun ρ s w s' h => by
    unfold evS at h
    cases q : evSs Γ body ρ s with
    | bad => rw [q] at h; cases h
    | ok a1 s1 =>
      rw [q] at h
      have h2 : (R.ok a1 s1 : R S Fl) = .ok w s' := h
      cases h2
      exact sameSs Γ body ρ s _ _ q
    | ex e s1 =>
      rw [q] at h
      obtain ⟨c1, ns, fs⟩ := e
      unfold tryF at h
      dsimp only at h
      split at h
      · split at h
        · cases h; exact trivial
        · cases h
      · cases h
  | .brk => fun ρ s w s' h => by
    unfold evS at h
    cases h; exact fun _ _ => rfl
  | .cont => fun ρ s w s' h => by
    unfold evS at h
    cases h; exact fun _ _ => rfl
  | .pass => fun ρ s w s' h => by
    unfold evS at h
    cases h; exact fun _ _ => rfl
theorem sameSs (Γ : List (Fn S)) : ∀ x : ISs, KeepsW x.wr (evSs Γ x)
  | .nil => fun ρ s w s' h => by
    unfold evSs at h
    cases h; exact fun _ _ => rfl
  | .cons x r => fun ρ s w s' h => by
    unfold evSs at h
    obtain ⟨w1, s1, e1, e2⟩ := bind_okE h
    have k := (sameS Γ x ρ s w1 s1 e1).mono (wr' := x.wr ++ r.wr) fun i q => List.mem_append_left _ q
    cases w1 with
    | nx ρ1 => exact ((sameSs Γ r ρ1 s1 w s' e2).mono fun i q => List.mem_append_right _ q).from_ k
    | rt d => cases e2; exact trivial
    | bk ρ1 => cases e2; exact k
    | ct ρ1 => cases e2; exact k
end
end
end Ev
end
section
set_option Elab.async false
set_option linter.all false
set_option maxRecDepth 100000
set_option maxHeartbeats 4000000
namespace Ev
open PySem PySem.Spec PyProof.Rows L2

/-- what must be known where a statement of a def runs -/
structure CKS (W : Wd) (Γ : List (Fn W.S)) (c : Cfg) (k : Nat) (sc : Scope) (Wx : WX) (X : Cx) : Prop extends CK W Γ c k sc sc Wx X where
  tk : Takes X Wx
  po : PassesOwn (model X.prog X.w) X.A X.env X.xe
  stk : X.stack = X.env :: X.outer
  frm : X.env.frame = some X.env.locals
  cls : ∀ x kk ns, clsOf x c.cls = some (kk, ns) → ∃ (C fI : Addr) (fd : FuncData), W.eC kk = some (C, ns) ∧ X.mg x = some (.ref C) ∧ OexC X.K C ∧ PySem.W.findIn X.K (.ref C) "__init__" = some (some (.ref fI)) ∧ PySem.W.typeIn X.K (.ref fI) = some (.type "function") ∧
    FnOk X.prog X.w X.K X.mg X.base CX0 1 fI fd ("self" :: ns) (spI C ns) ∧ Binds X.K fd ("self" :: ns) [] ∧ 2 ≤ k
  exc : ∀ x cs, excOf x c.exc = some cs → ∃ v : Value, (X.mg x = some v ∨ (X.mg x = none ∧ bootBuiltins x = some v ∧ x ≠ "__name__")) ∧ (∀ c1 C ns, W.eC c1 = some (C, ns) → PySem.W.exmOne W.K (.ref C) v = some (cs.contains c1)) ∧
    ∀ c1 C ns, W.eC c1 = some (C, ns) → cs.contains c1 = true → XfC W.K C ∧ ∀ f ∈ c.flds, PySem.W.findIn W.K (.ref C) f = some none
  exn : ∀ x cs, excOf x c.exc = some cs → ∀ v, X.mg x = some v ∨ (X.mg x = none ∧ bootBuiltins x = some v ∧ x ≠ "__name__") → ∃ vv : V, RelV vv v ∧ ∀ u, RelV vv u → u = v
  exs : ∀ c1 C ns, W.eC c1 = some (C, ns) → ExcC W.K C ∧ PySem.W.exmOne W.K (.ref C) (.ref C) = some true
section
variable {X : Cx} {W : Wd} {Γ : List (Fn W.S)} {c : Cfg} {k n : Nat} {sc ws : Scope} {Wx : WX}
theorem noswap {e : Expr} (h : isLC e = false) (t : Option Expr) (l : Nat) (env : PySem.Env) : swapsWith e t l env = pure false := by
  cases e <;> first | rfl | (cases h)
theorem noswap1 {e : Expr} (h : isLC e = false) (t : Expr) (l : Nat) (env : PySem.Env) : swapsWithSole [t] e l env = pure false := noswap h _ _ _
theorem PS.or {X : Cx} {e : Stmt} {t t' : TS} (h : PS X e t) (h' : PS X e t') : PS X e (fun D σ H => t D σ H ∨ t' D σ H) := ⟨fun pins s σ H D I q => q.elim (h.run pins s σ H D I) (h'.run pins s σ H D I)⟩
theorem tES_eq {N : Nat} {wr : List Nat} {f g : Env → W.S → R W.S Fl} (h : ∀ ρ s, f ρ s = g ρ s) {De : Ends} {σ : L2.St} {H : Hp} (q : tES W Wx N wr f De σ H) : tES W Wx N wr g De σ H := by
  have : f = g := funext fun ρ => funext fun s => h ρ s
  rw [← this]; exact q

/-- what is stored as not owned may be stored as owned: the ownership is let go behind it -/
theorem es_unown {N i : Nat} {a : IE} {De : Ends} {σ : L2.St} {H : Hp} (g : tES W Wx N [i] (evS Γ (.asgN i a)) De σ H) : tES W Wx N [i] (evS Γ (.asg i a)) De σ H := by
  obtain ⟨H0, Z, ρ, st, hl, s, at0, g⟩ := g
  refine ⟨H0, Z, ρ, st, hl, s, at0, ?_⟩
  unfold evS at g ⊢
  cases e : evE Γ false a ρ st with
  | bad => rw [e] at g; exact g.elim
  | ex x s1 => rw [e] at g; exact g
  | ok d s1 =>
    rw [e] at g
    intro σ' H' Z' sr a' stp fz
    have k : ∀ σ' H' Z', SR W H0 Z' (ρ.set i (some (false, unC a d))) σ' H' → W.At H' s1 → Stp Z H Z' H' → Fz [i] σ σ' → De.nx σ' H' := g
    have e1 : freeAll [i] (ρ.set i (some (a.fresh && d.isObj, unC a d))) = ρ.set i (some (false, unC a d)) := by
      refine List.ext_getElem? fun j => ?_
      rw [freeAll_get, List.getElem?_set, List.getElem?_set]
      by_cases c : i = j
      · subst c
        by_cases c2 : i < ρ.length
        · simp [c2]
        · simp [c2]
      · have : ([i] : List Nat).contains j = false := by
          simp only [List.contains_cons, List.contains_nil, Bool.or_false, beq_eq_false_iff_ne]
          exact fun z => c z.symm
        rw [if_neg c, if_neg c]
        cases ρ[j]? with
        | none => rfl
        | some v => rw [Option.map_some, this, if_neg Bool.false_ne_true]
    have sr2 := sr.unown [i]
    rw [e1] at sr2
    exact k σ' H' _ sr2 a' ⟨stp.keep, stp.tups, stp.dom, fun b z => stp.new b z.1⟩ fz
theorem asg_either {b : Bool} {N i : Nat} {a : IE} {st : Stmt} (ps : PS X st (tES W Wx N [i] (evS Γ (.asg i a)))) : PS X st (tES W Wx N (IS.wr (if b = true then .asg i a else .asgN i a)) (evS Γ (if b = true then .asg i a else .asgN i a))) := by
  cases b
  · exact PS.imp ps fun De σ H g => es_unown g
  · exact ps
/-! ### a name, a tuple of names, a place of a list -/
theorem st_asg (C : CKS W Γ c k sc Wx X) {x : PySem.Str} {px pos : Pos} {e : Expr} {i : Nat} {a : IE} (hw : wrt sc x = true) (hi : ixOf x c.N = some i) (hl : isLC e = false) (h : Snd X W Γ Wx e a) :
    PS X (.Assign [.Name x px] e pos) (tES W Wx c.N.length (IS.wr (.asg i a)) (evS Γ (.asg i a))) := by
  have lo := C.loc hw
  cases hf : a.fresh with
  | true => exact PS.imp (ps_set C.nd' (C.ix hi) lo.1 (h.f hf) (noswap hl _ _ _) lo.2) fun De σ H g => es_asgF (ir := a) (List.mem_singleton.mpr rfl) (tES_eq (fun ρ s => by unfold evS; rw [hf]; rfl) g)
  | false => exact PS.imp (ps_set C.nd' (C.ix hi) lo.1 h.nu (noswap hl _ _ _) lo.2) fun De σ H g => es_asgN (List.mem_singleton.mpr rfl) (tES_eq (fun ρ s => by unfold evS; rw [hf]; unfold evU; cases evE Γ false a ρ s <;> rfl) g)
theorem notPar {es : List Expr} {kk : Nat} {p : Pos} {e : Expr} (h : isTupE e = false) (env : PySem.Env) : swappedStores [.Tuple es kk p] e env = pure none := by
  cases e <;> first | rfl | (cases h)
theorem st_asgT (C : CKS W Γ c k sc Wx X) {es : List Expr} {kk : Nat} {p pos : Pos} {e : Expr} {l : List Nat} {a : IE} (hl : isLC e = false) (ht : isTupE e = false) (hg : compTg c.N sc (.Tuple es kk p) = some (.tup l)) (h : Snd X W Γ Wx e a) :
    PS X (.Assign [.Tuple es kk p] e pos) (tES W Wx c.N.length (IS.wr (.asgT l a)) (evS Γ (.asgT l a))) :=
  PS.imp (ps_asg h.n (pg_of C.toCK hg) (noswap1 hl _ _ _) (notPar ht _)) fun De σ H g => es_asgT C.hK (fun _ q => q) g
theorem st_setix (C : CKS W Γ c k sc Wx X) {x : PySem.Str} {p p2 pos : Pos} {kx e : Expr} {i : Nat} {a b : IE} (hv : vis sc x = true) (hn : nmOk x = true) (hi : ixOf x c.N = some i) (hsl : isSlice kx = false) (hl : isLC e = false) (hk : Snd X W Γ Wx kx b) (h : Snd X W Γ Wx e a) :
    PS X (.Assign [.Subscript (.Name x p) kx p2] e pos) (tES W Wx c.N.length (IS.wr (.setix i b a)) (evS Γ (.setix i b a))) :=
  PS.imp (PS.or (ps_asg h.n (pg_sub (pe_var (C.ix hi) (C.vis hv) (nmOk_1 hn) (nmOk_2 hn)) hk.b set_list (fun v => by cases kx <;> first | rfl | (cases hsl))) (noswap1 hl _ _ _))
    (ps_dput (by have := C.room.units65; omega) (pe_var (C.ix hi) (C.vis hv) (nmOk_1 hn) (nmOk_2 hn)) hk.b h.n (noswap hl _ _ _))) fun De σ H g => by
    obtain ⟨H0, Z, ρ, st, hn, s, a, g⟩ := g
    unfold evS at g
    by_cases hd : ∃ tk ks vs, ρ[i]? = some (some (true, .dct tk ks vs))
    · obtain ⟨tk, ks, vs, e⟩ := hd
      refine .inr (es_dput (wr := [i]) ⟨H0, Z, ρ, st, hn, s, a, ?_⟩)
      dsimp only
      rw [e] at g ⊢
      exact g
    · by_cases hs : ∃ m, ρ[i]? = some (some (false, .st m))
      · obtain ⟨m, e⟩ := hs
        refine .inl (es_setst (wr := [i]) ⟨H0, Z, ρ, st, hn, s, a, ?_⟩)
        dsimp only
        rw [e] at g ⊢
        exact g
      · refine .inl (es_setix (wr := [i]) ⟨H0, Z, ρ, st, hn, s, a, ?_⟩)
        dsimp only
        split at g
        · rename_i l e
          rw [e]
          exact g
        · rename_i e
          exact absurd ⟨_, _, _, e⟩ hd
        · rename_i e
          exact absurd ⟨_, e⟩ hs
        · exact g.elim
theorem app_u {i : Nat} {a : IE} (ρ : Env) (s : W.S) : evS Γ (.app i a) ρ s = (match ρ[i]? with
      | some (some (true, .lst l)) => (evU Γ false a ρ s).bind fun x s1 => if l.length < L then .ok (.nx (ρ.set i (some (true, .lst (l ++ [x]))))) s1 else .bad
      | _ => .bad) := by
  unfold evS evU
  generalize ρ[i]? = o
  rcases o with _ | _ | ⟨_ | _, d⟩ <;> try rfl
  cases d <;> try rfl
  cases evE Γ false a ρ s <;> rfl
theorem st_app (C : CKS W Γ c k sc Wx X) {x : PySem.Str} {p apos cpos pos : Pos} {e : Expr} {i : Nat} {a : IE} (hv : vis sc x = true) (hn : nmOk x = true) (hi : ixOf x c.N = some i) (hl : (apos.endLine == cpos.line) = true) (hs : notStar e = true) (h : Snd X W Γ Wx e a) :
    PS X (.Expr (.Call (.Attribute (.Name x p) "append" apos) [e] [] cpos) pos) (tES W Wx c.N.length (IS.wr (.app i a)) (evS Γ (.app i a))) := by
  refine PS.imp (ps_expr (pe_bm PySem.F.plainAttrs_list PySem.F.slot_list_append PySem.F.type_list_append mt_append (pe_var (C.ix hi) (C.vis hv) (nmOk_1 hn) (nmOk_2 hn)) (pa_cons h.nu pa_nil (star_ne hs _ _)) rfl ?_ hl (star_ne hs _ _))) fun De σ H g => es_app C.hK (tES_eq (fun ρ s => app_u ρ s) g)
  rw [star_ne hs]; rfl
theorem st_expr (C : CKS W Γ c k sc Wx X) {e : Expr} {pos : Pos} {a : IE} (hl : isLC e = false) (h : Snd X W Γ Wx e a) : PS X (.Expr e pos) (tES W Wx c.N.length (IS.wr (.expr a)) (evS Γ (.expr a))) :=
  PS.imp (ps_expr h.b (noswap hl _ _ _)) fun De σ H g => es_expr g
theorem st_aug (C : CKS W Γ c k sc Wx X) {x : PySem.Str} {px pos : Pos} {e : Expr} {i : Nat} {a : IE} (hw : wrt sc x = true) (hi : ixOf x c.N = some i) (h : Snd X W Γ Wx e a) :
    PS X (.AugAssign (.Name x px) .Add e pos) (tES W Wx c.N.length (IS.wr (.aug i .add a)) (evS Γ (.aug i .add a))) ∧ PS X (.AugAssign (.Name x px) .Sub e pos) (tES W Wx c.N.length (IS.wr (.aug i .sub a)) (evS Γ (.aug i .sub a))) := by
  have lo := C.loc hw
  constructor
  · refine PS.imp (ps_aug C.nd' (C.ix hi) lo.1 h.b ip_add lo.2) fun De σ H g => es_aug (List.mem_singleton.mpr rfl) (tES_eq (fun ρ s => ?_) g)
    unfold evS
    cases look false ρ i with
    | none => rfl
    | some x =>
      dsimp only
      congr 1
      funext y s1
      cases x <;> first | rfl | (cases y <;> rfl)
  · refine PS.imp (ps_aug C.nd' (C.ix hi) lo.1 h.b ip_sub lo.2) fun De σ H g => es_aug (List.mem_singleton.mpr rfl) (tES_eq (fun ρ s => ?_) g)
    unfold evS
    cases look false ρ i with
    | none => rfl
    | some x =>
      dsimp only
      congr 1
      funext y s1
      cases x <;> first | rfl | (cases y <;> rfl)

/-! ### flow -/
theorem st_ite (C : CKS W Γ c k sc Wx X) {t : Expr} {a b : List Stmt} {pos : Pos} {x : IE} {y z : ISs} (ni : notIf t = true) (ht : Snd X W Γ Wx t x) (ha : PSs X a (tES W Wx c.N.length (ISs.wr y) (evSs Γ y))) (hb : PSs X b (tES W Wx c.N.length (ISs.wr z) (evSs Γ z))) :
    PS X (.If t a b pos) (tES W Wx c.N.length (IS.wr (.ite x y z)) (evS Γ (.ite x y z))) :=
  PS.imp (ps_if (ht.t ni) ha hb) fun De σ H g => es_ite g
theorem st_for (C : CKS W Γ c k sc Wx X) {tg iter : Expr} {body : List Stmt} {pos : Pos} {t : Tg} {src : ISrc} {b : ISs} {fr : List Nat} (hfr : ∀ i ∈ src.vars, i ∈ fr ∨ i ∉ t.wr ++ b.wr) (hns : notSet iter = true) (hg : compTg c.N sc tg = some t) (hs : SndS X W Γ Wx tg iter src) (hb : PSs X body (tES W Wx c.N.length (ISs.wr b) (evSs Γ b))) :
    PS X (.For tg iter body [] pos) (tES W Wx c.N.length (IS.wr (.for_ t fr src b)) (evS Γ (.for_ t fr src b))) :=
  PS.imp (ps_for C.po C.calm (hs.i fr) (pg_of C.toCK hg) hb (not_folded hns _)) fun De σ H g => es_for C.hK (keepSs Γ b) (sameSs Γ b) hfr g
theorem st_whl (C : CKS W Γ c k sc Wx X) {t : Expr} {body : List Stmt} {pos : Pos} {x : IE} {b : ISs} (ni : notIf t = true) (ht : Snd X W Γ Wx t x) (hb : PSs X body (tES W Wx c.N.length (ISs.wr b) (evSs Γ b))) :
    PS X (.While t body [] pos) (tES W Wx c.N.length (IS.wr (.whl x b)) (evS Γ (.whl x b))) :=
  PS.imp (ps_while C.po (ht.t ni) hb) fun De σ H g => es_whl (keepSs Γ b) g
theorem st_ret (C : CKS W Γ c k sc Wx X) {e : Expr} {pos : Pos} {a : IE} (hv : ∀ i, a = .var i → ∃ x p, e = .Name x p ∧ vis sc x = true ∧ nmOk x = true ∧ ixOf x c.N = some i) (h : Snd X W Γ Wx e a) : PS X (.Return (some e) pos) (tES W Wx c.N.length (IS.wr (.ret a)) (evS Γ (.ret a))) := by
  by_cases hvar : ∃ i, a = .var i
  · obtain ⟨i, rfl⟩ := hvar
    obtain ⟨x, p, rfl, h1, h2, h3⟩ := hv i rfl
    exact PS.imp (ps_ret (pe_var (C.ix h3) (C.vis h1) (nmOk_1 h2) (nmOk_2 h2))) fun De σ H g => es_retV g
  · have e0 : ∀ ρ s, evS Γ (.ret a) ρ s = (evE Γ false a ρ s).bind fun d s1 => if a.fresh || !d.isObj then .ok (.rt d) s1 else .ok (.rt (.ins 0 [d])) s1 := by
      intro ρ s
      cases a <;> first | rfl | exact absurd ⟨_, rfl⟩ hvar
    cases hf : a.fresh with
    | true => exact PS.imp (ps_ret (h.f hf)) fun De σ H g => es_retF (tES_eq (fun ρ s => by rw [e0, hf]; simp) g)
    | false => exact PS.imp (ps_ret h.n) fun De σ H g => es_retN (tES_eq (fun ρ s => by rw [e0, hf]; congr 1; funext d s1; cases d.isObj <;> rfl) g)

/-! ### an error raised -/
theorem passF {X : Cx} : Passes CX0 X (fun _ _ _ => False) := fun _ _ _ _ _ _ _ h => h.elim
theorem evs_len {es : List Expr} {irs : IEs} (h : SndA X W Γ Wx es irs) : ∀ ρ s l s', evs Γ true irs ρ s = .ok l s' → l.length = es.length := h.len
theorem st_rse (C : CKS W Γ c k sc Wx X) {x : PySem.Str} {p cpos pos : Pos} {e : Expr} {es : List Expr} {irs : IEs} {kk : Nat} {ns : List PySem.Str} (hg : isGl sc x = true) (hn : nmOk x = true) (hc : clsOf x c.cls = some (kk, ns)) (hl : (e :: es).length = ns.length) (h9 : ns.length ≤ 900) (h : SndA X W Γ Wx (e :: es) irs) :
    PS X (.Raise (some (.Call (.Name x p) (e :: es) [] cpos)) none pos) (tES W Wx c.N.length (IS.wr (.rse kk ns irs)) (evS Γ (.rse kk ns irs))) := by
  obtain ⟨C1, fI, fd, h1, h2, h3, h4, h5, h6, h7, h8⟩ := C.cls x kk ns hc
  have ns' := h.ns
  rw [List.all_cons, Bool.and_eq_true] at ns'
  refine PS.imp (ps_raise C.calm C.tk (pmk_oex h3 h4 h5 h6 (C.room.mono h8) h7 .nil passF (C.gl hg) h2 h.pa (nmOk_1 hn) (star_ne ns'.1 _ _) (no_star ns'.2))) fun De σ H g => ?_
  exact es_rse h1 (fun ρ s l s' e => (h.len ρ s l s' e).trans hl) h9 g

/-! ### try -/
theorem PSs.never {X : Cx} {b : List Stmt} : PSs X b tNever := ⟨fun _ _ _ _ _ _ h => h.elim⟩
theorem xsIn_ok {l : List PySem.Str} : ∀ {es : IXs}, xsIn l es = true → ∀ f ∈ es.flds, f ∈ l
  | .nil, _, f, hf => nomatch hf
  | .c _ r, h, f, hf => xsIn_ok (es := r) h f hf
  | .isb _ r, h, f, hf => xsIn_ok (es := r) h f hf
  | .fld x r, h, f, hf => by
    have h' : (l.contains x && xsIn l r) = true := h
    rw [Bool.and_eq_true] at h'
    rcases List.mem_cons.mp (show f ∈ x :: r.flds from hf) with e | hf
    · rw [e]; simpa using h'.1
    · exact xsIn_ok h'.2 f hf
theorem xrIn_ok {l : List PySem.Str} {rr : IXr} (h : xrIn l rr = true) : ∀ f ∈ rr.flds, f ∈ l := by
  cases rr with
  | tup es => exact xsIn_ok h
  | c d => intro f hf; cases hf
theorem xpIn_ok {l : List PySem.Str} : ∀ {p : IXp}, xpIn l p = true → ∀ f ∈ p.flds, f ∈ l
  | .ret r, h => xrIn_ok h
  | .ite t r p, h => by
    have h' : (xrIn l r && xpIn l p) = true := h
    rw [Bool.and_eq_true] at h'
    intro f hf
    rcases List.mem_append.mp (show f ∈ r.flds ++ p.flds from hf) with q | q
    · exact xrIn_ok h'.1 f q
    · exact xpIn_ok h'.2 f q
  | .skip _ _ p, h => xpIn_ok (p := p) h
theorem pe_cst {X : Cx} {e : Expr} {d : D} (h : constOf e = some d) : PE X e (tC (cV d)) := by
  unfold constOf at h
  split at h <;> cases h
  · exact PE.imp (pe_un un_neg pe_int) fun σ H Q q => ⟨_, rfl, q⟩
  · exact pe_int
  · exact pe_bl
  · exact pe_non
  · exact pe_str
theorem star_cst {e : Expr} {d : D} (h : constOf e = some d) : notStar e = true := by
  cases e <;> first | rfl | (cases h)
theorem CKS.tr (C : CKS W Γ c k sc Wx X) {pn : List (Addr × Obj)} {xe : Value → Shared → Prop} {Wx' : WX} (tk : Takes (X.tr pn xe) Wx') (po : PassesOwn (model X.prog X.w) X.A X.env xe) : CKS W Γ c k sc Wx' (X.tr pn xe) where
  hK := C.hK
  calm := C.calm
  room := C.room
  gd := C.gd
  hN := C.hN
  nd := C.nd
  hsc := C.hsc
  fnk := C.fnk
  wl := C.wl
  wc := C.wc
  pass := fun σ => passAt tk σ
  fns := C.fns
  kw := C.kw
  blt := C.blt
  gc := C.gc
  tk := tk
  po := po
  stk := C.stk
  frm := C.frm
  cls := C.cls
  exc := C.exc
  exn := C.exn
  exs := C.exs
theorem ixOf_lt {x : PySem.Str} {N : List PySem.Str} {i : Nat} (h : ixOf x N = some i) : i < N.length := (List.getElem?_eq_some_iff.mp (ixOf_get h)).1

/-- what a suite stands on: the error by its name, its fields, the tests of its class by theirs -/
def XG (N : List PySem.Str) (i : Nat) (a dx : Addr) (k : Nat) (E : XEnv) : L2.St → Hp → Prop := fun σ H => σ[i]? = some (some (.ref a)) ∧ (σ.length = N.length ∧ ∃ l, H dx = some (.xd l)) ∧ ∀ x t j, E.lookup x = some t → ixOf x N = some j → σ[j]? = some (some (.bl (t.ev k)))
def tGe (G : L2.St → Hp → Prop) (b : Bool) : TE := fun σ H Q => G σ H ∧ Q (.bl b) H
def tGt (G : L2.St → Hp → Prop) (b : Bool) : TT := fun σ H Q => G σ H ∧ Q b H
section
variable {a C1 dx : Addr} {oe : Obj} {pn : List (Addr × Obj)} {nm : PySem.Str} {i c1 : Nat} {E : XEnv} {ns : List PySem.Str}
theorem xc_ok (C : CKS W Γ c k sc Wx X) (hC : W.eC c1 = some (C1, ns)) (hz : Zc (.ref C1) (some dx) oe) (hf : ∃ vs, oe.data = .fields vs) (hi : ixOf nm c.N = some i) (hl : isLoc sc nm = true) (hn : nmOk nm = true) :
    ∀ (m : Nat) (e : Expr) (t : IXc), compXc c sc nm E m e = some t → PE (X.suite a ((a, oe) :: pn)) e (tGe (XG c.N i a dx c1 E) (t.ev c1)) ∧ PT (X.suite a ((a, oe) :: pn)) e (tGt (XG c.N i a dx c1 E) (t.ev c1)) ∧
      ∀ op vs pos, e = .BoolOp op vs pos → PW (X.suite a ((a, oe) :: pn)) e (tGt (XG c.N i a dx c1 E) (t.ev c1)) := by
  have loc : ∀ {x : PySem.Str}, isLoc sc x = true → X.env.scope.names.lookup x = some .local := fun {x} h => by
    rw [C.hsc]
    unfold isLoc at h
    split at h
    · assumption
    · cases h
  intro m
  induction m with
  | zero => intro e t h; cases h
  | succ m ih =>
    intro e t h
    unfold compXc at h
    split at h
    · -- isinstance
      rename_i f pf ee p1 y p2 pos
      split at h
      · rename_i cc
        simp only [Bool.and_eq_true, decide_eq_true_eq] at cc
        obtain ⟨⟨⟨⟨⟨q1, q2⟩, q3⟩, q4⟩, q5⟩, q6⟩ := cc
        subst q6
        have ef : f = ("isinstance" : PySem.Str) := by simpa [eqs] using q1
        obtain ⟨cs, h1, rfl⟩ := map_some h
        obtain ⟨v, e1, e2, e3⟩ := C.exc y cs h1
        obtain ⟨vv, r1, r2⟩ := C.exn y cs h1 v e1
        have hy : PE (X.suite a ((a, oe) :: pn)) (.Name y p2) (tC vv) := by
          rcases e1 with e1 | ⟨e1, b1, b2⟩
          · exact pe_glob (X := X.suite a ((a, oe) :: pn)) (C.gl q3) e1 r1 (nmOk_1 q4)
          · exact pe_bltn (X := X.suite a ((a, oe) :: pn)) (C.gl q3) e1 b1 r1 b2 (nmOk_1 q4)
        have hx : PE (X.suite a ((a, oe) :: pn)) (.Name ee p1) (tVar i) := pe_var (X := X.suite a ((a, oe) :: pn)) (C.ix hi) (.inl (loc hl)) (nmOk_1 hn) (nmOk_2 hn)
        obtain ⟨x1, x2⟩ := C.exs c1 C1 ns hC
        have kit : PySem.W.kitOne X.K (.ref C1) v = some (cs.contains c1) := by
          rw [C.hK]
          have e4 := e2 c1 C1 ns hC
          unfold PySem.W.kitOne
          split
          · rename_i ev
            have ev' : (.ref C1 : Value) = v := by simpa using ev
            rw [← ev', x2] at e4
            exact e4
          · unfold PySem.W.exmOne at e4
            split at e4
            · exact e4
            · cases e4
        have base := pe_callB (X := X.suite a ((a, oe) :: pn)) (p := pf) (pos := pos) (call_isX (a := a) (pn := pn) (C.hK ▸ x1) (C.hK ▸ x2) hz hf) (C.gl q2) (C.blt f (by rw [ef]; decide) (by simpa using q5)) (by rw [ef]; exact PyProof.Rows.boot_isinstance) (pa_cons hx (pa_cons hy pa_nil)) (by rw [ef]; decide) (by rw [ef]; decide) rfl rfl
        have P0 : PE (X.suite a ((a, oe) :: pn)) (.Call (.Name f pf) [.Name ee p1, .Name y p2] [] pos) (tGe (XG c.N i a dx c1 E) ((IXc.cls cs).ev c1)) := PE.imp base fun σ H Q ⟨⟨g1, ⟨_, l, g2⟩, _⟩, q⟩ => ⟨.ref a, g1, vv, v, _, l, rfl, r2, kit, g2, q⟩
        exact ⟨P0, PT.imp (pt_val P0) fun σ H Q ⟨g, q⟩ => ⟨g, _, rfl, q⟩, fun _ _ _ e => nomatch e⟩
      · cases h
    · -- not
      rename_i x p
      obtain ⟨t1, h1, rfl⟩ := map_some h
      obtain ⟨i1, i2, _⟩ := ih x t1 h1
      exact ⟨PE.imp (pe_not i1) fun σ H Q ⟨g, q⟩ => ⟨g, _, rfl, q⟩, PT.imp (pt_not i2) fun σ H Q ⟨g, q⟩ => ⟨g, q⟩, fun _ _ _ e => nomatch e⟩
    · -- one
      rename_i op x p
      obtain ⟨i1, i2, _⟩ := ih x t h
      have w : PW (X.suite a ((a, oe) :: pn)) (.BoolOp op [x] p) (tGt (XG c.N i a dx c1 E) (t.ev c1)) := by
        cases op with
        | And => exact pw_and1 i2
        | Or => exact pw_or1 i2
      exact ⟨pe_one i1, w.pt, fun _ _ _ _ => w⟩
    · -- two and more
      rename_i op x y r p
      split at h
      · rename_i t1 t2 h1 h2
        cases h
        obtain ⟨i1, i2, _⟩ := ih x t1 h1
        obtain ⟨j1, _, j3⟩ := ih _ t2 h2
        have j3 := j3 _ _ _ rfl
        cases op with
        | And =>
          have w : PW (X.suite a ((a, oe) :: pn)) (.BoolOp .And (x :: y :: r) p) (tGt (XG c.N i a dx c1 E) (t1.ev c1 && t2.ev c1)) := ⟨fun wh pins s σ H Q I ⟨g, q⟩ => (pw_and i2 j3).run wh pins s σ H Q I ⟨g, by
            cases e : t1.ev c1 with
            | true => rw [e] at q; exact ⟨g, q⟩
            | false => rw [e] at q; exact q⟩⟩
          refine ⟨PE.imp (pe_and i1 j1) fun σ H Q ⟨g, q⟩ => ⟨g, _, rfl, ?_⟩, w.pt, fun _ _ _ _ => w⟩
          have q' : Q (.bl (t1.ev c1 && t2.ev c1)) H := q
          cases e : t1.ev c1 with
          | true => rw [e] at q'; exact ⟨g, q'⟩
          | false => rw [e] at q'; exact q'
        | Or =>
          have w : PW (X.suite a ((a, oe) :: pn)) (.BoolOp .Or (x :: y :: r) p) (tGt (XG c.N i a dx c1 E) (t1.ev c1 || t2.ev c1)) := ⟨fun wh pins s σ H Q I ⟨g, q⟩ => (pw_or i2 j3).run wh pins s σ H Q I ⟨g, by
            cases e : t1.ev c1 with
            | true => rw [e] at q; exact q
            | false => rw [e] at q; exact ⟨g, q⟩⟩⟩
          refine ⟨PE.imp (pe_or i1 j1) fun σ H Q ⟨g, q⟩ => ⟨g, _, rfl, ?_⟩, w.pt, fun _ _ _ _ => w⟩
          have q' : Q (.bl (t1.ev c1 || t2.ev c1)) H := q
          cases e : t1.ev c1 with
          | true => rw [e] at q'; exact q'
          | false => rw [e] at q'; exact ⟨g, q'⟩
      · cases h
    · -- a name
      rename_i x p
      split at h
      · rename_i cc
        simp only [Bool.and_eq_true] at cc
        obtain ⟨⟨q1, q2⟩, q3⟩ := cc
        obtain ⟨j, hj⟩ := Option.isSome_iff_exists.mp q3
        have P0 : PE (X.suite a ((a, oe) :: pn)) (.Name x p) (tGe (XG c.N i a dx c1 E) (t.ev c1)) := PE.imp (pe_var (X := X.suite a ((a, oe) :: pn)) (C.ix hj) (.inl (loc q1)) (nmOk_1 q2) (nmOk_2 q2)) fun σ H Q ⟨⟨_, _, g⟩, q⟩ => ⟨_, g x t j h hj, q⟩
        exact ⟨P0, PT.imp (pt_val P0) fun σ H Q ⟨g, q⟩ => ⟨g, _, rfl, q⟩, fun _ _ _ e => nomatch e⟩
      · cases h
    · cases h
/-- what is wished where the suite's ground stands -/
theorem pa_xs (C : CKS W Γ c k sc Wx X) (hC : W.eC c1 = some (C1, ns)) (hz : Zc (.ref C1) (some dx) oe) (hf : ∃ vs, oe.data = .fields vs) (hi : ixOf nm c.N = some i) (hl : isLoc sc nm = true) (hn : nmOk nm = true) (T : XfC W.K C1) {fl : List PySem.Str} (hno : ∀ f ∈ fl, PySem.W.findIn W.K (.ref C1) f = some none) :
    ∀ {es : List Expr} {x : IXs}, compXs c sc nm E es = some x → (∀ f ∈ x.flds, f ∈ fl) → PA (X.suite a ((a, oe) :: pn)) es (fun σ H Q => XG c.N i a dx c1 E σ H ∧ xsTA c1 i a (.ref C1) (some dx) C1 x σ H Q) := by
  have hv : ∀ p, PE (X.suite a ((a, oe) :: pn)) (.Name nm p) (tVar i) := fun p => pe_var (X := X.suite a ((a, oe) :: pn)) (C.ix hi) (.inl (by
    show X.env.scope.names.lookup nm = _
    rw [C.hsc]
    unfold isLoc at hl
    split at hl
    · assumption
    · cases hl)) (nmOk_1 hn) (nmOk_2 hn)
  intro es
  induction es with
  | nil => intro x h _; cases h; exact PA.imp pa_nil fun σ H Q ⟨g, q⟩ => q
  | cons e r ih =>
    intro x h hfl
    unfold compXs at h
    cases er : compXs c sc nm E r with
    | none => rw [er] at h; cases h
    | some l =>
      rw [er] at h
      dsimp only at h
      split at h
      · rename_i y p f q
        split at h
        · rename_i ey
          subst ey
          cases h
          have hr := ih er fun f hf => hfl f (List.mem_cons_of_mem _ hf)
          refine PA.imp (pa_cons (pe_xf (C.hK ▸ T) (by rw [C.hK]; exact hno _ (hfl _ List.mem_cons_self)) hz hf (hv p)) hr) fun σ H Q ⟨g, v, q1, q2, q3, dd, fs, v2, q4, q5, q6, q7⟩ => ?_
          exact ⟨v, q1, q2, q3, dd, fs, v2, q4, q5, q6, g, q7⟩
        · cases h
      · split at h
        · rename_i d hd
          cases h
          have hr := ih er fun f hf => hfl f hf
          exact PA.imp (pa_cons (pe_cst hd) hr (star_ne (star_cst hd) _ _)) fun σ H Q ⟨g, q⟩ => ⟨g, q⟩
        · obtain ⟨t, h1, rfl⟩ := map_some h
          have hr := ih er fun f hf => hfl f hf
          refine PA.imp (pa_cons (xc_ok C hC hz hf hi hl hn 20 e t h1).1 hr (star_ne ?_ _ _)) fun σ H Q ⟨g, q⟩ => ⟨g, g, q⟩
          cases e <;> first | rfl | (cases h1)
theorem pe_xr (C : CKS W Γ c k sc Wx X) (hC : W.eC c1 = some (C1, ns)) (hz : Zc (.ref C1) (some dx) oe) (hf : ∃ vs, oe.data = .fields vs) (hi : ixOf nm c.N = some i) (hl : isLoc sc nm = true) (hn : nmOk nm = true) (T : XfC W.K C1) {fl : List PySem.Str} (hno : ∀ f ∈ fl, PySem.W.findIn W.K (.ref C1) f = some none)
    {e : Expr} {r : IXr} (h : compXr c sc nm E e = some r) (hfl : ∀ f ∈ r.flds, f ∈ fl) : PE (X.suite a ((a, oe) :: pn)) e (fun σ H Q => XG c.N i a dx c1 E σ H ∧ xrTE c1 i a (.ref C1) (some dx) C1 r σ H Q) := by
  unfold compXr at h
  split at h
  · split at h
    · obtain ⟨x, h1, rfl⟩ := map_some h
      exact PE.imp (pe_tup (pa_xs C hC hz hf hi hl hn T hno h1 hfl)) fun σ H Q q => q
    · cases h
  · obtain ⟨d, h1, rfl⟩ := map_some h
    exact PE.imp (pe_cst h1) fun σ H Q ⟨_, q⟩ => q
theorem xr_short {e : Expr} {r : IXr} (h : compXr c sc nm E e = some r) : r.short = true := by
  have hl : ∀ {es : List Expr} {x : IXs}, compXs c sc nm E es = some x → x.len = es.length := by
    intro es
    induction es with
    | nil => intro x h; cases h; rfl
    | cons e r ih =>
      intro x h
      unfold compXs at h
      cases er : compXs c sc nm E r with
      | none => rw [er] at h; cases h
      | some l =>
        rw [er] at h
        dsimp only at h
        have := ih er
        split at h
        · split at h
          · cases h; show l.len + 1 = r.length + 1; rw [this]
          · cases h
        · split at h
          · cases h; show l.len + 1 = r.length + 1; rw [this]
          · obtain ⟨t, _, rfl⟩ := map_some h
            show l.len + 1 = r.length + 1; rw [this]
  unfold compXr at h
  split at h
  · split at h
    · rename_i hq
      obtain ⟨x, h1, rfl⟩ := map_some h
      show decide (x.len ≤ 1000) = true
      rw [hl h1]; exact decide_eq_true hq
    · cases h
  · obtain ⟨d, h1, rfl⟩ := map_some h; rfl
end
theorem xp_cases {nm : PySem.Str} {i : Nat} {E : XEnv} {s : Stmt} {r : List Stmt} {p : IXp} (h : compXp c sc nm i E (s :: r) = some p) :
    (∃ e pos r1, s = .Return (some e) pos ∧ r = [] ∧ compXr c sc nm E e = some r1 ∧ p = .ret r1) ∨
    (∃ t e p1 p2 t1 x q, s = .If t [.Return (some e) p1] [] p2 ∧ compXc c sc nm E 20 t = some t1 ∧ compXr c sc nm E e = some x ∧ compXp c sc nm i E r = some q ∧ p = .ite t1 x q) ∨
    (∃ x px e pos j t q, s = .Assign [.Name x px] e pos ∧ isLoc sc x = true ∧ nmOk x = true ∧ ixOf x c.N = some j ∧ compXc c sc nm E 20 e = some t ∧ j ≠ i ∧ compXp c sc nm i ((x, t) :: E) r = some q ∧ p = .skip j t q) := by
  unfold compXp at h
  split at h
  · rename_i E1 st e pos q
    cases q
    obtain ⟨r1, h1, rfl⟩ := map_some h
    exact .inl ⟨e, pos, r1, rfl, rfl, h1, rfl⟩
  · rename_i E1 st t e p1 p2 r1 q
    cases q
    split at h
    · rename_i t1 x q h1 h2 h3
      cases h
      exact .inr (.inl ⟨t, e, p1, p2, t1, x, q, rfl, h1, h2, h3, rfl⟩)
    · cases h
  · rename_i E1 st x px e pos r1 q
    cases q
    split at h
    · rename_i cc
      rw [Bool.and_eq_true] at cc
      split at h
      · rename_i j t h1 h2
        split at h
        · cases h
        · rename_i hj
          obtain ⟨q, h3, rfl⟩ := map_some h
          exact .inr (.inr ⟨x, px, e, pos, j, t, q, rfl, cc.1, cc.2, h1, h2, hj, h3, rfl⟩)
      · cases h
    · cases h
  · cases h
theorem xp_nil {nm : PySem.Str} {i : Nat} {E : XEnv} : compXp c sc nm i E [] = none := by unfold compXp; rfl
theorem xp_short {nm : PySem.Str} {i : Nat} : ∀ (st : List Stmt) (E : XEnv) (p : IXp), compXp c sc nm i E st = some p → p.short = true ∧ p.ne i = true
  | [], E, p, h => by rw [xp_nil] at h; cases h
  | s :: r, E, p, h => by
    rcases xp_cases h with ⟨e, pos, r1, _, _, h1, rfl⟩ | ⟨t, e, p1, p2, t1, x, q, _, _, h2, h3, rfl⟩ | ⟨x, px, e, pos, j, t, q, _, _, _, _, _, hj, h3, rfl⟩
    · exact ⟨xr_short h1, rfl⟩
    · obtain ⟨a1, a2⟩ := xp_short r E q h3
      exact ⟨by show (x.short && q.short) = true; rw [xr_short h2, a1]; rfl, a2⟩
    · obtain ⟨a1, a2⟩ := xp_short r _ q h3
      exact ⟨a1, by show (decide (j ≠ i) && q.ne i) = true; rw [decide_eq_true hj, a2]; rfl⟩
theorem xc_noLC {nm : PySem.Str} {E : XEnv} {m : Nat} {e : Expr} {t : IXc} (h : compXc c sc nm E m e = some t) : isLC e = false := by
  cases m with
  | zero => cases h
  | succ m => cases e <;> first | rfl | (unfold compXc at h; cases h)
theorem pss_xp {a C1 dx : Addr} {oe : Obj} {pn : List (Addr × Obj)} {nm : PySem.Str} {i c1 : Nat} {ns : List PySem.Str} (C : CKS W Γ c k sc Wx X) (hC : W.eC c1 = some (C1, ns)) (hz : Zc (.ref C1) (some dx) oe) (hf : ∃ vs, oe.data = .fields vs) (hi : ixOf nm c.N = some i) (hl : isLoc sc nm = true) (hn : nmOk nm = true) (T : XfC W.K C1) {fl : List PySem.Str} (hno : ∀ f ∈ fl, PySem.W.findIn W.K (.ref C1) f = some none) :
    ∀ (st : List Stmt) (E : XEnv) (p : IXp), compXp c sc nm i E st = some p → (∀ f ∈ p.flds, f ∈ fl) → PSs (X.suite a ((a, oe) :: pn)) st (fun De σ H => XG c.N i a dx c1 E σ H ∧ xpTS c1 i a (.ref C1) (some dx) C1 p De σ H)
  | [], E, p, h, _ => by rw [xp_nil] at h; cases h
  | s :: r, E, p, h, hfl => by
    rcases xp_cases h with ⟨e, pos, r1, rfl, rfl, h1, rfl⟩ | ⟨t, e, p1, p2, t1, x, q, rfl, h1, h2, h3, rfl⟩ | ⟨x, px, e, pos, j, t, q, rfl, x1, x2, x3, h2, hj, h3, rfl⟩
    · exact PSs.imp (pss_one (ps_ret (pe_xr C hC hz hf hi hl hn T hno h1 hfl))) fun De σ H q => q
    · have ih := pss_xp (a := a) (pn := pn) C hC hz hf hi hl hn T hno r E q h3 fun f hf => hfl f (List.mem_append_right _ hf)
      refine PSs.imp (pss_cons (ps_if (xc_ok C hC hz hf hi hl hn 20 t t1 h1).2.1 (pss_one (ps_ret (pe_xr C hC hz hf hi hl hn T hno h2 fun f hf => hfl f (List.mem_append_left _ hf)))) pss_nil) ih) fun De σ H ⟨g, q1⟩ => ⟨g, ?_⟩
      have q2 : if t1.ev c1 = true then tRet (xrTE c1 i a (.ref C1) (some dx) C1 x) De σ H else xpTS c1 i a (.ref C1) (some dx) C1 q De σ H := q1
      cases ct : t1.ev c1 with
      | true => rw [ct, if_pos rfl] at q2; exact ⟨g, q2⟩
      | false => rw [ct, if_neg (by decide)] at q2; exact ⟨g, q2⟩
    · have ih := pss_xp (a := a) (pn := pn) C hC hz hf hi hl hn T hno r ((x, t) :: E) q h3 hfl
      have lx : X.env.scope.names.lookup x = some .local := by
        rw [C.hsc]
        unfold isLoc at x1
        split at x1
        · assumption
        · cases x1
      refine PSs.imp (pss_cons (ps_set (X := X.suite a ((a, oe) :: pn)) (i := j) C.nd' (C.ix x3) (.inl lx) (xc_ok C hC hz hf hi hl hn 20 e t h2).1 (noswap (xc_noLC h2) _ _ _) (.inr lx)) ih) fun De σ H ⟨g, q1⟩ => ⟨g, ?_, q1⟩
      obtain ⟨g1, g2, g3⟩ := g
      refine ⟨by rw [List.getElem?_set, if_neg hj]; exact g1, ⟨by rw [List.length_set]; exact g2.1, g2.2⟩, fun y t2 j2 e1 e2 => ?_⟩
      rw [List.lookup_cons] at e1
      split at e1
      · rename_i ey
        have ey' : y = x := by simpa using ey
        subst ey'
        cases e1
        rw [x3] at e2
        cases e2
        rw [List.getElem?_set, if_pos rfl, if_pos (by rw [g2.1]; exact ixOf_lt x3)]
      · rename_i ey
        have ne : y ≠ x := by simpa using ey
        have nj : j ≠ j2 := fun z => by
          subst z
          have a1 := ixOf_get x3
          have a2 := ixOf_get e2
          rw [a1] at a2
          exact ne (Option.some.inj a2).symm
        rw [List.getElem?_set, if_neg nj]
        exact g3 y t2 j2 e1 e2
theorem st_try (C : CKS W Γ c k sc Wx X) {body : List Stmt} {x nm : PySem.Str} {p pos pos' : Pos} {b0 : Stmt} {suite : List Stmt} {cs : List Nat} {i : Nat} {b : ISs} {q : IXp} (hg : isGl sc x = true) (hn : nmOk x = true) (hy : isLoc sc nm = true) (hny : nmOk nm = true) (he : excOf x c.exc = some cs) (hi : ixOf nm c.N = some i)
    (hb : ∀ X' Wx', CKS W Γ c k sc Wx' X' → PSs X' body (tES W Wx' c.N.length (ISs.wr b) (evSs Γ b))) (hr : compXp c sc nm i [] (b0 :: suite) = some q) (hfl : xpIn c.flds q = true) :
    PS X (.Try body [.ExceptHandler (some (.Name x p)) (some nm) (b0 :: suite) pos'] [] [] pos) (tES W Wx c.N.length (IS.wr (.tryR b cs i q)) (evS Γ (.tryR b cs i q))) := by
  obtain ⟨v, e1, e2, e3⟩ := C.exc x cs he
  have hyl : sc.names.lookup nm = some .local := by
    unfold isLoc at hy
    split at hy
    · assumption
    · cases hy
  have hyl' : X.env.kindOf nm = some .local := by
    show X.env.scope.names.lookup nm = _
    rw [C.hsc]; exact hyl
  obtain ⟨q1, q2⟩ := xp_short (b0 :: suite) [] q hr
  refine PS.imp (ps_try_as (tb := fun Wx' => tES W Wx' c.N.length (ISs.wr b) (evSs Γ b)) (ts := tsOf W c.N.length i q) C.stk C.frm C.nd' (C.ix hi) hyl' ⟨C.gl hg, nmOk_1 hn, e1⟩ C.tk (fun Wx' pn xe tk po => hb _ _ (C.tr tk po)) fun a oe cls d pn hz hf => ?_) fun De σ H g => ?_
  · refine ⟨fun pins s σ H D I ⟨k1, C1, ns, dx, l, ec, ed, h1, ok, h2, h3, h4, h5⟩ => ?_⟩
    subst ec; subst ed
    exact (pss_xp (a := a) (pn := pn) C h1 hz hf hi hy hny ok.cls ok.no (b0 :: suite) [] q hr fun f hf => hf).run pins s σ H D I ⟨⟨h3, ⟨h2, l, h4⟩, fun x t j e => by cases e⟩, h5⟩
  · rw [C.hK]
    exact es_try (ixOf_lt hi) q1 q2 e2 (fun c1 C1 ns hC hc => ⟨(e3 c1 C1 ns hC hc).1, fun f hf => (e3 c1 C1 ns hC hc).2 f (xpIn_ok hfl f hf)⟩) g
end
end Ev
end
section
set_option Elab.async false
set_option linter.all false
set_option maxRecDepth 100000
set_option maxHeartbeats 4000000
namespace Ev
open PySem PySem.Spec PyProof.Rows L2

theorem notParF {es vs : List Expr} {kk k2 : Nat} {p p2 : Pos} (h : vs.all (foldedForSure 8) = true) (env : PySem.Env) : swappedStores [.Tuple es kk p] (.Tuple vs k2 p2) env = pure none := by
  unfold swappedStores
  simp only [h, if_true]
  split
  · rfl
  · split
    · rfl
    · split <;> rfl
theorem notParL {es vs : List Expr} {kk k2 : Nat} {p p2 : Pos} (h : (es.length == 2 || es.length == 3) = false) (env : PySem.Env) : swappedStores [.Tuple es kk p] (.Tuple vs k2 p2) env = pure none := by
  unfold swappedStores
  simp [h]
theorem par2_ok {x y : PySem.Str} {a b : Expr} {kk k2 : Nat} {px py p p2 : Pos} {env : PySem.Env} (hk : env.scope.kind = .function) (hx : env.scope.names.lookup x = some .local) (hy : env.scope.names.lookup y = some .local) (hxy : x ≠ y) (hl : px.line = py.line) (ha : notStar a = true) (hb : notStar b = true)
    (h1 : [a, b].all (foldedForSure 8) = false) (h2 : [a, b].all (constantsAlone 8) = false) : swappedStores [.Tuple [.Name x px, .Name y py] kk p] (.Tuple [a, b] k2 p2) env = pure (some [x, y]) := by
  have kx : env.kindOf x = some .local := hx
  have ky : env.kindOf y = some .local := hy
  have bk : env.blockKind = .function := by unfold Env.blockKind; rw [hk]; rfl
  unfold swappedStores
  have nx : (x == y) = false := by simpa using hxy
  have ny : (y == x) = false := by simpa using fun e => hxy e.symm
  simp [h1, h2, bk, kx, ky, hl, Expr.pos]
  have ed : [x, y].eraseDups.length = 2 := by simp [List.eraseDups_cons, List.filter, nx, ny]
  rw [if_pos ed, if_neg]
  rintro (h | h)
  · cases a <;> first | (cases ha; done) | cases h
  · cases b <;> first | (cases hb; done) | cases h
theorem par3_ok {x y z : PySem.Str} {a b c : Expr} {kk k2 : Nat} {px py pz p p2 : Pos} {env : PySem.Env} (hk : env.scope.kind = .function) (hx : env.scope.names.lookup x = some .local) (hy : env.scope.names.lookup y = some .local) (hz : env.scope.names.lookup z = some .local) (hxy : x ≠ y) (hxz : x ≠ z) (hyz : y ≠ z) (hl : px.line = py.line) (hl2 : px.line = pz.line) (ha : notStar a = true) (hb : notStar b = true) (hc : notStar c = true)
    (h1 : [a, b, c].all (foldedForSure 8) = false) (h2 : [a, b, c].all (constantsAlone 8) = false) : swappedStores [.Tuple [.Name x px, .Name y py, .Name z pz] kk p] (.Tuple [a, b, c] k2 p2) env = pure (some [x, y, z]) := by
  have kx : env.kindOf x = some .local := hx
  have ky : env.kindOf y = some .local := hy
  have kz : env.kindOf z = some .local := hz
  have bk : env.blockKind = .function := by unfold Env.blockKind; rw [hk]; rfl
  unfold swappedStores
  have nx : (x == y) = false := by simpa using hxy
  have ny : (y == x) = false := by simpa using fun e => hxy e.symm
  have nx2 : (x == z) = false := by simpa using hxz
  have ny2 : (z == x) = false := by simpa using fun e => hxz e.symm
  have nx3 : (y == z) = false := by simpa using hyz
  have ny3 : (z == y) = false := by simpa using fun e => hyz e.symm
  simp [h1, h2, bk, kx, ky, kz, ← hl, ← hl2, Expr.pos]
  have ed : [x, y, z].eraseDups.length = 3 := by simp [List.eraseDups_cons, List.filter, nx, ny, nx2, ny2, nx3, ny3]
  rw [if_pos ed, if_neg]
  rintro (h | h | h)
  · cases a <;> first | (cases ha; done) | cases h
  · cases b <;> first | (cases hb; done) | cases h
  · cases c <;> first | (cases hc; done) | cases h
section
variable {X : Cx} {W : Wd} {Wx : WX} {σ : L2.St} {H H' H0 H1 : Hp} {Z Z' Zs : Addr → Prop} {ρ : Env} {st : W.S} {n : Nat} {De : Ends}
theorem es_par2 {i j : Nat} {f : Env → W.S → R W.S (List D)} (h : tES W Wx n [i, j] (fun ρ s => (f ρ s).bind fun l s1 => match setAll [i, j] l ρ with
      | some ρ1 => .ok (.nx ρ1) s1
      | none => .bad) De σ H) : tPar i j (tEvs W Wx (qNs W) f) De σ H := by
  obtain ⟨H0, Z, ρ, st, hn, s, a, g⟩ := h
  refine ⟨H0, Z, ρ, st, s, a, (gos_bind g (s.len.symm.trans hn) s.kp).imp fun l st1 k H1 vs a1 kp p => ?_⟩
  match l, k with
  | [d1, d2], k =>
    have k' : ∀ σ' H' Z', SR W H0 Z' ((ρ.set i (some (false, d1))).set j (some (false, d2))) σ' H' → W.At H' st1 → Stp Z H Z' H' → Fz [i, j] σ σ' → De.nx σ' H' := k
    have p' : Rps W Z H1 [d1, d2] vs := p
    obtain ⟨v1, _, rfl, q1, v2, _, rfl, q2, rfl⟩ := p'
    exact ⟨_, _, rfl, k' _ H1 Z (((s.mono kp).free i q1).free j q2) a1 (kp.stp s.ft) ((Fz.set _ (by simp)).trans (.set _ (by simp)))⟩
theorem es_par3 {i j m : Nat} {f : Env → W.S → R W.S (List D)} (h : tES W Wx n [i, j, m] (fun ρ s => (f ρ s).bind fun l s1 => match setAll [i, j, m] l ρ with
      | some ρ1 => .ok (.nx ρ1) s1
      | none => .bad) De σ H) : tPar3 i j m (tEvs W Wx (qNs W) f) De σ H := by
  obtain ⟨H0, Z, ρ, st, hn, s, a, g⟩ := h
  refine ⟨H0, Z, ρ, st, s, a, (gos_bind g (s.len.symm.trans hn) s.kp).imp fun l st1 k H1 vs a1 kp p => ?_⟩
  match l, k with
  | [d1, d2, d3], k =>
    have k' : ∀ σ' H' Z', SR W H0 Z' (((ρ.set i (some (false, d1))).set j (some (false, d2))).set m (some (false, d3))) σ' H' → W.At H' st1 → Stp Z H Z' H' → Fz [i, j, m] σ σ' → De.nx σ' H' := k
    have p' : Rps W Z H1 [d1, d2, d3] vs := p
    obtain ⟨v1, _, rfl, q1, v2, _, rfl, q2, v3, _, rfl, q3, rfl⟩ := p'
    exact ⟨_, _, _, rfl, k' _ H1 Z ((((s.mono kp).free i q1).free j q2).free m q3) a1 (kp.stp s.ft) (((Fz.set _ (by simp)).trans (.set _ (by simp))).trans (.set _ (by simp)))⟩
end
section
variable {X : Cx} {W : Wd} {Γ : List (Fn W.S)} {c : Cfg} {k n : Nat} {sc ws : Scope} {Wx : WX}
theorem loc_of {sc : Scope} {x : PySem.Str} (h : isLoc sc x = true) : sc.names.lookup x = some .local := by
  unfold isLoc at h
  split at h
  · assumption
  · cases h
theorem tup_ev {l : List Nat} {irs : IEs} {h4 : l.length ≤ L} (ρ : Env) (s : W.S) : evS Γ (.asgT l (.tup irs)) ρ s = (evs Γ false irs ρ s).bind fun ds s1 => match setAll l ds ρ with
      | some ρ1 => .ok (.nx ρ1) s1
      | none => .bad := by
  unfold evS evE
  cases evs Γ false irs ρ s with
  | ok ds s1 =>
    show R.bind (if ds.length ≤ L then _ else _) _ = _
    have key : ∀ (l : List Nat) (ds : List D) (ρ ρ1 : Env), setAll l ds ρ = some ρ1 → ds.length = l.length := by
      intro l
      induction l with
      | nil => intro ds ρ ρ1 h; cases ds <;> first | rfl | cases h
      | cons a r ih =>
        intro ds ρ ρ1 h
        cases ds with
        | nil => cases h
        | cons d ds => exact congrArg (· + 1) (ih ds _ _ h)
    by_cases hl : ds.length ≤ L
    · rw [if_pos hl]; rfl
    · rw [if_neg hl]
      rw [R.bind_bad, R.bind_ok]
      cases e : setAll l ds ρ with
      | none => rfl
      | some ρ1 => exact absurd (key _ _ _ _ e ▸ h4) hl
  | ex e s => rfl
  | bad => rfl
theorem ix_ne (C : CK W Γ c k sc ws Wx X) {x y : PySem.Str} {i j : Nat} (hi : ixOf x c.N = some i) (hj : ixOf y c.N = some j) (h : x ≠ y) : i ≠ j := fun e => by
  have a := C.ix hi
  have b := C.ix hj
  rw [e, b] at a
  exact h (Option.some.inj a).symm
theorem st_par2 (C : CKS W Γ c k sc Wx X) {x y : PySem.Str} {a b : Expr} {px py p p2 pos : Pos} {kk k2 i j : Nat} {irs : IEs} (h1 : [a, b].all (foldedForSure 8) = false) (h2 : [a, b].all (constantsAlone 8) = false)
    (lx : isLoc sc x = true) (ly : isLoc sc y = true) (ne : (x == y) = false) (hl : (px.line == py.line) = true) (ha : notStar a = true) (hb : notStar b = true) (hi : ixOf x c.N = some i) (hj : ixOf y c.N = some j) (h : PA X [a, b] (tEvs W Wx (qNs W) (evs Γ false irs))) :
    PS X (.Assign [.Tuple [.Name x px, .Name y py] kk p] (.Tuple [a, b] k2 p2) pos) (tES W Wx c.N.length (IS.wr (.asgT [i, j] (.tup irs))) (evS Γ (.asgT [i, j] (.tup irs)))) := by
  have kx := loc_of lx
  have ky := loc_of ly
  rw [← C.hsc] at kx ky
  have hxy : x ≠ y := fun e => by rw [e] at ne; simp at ne
  exact PS.imp (ps_par C.calm C.nd' (C.ix hi) (C.ix hj) (ix_ne C.toCK hi hj hxy) kx ky h (par2_ok (by rw [C.hsc]; exact C.fnk) kx ky hxy (by simpa using hl) ha hb h1 h2)) fun De σ H g => es_par2 (tES_eq (fun ρ s => tup_ev (h4 := by rw [L_eq]; exact Nat.le_trans (m := 3) (by simp) (by decide)) ρ s) g)
theorem st_par3 (C : CKS W Γ c k sc Wx X) {x y z : PySem.Str} {a b d : Expr} {px py pz p p2 pos : Pos} {kk k2 i j m : Nat} {irs : IEs} (h1 : [a, b, d].all (foldedForSure 8) = false) (h2 : [a, b, d].all (constantsAlone 8) = false)
    (lx : isLoc sc x = true) (ly : isLoc sc y = true) (lz : isLoc sc z = true) (ne : (x == y) = false) (ne2 : (x == z) = false) (ne3 : (y == z) = false) (hl : (px.line == py.line) = true) (hl2 : (px.line == pz.line) = true) (ha : notStar a = true) (hb : notStar b = true) (hd : notStar d = true) (hi : ixOf x c.N = some i) (hj : ixOf y c.N = some j) (hm : ixOf z c.N = some m) (h : PA X [a, b, d] (tEvs W Wx (qNs W) (evs Γ false irs))) :
    PS X (.Assign [.Tuple [.Name x px, .Name y py, .Name z pz] kk p] (.Tuple [a, b, d] k2 p2) pos) (tES W Wx c.N.length (IS.wr (.asgT [i, j, m] (.tup irs))) (evS Γ (.asgT [i, j, m] (.tup irs)))) := by
  have kx := loc_of lx
  have ky := loc_of ly
  have kz := loc_of lz
  rw [← C.hsc] at kx ky kz
  have hxy : x ≠ y := fun e => by rw [e] at ne; simp at ne
  have hxz : x ≠ z := fun e => by rw [e] at ne2; simp at ne2
  have hyz : y ≠ z := fun e => by rw [e] at ne3; simp at ne3
  exact PS.imp (ps_par3 C.calm C.nd' (C.ix hi) (C.ix hj) (C.ix hm) (ix_ne C.toCK hi hj hxy) (ix_ne C.toCK hi hm hxz) (ix_ne C.toCK hj hm hyz) kx ky kz h (par3_ok (by rw [C.hsc]; exact C.fnk) kx ky kz hxy hxz hyz (by simpa using hl) (by simpa using hl2) ha hb hd h1 h2)) fun De σ H g => es_par3 (tES_eq (fun ρ s => tup_ev (h4 := by rw [L_eq]; exact Nat.le_trans (m := 3) (by simp) (by decide)) ρ s) g)
theorem tg_two {N : List PySem.Str} {sc : Scope} {x y : PySem.Str} {px py p : Pos} {kk : Nat} {l : List Nat} (h : compTg N sc (.Tuple [.Name x px, .Name y py] kk p) = some (.tup l)) : ∃ i j, l = [i, j] ∧ ixOf x N = some i ∧ ixOf y N = some j := by
  unfold compTg at h
  simp only [namesOf, ixsOf, Option.map_some] at h
  split at h
  · cases q1 : ixOf x N with
    | none => rw [q1] at h; simp at h
    | some i =>
      cases q2 : ixOf y N with
      | none => rw [q1, q2] at h; simp at h
      | some j =>
        rw [q1, q2] at h
        simp at h
        exact ⟨i, j, h.symm, rfl, rfl⟩
  · cases h
theorem tg_three {N : List PySem.Str} {sc : Scope} {x y z : PySem.Str} {px py pz p : Pos} {kk : Nat} {l : List Nat} (h : compTg N sc (.Tuple [.Name x px, .Name y py, .Name z pz] kk p) = some (.tup l)) : ∃ i j m, l = [i, j, m] ∧ ixOf x N = some i ∧ ixOf y N = some j ∧ ixOf z N = some m := by
  unfold compTg at h
  simp only [namesOf, ixsOf, Option.map_some] at h
  split at h
  · cases q1 : ixOf x N with
    | none => rw [q1] at h; simp at h
    | some i =>
      cases q2 : ixOf y N with
      | none => rw [q1, q2] at h; simp at h
      | some j =>
        cases q3 : ixOf z N with
        | none => rw [q1, q2, q3] at h; simp at h
        | some m =>
          rw [q1, q2, q3] at h
          simp at h
          exact ⟨i, j, m, h.symm, rfl, rfl, rfl⟩
  · cases h
theorem st_parW (C : CKS W Γ c k sc Wx X) {es vs : List Expr} {p p2 pos : Pos} {kk k2 : Nat} {l : List Nat} {irs : IEs} (hw : (parWay sc es vs == 0) = false) (hg : compTg c.N sc (.Tuple es kk p) = some (.tup l)) (h : PA X vs (tEvs W Wx (qNs W) (evs Γ false irs))) :
    PS X (.Assign [.Tuple es kk p] (.Tuple vs k2 p2) pos) (tES W Wx c.N.length (IS.wr (.asgT l (.tup irs))) (evS Γ (.asgT l (.tup irs)))) := by
  have gen : (∀ env, swappedStores [.Tuple es kk p] (.Tuple vs k2 p2) env = pure none) → PS X (.Assign [.Tuple es kk p] (.Tuple vs k2 p2) pos) (tES W Wx c.N.length (IS.wr (.asgT l (.tup irs))) (evS Γ (.asgT l (.tup irs)))) := fun q =>
    PS.imp (ps_asg (snd_tup C.toCK h).n (pg_of C.toCK hg) (noswap1 rfl _ _ _) (q _)) fun De σ H g => es_asgT C.hK (fun _ q => q) g
  unfold parWay at hw
  split at hw
  · rename_i h1
    exact gen fun env => notParF h1 env
  · rename_i h1
    split at hw
    · rename_i h3
      exact gen fun env => notParL (by simpa using h3) env
    · split at hw
      · cases hw
      · rename_i h2
        rw [Bool.not_eq_true] at h1 h2
        split at hw
        · split at hw
          · rename_i c1
            simp only [Bool.and_eq_true, Bool.not_eq_true'] at c1
            obtain ⟨⟨⟨⟨⟨lx, ly⟩, ne⟩, hl⟩, ha⟩, hb⟩ := c1
            obtain ⟨i, j, rfl, hi, hj⟩ := tg_two hg
            exact st_par2 C h1 h2 lx ly ne hl ha hb hi hj h
          · cases hw
        · split at hw
          · rename_i c1
            simp only [Bool.and_eq_true, Bool.not_eq_true'] at c1
            obtain ⟨⟨⟨⟨⟨⟨⟨⟨⟨⟨lx, ly⟩, lz⟩, ne⟩, ne2⟩, ne3⟩, hl⟩, hl2⟩, ha⟩, hb⟩, hd⟩ := c1
            obtain ⟨i, j, m, rfl, hi, hj, hm⟩ := tg_three hg
            exact st_par3 C h1 h2 lx ly lz ne ne2 ne3 hl hl2 ha hb hd hi hj hm h
          · cases hw
        · cases hw
end
section
variable {W : Wd} {Γ : List (Fn W.S)} {c : Cfg} {k : Nat}
theorem sound (W : Wd) (Γ : List (Fn W.S)) (c : Cfg) (k : Nat) : ∀ n, SoundAt W Γ c k n
  | 0 => by constructor <;> (intros; rename_i h; cases h)
  | n + 1 => have S := sound W Γ c k n; ⟨fun C h => sound_e S C h, fun C h => sound_a S C h, fun kws C h => sound_kk S kws C h, fun C h => sound_d S C h, fun C h => sound_t S C h, fun C h => sound_o S C h, fun C h => sound_s S C h⟩
theorem comp_lc {n : Nat} {sc ws : Scope} {elt : Expr} {gs : List Comprehension} {scope : Scope} {p : Pos} {ir : IE} (h : comp c (n + 1) sc ws (.ListComp elt gs scope p) = some ir) : ∃ tg iter ifs t s f e1, gs = [⟨tg, iter, ifs, 0⟩] ∧ blkB c.N sc scope (ownP c.N scope) = true ∧ notSet iter = true ∧
    compTg c.N scope tg = some t ∧ compSrc c n sc ws (isTupE tg) iter = some s ∧ compT c n (relS' scope sc) scope ifs = some f ∧ comp c n (relS' scope sc) scope elt = some e1 ∧ tgIn t ((ownP c.N scope).map (·.2)) = true ∧ ir = .lc e1 t ((ownP c.N scope).map (·.2)) s f := by
  unfold comp at h
  dsimp only at h
  split at h
  all_goals first | (rename_i e1; cases e1; done) | skip
  · rename_i e1
    cases e1
    split at h
    · rename_i hc
      rw [Bool.and_eq_true] at hc
      split at h
      · rename_i ht hs hf he
        split at h
        · rename_i ha
          cases h
          exact ⟨_, _, _, _, _, _, _, rfl, hc.1, hc.2, ht, hs, hf, he, ha, rfl⟩
        · cases h
      · cases h
    · cases h
  · cases h
theorem comp_tup {n : Nat} {sc ws : Scope} {vs : List Expr} {k2 : Nat} {p2 : Pos} {ir : IE} (h : comp c (n + 1) sc ws (.Tuple vs k2 p2) = some ir) : ∃ irs, compD c n sc ws vs = some irs ∧ ir = .tup irs := by
  unfold comp at h
  dsimp only at h
  obtain ⟨irs, h1, h2⟩ := map_some h
  exact ⟨irs, h1, h2.symm⟩
theorem notTup_or (e : Expr) : isTupE e = false ∨ ∃ vs k2 p2, e = .Tuple vs k2 p2 := by
  cases e <;> first | exact .inl rfl | exact .inr ⟨_, _, _, rfl⟩
/-- what is known of a statement, of a suite, at n -/
structure SoundS (W : Wd) (Γ : List (Fn W.S)) (c : Cfg) (k n : Nat) : Prop where
  s : ∀ {sc st ir X Wx}, CKS W Γ c k sc Wx X → compS c n sc st = some ir → PS X st (tES W Wx c.N.length (IS.wr ir) (evS Γ ir))
  ss : ∀ {sc st ir X Wx}, CKS W Γ c k sc Wx X → compSs c n sc st = some ir → PSs X st (tES W Wx c.N.length (ISs.wr ir) (evSs Γ ir))
theorem sound_ss {n : Nat} (S : SoundS W Γ c k n) {sc st ir X Wx} (C : CKS W Γ c k sc Wx X) (h : compSs c (n + 1) sc st = some ir) : PSs X st (tES W Wx c.N.length (ISs.wr ir) (evSs Γ ir)) := by
  cases st with
  | nil => unfold compSs at h; cases h; exact PSs.imp pss_nil fun De σ H g => es_nil g
  | cons x r =>
    unfold compSs at h
    split at h
    · rename_i h1 h2
      cases h
      exact PSs.imp (pss_cons (S.s C h1) (S.ss C h2)) fun De σ H g => es_cons (fun ρ s ρ' s' e => keepS Γ _ ρ s _ s' e) g
    · cases h
theorem comp_var {n : Nat} {sc ws : Scope} {e : Expr} {i : Nat} (h : comp c n sc ws e = some (.var i)) : (∃ x p, e = .Name x p ∧ vis sc x = true ∧ nmOk x = true ∧ ixOf x c.N = some i) ∨ ∃ op a p, e = .BoolOp op [a] p := by
  cases n with
  | zero => cases h
  | succ n =>
    unfold comp at h
    dsimp only at h
    split at h
    · split at h
      · rename_i hc
        rw [Bool.and_eq_true] at hc
        obtain ⟨j, h1, h2⟩ := map_some h
        cases h2
        exact .inl ⟨_, _, rfl, hc.1, hc.2, h1⟩
      · cases h
    · cases h
    · cases h
    · cases h
    · cases h
    · split at h <;> cases h
    · obtain ⟨j, h1, h2⟩ := map_some h
      cases h2
    · split at h
      · obtain ⟨j, h1, h2⟩ := map_some h
        cases h2
      · cases h
    · exact .inr ⟨_, _, _, rfl⟩
    · split at h
      · split at h
        · split at h <;> cases h
        · cases h
      · cases h
    · split at h
      · obtain ⟨j, h1, h2⟩ := map_some h
        cases h2
      · obtain ⟨j, h1, h2⟩ := map_some h
        cases h2
      · split at h
        · split at h <;> cases h
        · cases h
    · split at h
      · split at h <;> cases h
      · cases h
    · obtain ⟨j, h1, h2⟩ := map_some h
      cases h2
    · obtain ⟨j, h1, h2⟩ := map_some h
      cases h2
    · split at h
      · split at h
        · split at h
          · obtain ⟨j, h1, h2⟩ := map_some h
            cases h2
          · cases h
        · split at h
          · split at h
            · split at h
              · split at h
                · obtain ⟨j, h1, h2⟩ := map_some h
                  cases h2
                · cases h
              · cases h
            · cases h
          split at h
          · split at h
            · obtain ⟨j, h1, h2⟩ := map_some h
              cases h2
            · cases h
          split at h
          · split at h
            · obtain ⟨j, h1, h2⟩ := map_some h
              cases h2
            · cases h
          split at h
          · split at h
            · split at h
              · obtain ⟨j, h1, h2⟩ := map_some h
                cases h2
              · cases h
            · cases h
          · split at h
            · obtain ⟨j, h1, h2⟩ := map_some h
              cases h2
            · cases h
      · cases h
    · split at h
      · split at h <;> cases h
      · cases h
    · split at h
      · split at h
        · split at h <;> cases h
        · cases h
      · cases h
    · split at h
      · split at h <;> cases h
      · cases h
    · obtain ⟨j, h1, h2⟩ := map_some h
      cases h2
    · split at h <;> cases h
    · split at h <;> cases h
    · split at h
      · split at h
        · split at h <;> cases h
        · cases h
      · cases h
    · cases h
theorem comp_noLC {n : Nat} {sc ws : Scope} {e : Expr} {ir : IE} {y : PySem.Str} {py : Pos} {l : Nat} {b : Bool} (h : comp c n sc ws e = some ir) (hw : lcWay ws y py l e = some b) : isLC e = false ∨ ∃ elt gs scope p, e = .ListComp elt gs scope p ∧ isLoc ws y = true ∧ (py.line == p.line) = true ∧ (scope.names.any fun (n, k) => n == y && (k == .local || k == .cell)) = false := by
  cases n with
  | zero => cases h
  | succ n =>
    cases e <;> first | exact .inl rfl | skip
    · rename_i elt gs scope p
      refine .inr ⟨_, _, _, _, rfl, ?_⟩
      unfold lcWay at hw
      dsimp only at hw
      split at hw
      · rename_i hc
        rw [Bool.and_eq_true, Bool.and_eq_true, Bool.not_eq_true'] at hc
        exact ⟨hc.1.1, hc.1.2, hc.2⟩
      · cases hw
    · cases h
    · cases h
theorem sound_st {n : Nat} (S : SoundS W Γ c k n) {sc st ir X Wx} (C : CKS W Γ c k sc Wx X) (h : compS c (n + 1) sc st = some ir) : PS X st (tES W Wx c.N.length (IS.wr ir) (evS Γ ir)) := by
  have E := sound W Γ c k n
  unfold compS at h
  split at h
  · split at h
    · rename_i hw
      split at h
      · rename_i hi
        cases h
        exact st_asg C hw hi rfl (snd_dnew C.toCK _)
      · cases h
    · cases h
  · split at h
    · rename_i hw
      split at h
      · rename_i hi ha hl
        cases h
        refine asg_either ?_
        rcases comp_noLC ha hl with q | ⟨elt, gs, scope, p, rfl, q1, q2, q3⟩
        · exact st_asg C hw hi q (E.e C.toCK ha).1
        · cases n with
          | zero => cases ha
          | succ n =>
            obtain ⟨tg, iter, ifs, t, s, f, e1, rfl, g1, g2, g3, g4, g5, g6, g7, rfl⟩ := comp_lc ha
            have E' := sound W Γ c k n
            exact PS.imp (set_lc C.toCK hi q1 q2 q3 g1 g2 g3 (E'.s C.toCK g4) (fun X' C' => E'.t C' g5) (fun X' C' => (E'.e C' g6).1) (tgIn_mem g7)) fun De σ H g => es_asgF (List.mem_singleton.mpr rfl) g
      · cases h
    · cases h
  · split at h
    · cases h
    · rename_i hc
      rw [Bool.or_eq_true, not_or, Bool.not_eq_true, Bool.not_eq_true] at hc
      split at h
      · rename_i e _ _ _ _ _ hg ha
        cases h
        rcases notTup_or e with q | ⟨vs, k2, p2, rfl⟩
        · exact st_asgT C hc.1 q hg (E.e C.toCK ha).1
        · cases n with
          | zero => cases ha
          | succ n =>
            obtain ⟨irs, g, rfl⟩ := comp_tup ha
            exact st_parW C hc.2 hg ((sound W Γ c k n).d C.toCK g)
      · cases h
  · split at h
    · rename_i hc
      rw [Bool.and_eq_true, Bool.and_eq_true, Bool.not_eq_true'] at hc
      split at h
      · rename_i hi hk ha
        cases h
        exact st_setix C hc.1.1 hc.1.2 hi (comp_noslice hk) hc.2 (E.e C.toCK hk).1 (E.e C.toCK ha).1
      · cases h
    · cases h
  · obtain ⟨a, h1, rfl⟩ := map_some h
    exact st_expr C rfl (E.e C.toCK h1).1
  · obtain ⟨a, h1, rfl⟩ := map_some h
    exact st_expr C rfl (E.e C.toCK h1).1
  · split at h
    · rename_i hc
      rw [Bool.and_eq_true, Bool.and_eq_true, Bool.and_eq_true] at hc
      split at h
      · rename_i hi ha
        cases h
        have em := eqs_of hc.1.2
        subst em
        exact st_app C hc.1.1.1 hc.1.1.2 hi hc.2 (E.e C.toCK ha).2 (E.e C.toCK ha).1
      · cases h
    · cases h
  · split at h
    · rename_i hc
      rw [Bool.and_eq_true] at hc
      split at h
      · rename_i hi ha
        cases h
        exact (st_aug C hc.1 hi (E.e C.toCK ha).1).1
      · rename_i hi ha
        cases h
        exact (st_aug C hc.1 hi (E.e C.toCK ha).1).2
      · cases h
    · cases h
  · split at h
    · rename_i ni
      split at h
      · rename_i h1 h2 h3
        cases h
        exact st_ite C ni (E.e C.toCK h1).1 (S.ss C h2) (S.ss C h3)
      · cases h
    · cases h
  · split at h
    · rename_i hns
      split at h
      · rename_i h1 h2 h3
        cases h
        exact st_for C (fun i q => Classical.byCases (fun z => .inl (List.mem_filter.mpr ⟨q, by simpa using z⟩)) fun z => .inr z) hns h1 (E.s C.toCK h2) (S.ss C h3)
      · cases h
    · cases h
  · split at h
    · rename_i ni
      split at h
      · rename_i h1 h2
        cases h
        exact st_whl C ni (E.e C.toCK h1).1 (S.ss C h2)
      · cases h
    · cases h
  · split at h
    · rename_i hb
      obtain ⟨a, h1, rfl⟩ := map_some h
      refine st_ret C (fun i e => ?_) (E.e C.toCK h1).1
      subst e
      rcases comp_var h1 with q | ⟨op, a, p, rfl⟩
      · exact q
      · cases hb
    · cases h
  · cases h
    exact PS.imp ps_retN fun De σ H g => es_ret0 g
  · split at h
    · rename_i hc
      rw [Bool.and_eq_true] at hc
      split at h
      · rename_i h1 h2
        split at h
        · rename_i h3
          cases h
          exact st_rse C hc.1 hc.2 h1 h3.1 h3.2 (E.a C.toCK h2)
        · cases h
      · cases h
    · cases h
  · split at h
    · rename_i hc
      rw [Bool.and_eq_true, Bool.and_eq_true, Bool.and_eq_true] at hc
      split at h
      · rename_i h1 h2 h3
        split at h
        · rename_i h4
          split at h
          · rename_i h5
            cases h
            exact st_try C hc.1.1.1 hc.1.1.2 hc.1.2 hc.2 h1 h2 (fun X' Wx' C' => S.ss C' h3) h4 h5
          · cases h
        · cases h
      · cases h
    · cases h
  · cases h
    exact PS.imp ps_break fun De σ H g => es_brk g
  · cases h
    exact PS.imp ps_continue fun De σ H g => es_cont g
  · cases h
    exact PS.imp ps_pass fun De σ H g => es_nil g
  · cases h
theorem soundS (W : Wd) (Γ : List (Fn W.S)) (c : Cfg) (k : Nat) : ∀ n, SoundS W Γ c k n
  | 0 => by constructor <;> (intros; rename_i h; cases h)
  | n + 1 => have S := soundS W Γ c k n; ⟨fun C h => sound_st S C h, fun C h => sound_ss S C h⟩
end
end Ev
end
section
set_option Elab.async false
set_option linter.all false
set_option maxRecDepth 100000
set_option maxHeartbeats 4000000
namespace Ev
open PySem PySem.Spec PyProof.Rows L2

/-- the same, where a def's lists stand apart from Y -/
def Wd.apart (W : Wd) (Y : Addr → Prop) : Wd := { W with xs := Y }
section
variable {W : Wd} {Z : Addr → Prop} {H H' : Hp} {Y : Addr → Prop}
mutual
theorem rp_ap : ∀ (d : D) (v : V), Rp (W.apart Y) Z H d v ↔ Rp W Z H d v
  | .non, _ => Iff.rfl
  | .bl _, _ => Iff.rfl
  | .int _, _ => Iff.rfl
  | .str _, _ => Iff.rfl
  | .st _, _ => Iff.rfl
  | .ins c [d], v => ⟨fun h => ⟨h.1, h.2.1, (rp_ap d v).1 h.2.2⟩, fun h => ⟨h.1, h.2.1, (rp_ap d v).2 h.2.2⟩⟩
  | .ins _ [], _ => Iff.rfl
  | .ins _ (_ :: _ :: _), _ => Iff.rfl
  | .rep _, _ => Iff.rfl
  | .tup l, v => ⟨fun ⟨a, vs, e, t, r⟩ => ⟨a, vs, e, t, (rps_ap l vs).1 r⟩, fun ⟨a, vs, e, t, r⟩ => ⟨a, vs, e, t, (rps_ap l vs).2 r⟩⟩
  | .lst l, v => ⟨fun ⟨a, vs, e, t, r⟩ => ⟨a, vs, e, t, (rps_ap l vs).1 r⟩, fun ⟨a, vs, e, t, r⟩ => ⟨a, vs, e, t, (rps_ap l vs).2 r⟩⟩
  | .dct tk ks l, v => ⟨fun ⟨a, us, e, t, o, r⟩ => ⟨a, us, e, t, o, (rps_ap l us).1 r⟩, fun ⟨a, us, e, t, o, r⟩ => ⟨a, us, e, t, o, (rps_ap l us).2 r⟩⟩
theorem rps_ap : ∀ (d : List D) (v : List V), Rps (W.apart Y) Z H d v ↔ Rps W Z H d v
  | [], _ => Iff.rfl
  | d :: r, vs => ⟨fun ⟨v, us, e, p, q⟩ => ⟨v, us, e, (rp_ap d v).1 p, (rps_ap r us).1 q⟩, fun ⟨v, us, e, p, q⟩ => ⟨v, us, e, (rp_ap d v).2 p, (rps_ap r us).2 q⟩⟩
end
theorem kp_ap : Kp (W.apart Y) H H' ↔ Kp W H H' := ⟨fun k => ⟨k.keep, k.tups, k.dom⟩, fun k => ⟨k.keep, k.tups, k.dom⟩⟩
theorem exAt_ap {e : Exc} {dx C : Addr} : ExAt (W.apart Y) H e dx C ↔ ExAt W H e dx C := by
  obtain ⟨n, names, fs⟩ := e
  exact ⟨fun ⟨vs, l, h1, h2, h3, h4, h5, h6⟩ => ⟨vs, l, h1, h2, h3, h4, h5, (rps_ap _ _).1 h6⟩, fun ⟨vs, l, h1, h2, h3, h4, h5, h6⟩ => ⟨vs, l, h1, h2, h3, h4, h5, (rps_ap _ _).2 h6⟩⟩
theorem rt_ap {Y2 : Addr → Prop} : ∀ {d : D} {v : V}, Rt (W.apart Y) Y2 H H' d v ↔ Rt W Y2 H H' d v
  | .lst l, v => ⟨fun ⟨a, vs, e, n, t, r⟩ => ⟨a, vs, e, n, t, (rps_ap l vs).1 r⟩, fun ⟨a, vs, e, n, t, r⟩ => ⟨a, vs, e, n, t, (rps_ap l vs).2 r⟩⟩
  | .dct tk ks l, v => ⟨fun ⟨a, vs, e, n, t, o, r⟩ => ⟨a, vs, e, n, t, o, (rps_ap l vs).1 r⟩, fun ⟨a, vs, e, n, t, o, r⟩ => ⟨a, vs, e, n, t, o, (rps_ap l vs).2 r⟩⟩
  | .non, v => rp_ap _ _
  | .bl _, v => rp_ap _ _
  | .int _, v => rp_ap _ _
  | .str _, v => rp_ap _ _
  | .st _, v => rp_ap _ _
  | .ins _ _, v => rp_ap _ _
  | .rep _, v => rp_ap _ _
  | .tup _, v => rp_ap _ _
theorem spF_ap (m : Fn W.S) : spF (W.apart Y) m = spF W m := by
  funext vs H Q E
  apply propext
  constructor
  · rintro ⟨ds, st, Y2, y, a, r, h⟩
    refine ⟨ds, st, Y2, y, a, (rps_ap _ _).1 r, ?_⟩
    revert h
    cases m ds st with
    | ok d s1 => exact fun h H' v a k t => h H' v a (kp_ap.2 k) (rt_ap.2 t)
    | ex e s1 => exact fun h H' dx C a k t => h H' dx C a (kp_ap.2 k) (exAt_ap.2 t)
    | bad => exact id
  · rintro ⟨ds, st, Y2, y, a, r, h⟩
    refine ⟨ds, st, Y2, y, a, (rps_ap _ _).2 r, ?_⟩
    revert h
    cases m ds st with
    | ok d s1 => exact fun h H' v a k t => h H' v a (kp_ap.1 k) (rt_ap.1 t)
    | ex e s1 => exact fun h H' dx C a k t => h H' dx C a (kp_ap.1 k) (exAt_ap.1 t)
    | bad => exact id
end
/-- a def of the text that keeps the meaning m -/
def FOkM (P : Program) (w : World) (K : PySem.W.Frag) (mg : PySem.Str → Option Value) (base : Heap) (W : Wd) (k : Nat) (x : PySem.Str) (n : Nat) (m : Fn W.S) : Prop :=
  (∀ ds s, m ds s ≠ .bad → ds.length = n) ∧ ∃ (f : Addr) (fd : FuncData) (ps : List PySem.Str), ps.length = n ∧ mg x = some (.ref f) ∧ PySem.W.keepIn K (.ref f) = true ∧ Binds K fd ps [] ∧
    FnG P w K mg base (L2.CX P w) k f fd ps (spF W m)
def KwOkM (P : Program) (w : World) (K : PySem.W.Frag) (mg : PySem.Str → Option Value) (base : Heap) (W : Wd) (k : Nat) (x : PySem.Str) (n : Nat) (ks : List PySem.Str) (perm : List Nat) (m : Fn W.S) : Prop :=
  ∃ (f : Addr) (fd : FuncData) (ps : List PySem.Str), mg x = some (.ref f) ∧ PySem.W.keepIn K (.ref f) = true ∧ FnG P w K mg base (L2.CX P w) k f fd ps (spF W m) ∧
    ∀ (us ws : List Value), us.length = n → ws.length = ks.length → bindArgs fd ⟨us, ks.zip ws⟩ = pure (ps.zip (permL perm (us ++ ws)))
/-- what is known of the text so far -/
structure Md (P : Program) (w : World) (K : PySem.W.Frag) (mg : PySem.Str → Option Value) (base : Heap) (W : Wd) (Γ : List (Fn W.S)) (c : Cfg) (k : Nat) : Prop where
  hK : K = W.K
  fns : ∀ x i m, fnOfN x c.fns = some (i, m) → ∃ F, Γ[i]? = some F ∧ FOkM P w K mg base W k x m F
  kw : ∀ x n ks i perm, kwOf x n ks c.kwp = some (i, perm) → ∃ F, Γ[i]? = some F ∧ KwOkM P w K mg base W k x n ks perm F
  blt : ∀ x ∈ bltNames, fnOfN x c.fns = none → mg x = none
  gc : c.gc = true → mg "gcd" = some (.builtin "math.gcd")
  cls : ∀ x kk ns, clsOf x c.cls = some (kk, ns) → ∃ (C fI : Addr) (fd : FuncData), W.eC kk = some (C, ns) ∧ mg x = some (.ref C) ∧ OexC K C ∧ PySem.W.findIn K (.ref C) "__init__" = some (some (.ref fI)) ∧ PySem.W.typeIn K (.ref fI) = some (.type "function") ∧
    FnOk P w K mg base CX0 1 fI fd ("self" :: ns) (spI C ns) ∧ Binds K fd ("self" :: ns) [] ∧ 2 ≤ k
  exc : ∀ x cs, excOf x c.exc = some cs → ∃ v : Value, (mg x = some v ∨ (mg x = none ∧ bootBuiltins x = some v ∧ x ≠ "__name__")) ∧ (∀ c1 C ns, W.eC c1 = some (C, ns) → PySem.W.exmOne W.K (.ref C) v = some (cs.contains c1)) ∧
    ∀ c1 C ns, W.eC c1 = some (C, ns) → cs.contains c1 = true → XfC W.K C ∧ ∀ f ∈ c.flds, PySem.W.findIn W.K (.ref C) f = some none
  exn : ∀ x cs, excOf x c.exc = some cs → ∀ v, mg x = some v ∨ (mg x = none ∧ bootBuiltins x = some v ∧ x ≠ "__name__") → ∃ vv : V, RelV vv v ∧ ∀ u, RelV vv u → u = v
  exs : ∀ c1 C ns, W.eC c1 = some (C, ns) → ExcC W.K C ∧ PySem.W.exmOne W.K (.ref C) (.ref C) = some true
section
variable {P : Program} {w : World} {K : PySem.W.Frag} {mg : PySem.Str → Option Value} {base : Heap} {W : Wd} {Γ : List (Fn W.S)} {c : Cfg} {k : Nat}
theorem FOkM.mono {j : Nat} {x : PySem.Str} {n : Nat} {m : Fn W.S} (h : FOkM P w K mg base W j x n m) (hj : j ≤ k) : FOkM P w K mg base W k x n m := by
  obtain ⟨h0, f, fd, ps, h1, h2, h3, h4, h5⟩ := h
  exact ⟨h0, f, fd, ps, h1, h2, h3, h4, h5.mono hj⟩
theorem FOkM.ap {x : PySem.Str} {n : Nat} {m : Fn W.S} {Y : Addr → Prop} (h : FOkM P w K mg base W k x n m) : FOkM P w K mg base (W.apart Y) k x n m := by
  obtain ⟨h0, f, fd, ps, h1, h2, h3, h4, h5⟩ := h
  exact ⟨h0, f, fd, ps, h1, h2, h3, h4, (spF_ap m).symm ▸ h5⟩
theorem KwOkM.ap {x : PySem.Str} {n : Nat} {ks : List PySem.Str} {perm : List Nat} {m : Fn W.S} {Y : Addr → Prop} (h : KwOkM P w K mg base W k x n ks perm m) : KwOkM P w K mg base (W.apart Y) k x n ks perm m := by
  obtain ⟨f, fd, ps, h2, h3, h4, h5⟩ := h
  exact ⟨f, fd, ps, h2, h3, (spF_ap m).symm ▸ h4, h5⟩
theorem Md.up {j : Nat} (M : Md P w K mg base W Γ c j) (hj : j ≤ k) : Md P w K mg base W Γ c k where
  hK := M.hK
  fns := fun x i m h => let ⟨F, h1, h2⟩ := M.fns x i m h; ⟨F, h1, h2.mono hj⟩
  kw := fun x n ks i perm h => let ⟨F, h1, f, fd, ps, h2, h3, h4, h5⟩ := M.kw x n ks i perm h; ⟨F, h1, f, fd, ps, h2, h3, h4.mono hj, h5⟩
  blt := M.blt
  gc := M.gc
  cls := fun x kk ns h => let ⟨C, fI, fd, h1, h2, h3, h4, h5, h6, h7, h8⟩ := M.cls x kk ns h; ⟨C, fI, fd, h1, h2, h3, h4, h5, h6, h7, by omega⟩
  exc := M.exc
  exn := M.exn
  exs := M.exs
/-- the names' slots at the start -/
theorem sr_start {N : List PySem.Str} {ds : List D} {vs : List V} {H : Hp} (hz : ∀ b, W.xs b → H b ≠ none) (r : Rps W (fun b => W.foot b ∨ W.xs b) H ds vs) (hl : ds.length ≤ N.length) :
    SR W H (fun b => W.foot b ∨ W.xs b) (ds.map (fun d => some (false, d)) ++ List.replicate (N.length - ds.length) none) (L2.start N vs) H := by
  have zf : ∀ b, W.foot b → (W.foot b ∨ W.xs b) := fun b f => Or.inl f
  have zo : ∀ b, (W.foot b ∨ W.xs b) → W.foot b ∨ ((W.xs b ∨ H b = none) ∧ H b ≠ none) := fun b f => f.elim Or.inl fun q => Or.inr ⟨Or.inl q, hz b q⟩
  have zn : ∀ b, W.xs b → (W.foot b ∨ W.xs b) ∧ H b ≠ none := fun b q => ⟨Or.inr q, hz b q⟩
  have lv := Rps.length r
  have nt : ∀ (i : Nat) d, (ds.map (fun d => some (false, d)) ++ List.replicate (N.length - ds.length) none : Env)[i]? = some (some (true, d)) → False := fun i d e => by
    rw [List.getElem?_append] at e
    split at e
    · rw [List.getElem?_map] at e
      obtain ⟨d', e1, e2⟩ := map_some e
      cases e2
    · rw [List.getElem?_replicate] at e
      split at e <;> cases e
  refine ⟨.refl W H, zf, zo, fun i d e => ?_, fun i d e => (nt i d e).elim, fun i j d e' a h1 => (nt i d h1).elim, ?_, fun i d a h1 _ => (nt i d h1).elim, zn⟩
  · rw [List.getElem?_append] at e
    split at e
    · rename_i hi
      rw [List.getElem?_map] at e
      obtain ⟨d', e1, e2⟩ := map_some e
      cases e2
      obtain ⟨v, e3, p⟩ := r.get e1
      refine ⟨v, ?_, p⟩
      unfold L2.start
      rw [List.getElem?_append_left (by rw [List.length_map, lv]; simpa using hi), List.getElem?_map, e3]; rfl
    · rw [List.getElem?_replicate] at e
      split at e <;> cases e
  · unfold L2.start
    rw [List.length_append, List.length_append, List.length_map, List.length_map, List.length_replicate, List.length_replicate, lv]
theorem evD_len {ps n : Nat} {ir : ISs} {ds : List D} {s : W.S} (h : evD Γ ps n ir ds s ≠ .bad) : ds.length = ps := by
  unfold evD at h
  split at h
  · assumption
  · exact absurd rfl h
/-- a def of the text, by its body -/
theorem def_fn (M : Md P w K mg base W Γ c k) {x q : PySem.Str} {st : Stmt} {f : Addr} {fd : FuncData} {N ps : List PySem.Str} {ir : ISs} {n : Nat} (F : Fun K x q st f fd) (hm : mg x = some (.ref f)) (S : FnScope N ps (defScope st)) (hb : Binds K fd ps [])
    (hc : compSs ⟨N, c.fns, c.cls, c.exc, c.flds, c.tks, c.kwp, c.muts, c.gc⟩ n (defScope st) (defBody st) = some ir) : FnG P w K mg base (L2.CX P w) (k + 1) f fd ps (spF W (evD Γ ps.length N.length ir)) := by
  have hpl : ps.length ≤ N.length := by
    have := congrArg List.length S.pre
    rw [List.length_take] at this; omega
  refine fn_g F S (fun vs H Q E h => ?_) fun cdv A outer s H vs Q E hr hgd h => ?_
  · obtain ⟨ds, st1, Y, _, _, r, h⟩ := h
    rw [Rps.length r]
    refine evD_len (Γ := Γ) (n := N.length) (ir := ir) (s := st1) fun e => ?_
    rw [e] at h; exact h
  · obtain ⟨ds, st1, Y, hy, ha, r, h⟩ := h
    have C : CKS (W.apart Y) Γ ⟨N, c.fns, c.cls, c.exc, c.flds, c.tks, c.kwp, c.muts, c.gc⟩ k (defScope st) (fun cls d _ H => E cls d H) (cxOf (L2.CX P w) P w K mg base N q (defScope st) f cdv A outer s H E) := by
      have tk : Takes (cxOf (L2.CX P w) P w K mg base N q (defScope st) f cdv A outer s H E) (fun cls d _ H => E cls d H) := takes_of rfl rfl rfl rfl
      exact { hK := M.hK, calm := rfl, room := hr, gd := hgd, hN := rfl, nd := S.nd, hsc := rfl, fnk := S.kind, wl := fun _ e => e, wc := fun _ e => ⟨e, rfl⟩, pass := fun σ => passAt tk σ, fns := fun x i m e => let ⟨F, h1, h2⟩ := M.fns x i m e; ⟨F, h1, h2.ap⟩, kw := fun x n ks i perm e => let ⟨F, h1, h2⟩ := M.kw x n ks i perm e; ⟨F, h1, h2.ap⟩, blt := M.blt, gc := M.gc, tk := tk, po := passes_of rfl, stk := rfl, frm := rfl, cls := M.cls, exc := M.exc, exn := M.exn, exs := M.exs }
    refine ⟨_, (soundS (W.apart Y) Γ _ k n).ss C hc, ?_⟩
    have hds : ds.length = ps.length := evD_len (Γ := Γ) (n := N.length) (ir := ir) (s := st1) fun e => by rw [e] at h; exact h
    have r2 : Rps (W.apart Y) (fun b => (W.apart Y).foot b ∨ (W.apart Y).xs b) H ds vs := (rps_ap _ _).2 r
    refine ⟨H, (fun b => (W.apart Y).foot b ∨ (W.apart Y).xs b), ds.map (fun d => some (false, d)) ++ List.replicate (N.length - ds.length) none, st1, ?_, sr_start hy r2 (by omega), ha, ?_⟩
    · rw [List.length_append, List.length_map, List.length_replicate]
      show ds.length + (N.length - ds.length) = N.length
      omega
    · unfold evD at h
      rw [if_pos hds] at h
      have e : N.length - ds.length = N.length - ps.length := by rw [hds]
      rw [e]
      show GoS (W.apart Y) _ _ _ (evSs (S := W.S) Γ ir (ds.map (fun d => some (false, d)) ++ List.replicate (N.length - ps.length) none) st1) _
      cases hr : evSs (S := W.S) Γ ir (ds.map (fun d => some (false, d)) ++ List.replicate (N.length - ps.length) none) st1 with
      | bad => rw [hr] at h; exact h.elim
      | ex ee s2 =>
        rw [hr] at h
        exact fun σ' H' dx C1 _ a' k' x' => h H' dx C1 a' (kp_ap.1 k') (exAt_ap.1 x')
      | ok fl s2 =>
        rw [hr] at h
        cases fl with
        | nx ρ1 =>
          have h' : ∀ H' v, W.At H' s2 → Kp W H H' → Rt W Y H H' .non v → Q v H' := h
          intro σ' H' Z' sr a' _ _
          exact h' H' _ a' (kp_ap.1 sr.kp) rfl
        | rt d =>
          have h' : ∀ H' v, W.At H' s2 → Kp W H H' → Rt W Y H H' d v → Q v H' := h
          exact fun H' v a' k' t => h' H' v a' (kp_ap.1 k') (rt_ap.1 t)
        | bk ρ1 => exact h.elim
        | ct ρ1 => exact h.elim
theorem def_ok (M : Md P w K mg base W Γ c k) {x q : PySem.Str} {st : Stmt} {f : Addr} {fd : FuncData} {N ps : List PySem.Str} {ir : ISs} {n : Nat} (F : Fun K x q st f fd) (hm : mg x = some (.ref f)) (S : FnScope N ps (defScope st)) (hb : Binds K fd ps [])
    (hc : compSs ⟨N, c.fns, c.cls, c.exc, c.flds, c.tks, c.kwp, c.muts, c.gc⟩ n (defScope st) (defBody st) = some ir) : FOkM P w K mg base W (k + 1) x ps.length (evD Γ ps.length N.length ir) :=
  ⟨fun ds s h => evD_len h, f, fd, ps, rfl, hm, F.kp, hb, def_fn M F hm S hb hc⟩
/-- one more def is known -/
theorem Md.more (M : Md P w K mg base W Γ c k) {x : PySem.Str} {m : Nat} {F : Fn W.S} (h : FOkM P w K mg base W k x m F) (hl : Γ.length = c.fns.length) (hx : fnOfN x c.fns = none) : Md P w K mg base W (Γ ++ [F]) ⟨c.N, c.fns ++ [(x, m)], c.cls, c.exc, c.flds, c.tks, c.kwp, c.muts, c.gc⟩ k where
  hK := M.hK
  fns := fun y i j e => by
    have gen : ∀ (l : List (PySem.Str × Nat)) (i j : Nat), fnOfN y (l ++ [(x, m)]) = some (i, j) → fnOfN y l = some (i, j) ∨ (y = x ∧ i = l.length ∧ j = m) := by
      intro l
      induction l with
      | nil =>
        intro i j e
        have e' : (if x = y then some (0, m) else none) = some (i, j) := e
        by_cases cc : x = y
        · rw [if_pos cc] at e'
          cases e'
          exact .inr ⟨cc.symm, rfl, rfl⟩
        · rw [if_neg cc] at e'
          cases e'
      | cons p l ih =>
        obtain ⟨z, n⟩ := p
        intro i j e
        have e' : (if z = y then some (0, n) else (fnOfN y (l ++ [(x, m)])).map fun p => (p.1 + 1, p.2)) = some (i, j) := e
        show (if z = y then some (0, n) else (fnOfN y l).map fun p => (p.1 + 1, p.2)) = some (i, j) ∨ _
        by_cases cc : z = y
        · rw [if_pos cc] at e' ⊢; exact .inl e'
        · rw [if_neg cc] at e' ⊢
          obtain ⟨⟨i', j'⟩, e1, e2⟩ := map_some e'
          cases e2
          rcases ih _ _ e1 with q | ⟨q1, q2, q3⟩
          · exact .inl (by rw [q]; rfl)
          · exact .inr ⟨q1, by show i' + 1 = l.length + 1; rw [q2], q3⟩
    rcases gen c.fns _ _ e with q | ⟨rfl, rfl, rfl⟩
    · obtain ⟨F', h1, h2⟩ := M.fns y i j q
      exact ⟨F', by rw [List.getElem?_append_left (List.getElem?_eq_some_iff.mp h1).1]; exact h1, h2⟩
    · exact ⟨F, by rw [← hl, List.getElem?_append_right (Nat.le_refl _)]; simp, h⟩
  kw := fun y n ks i perm h => let ⟨F', h1, h2⟩ := M.kw y n ks i perm h; ⟨F', by rw [List.getElem?_append_left (List.getElem?_eq_some_iff.mp h1).1]; exact h1, h2⟩
  blt := fun y hy e => M.blt y hy (by
    have gen : ∀ (l : List (PySem.Str × Nat)), fnOfN y (l ++ [(x, m)]) = none → fnOfN y l = none := by
      intro l
      induction l with
      | nil => intro _; rfl
      | cons p l ih =>
        obtain ⟨z, n⟩ := p
        intro e
        have e' : (if z = y then some (0, n) else (fnOfN y (l ++ [(x, m)])).map fun p => (p.1 + 1, p.2)) = none := e
        show (if z = y then some (0, n) else (fnOfN y l).map fun p => (p.1 + 1, p.2)) = none
        by_cases cc : z = y
        · rw [if_pos cc] at e'; cases e'
        · rw [if_neg cc] at e' ⊢
          rw [ih (by simpa using e')]; rfl
    exact gen c.fns e)
  gc := M.gc
  cls := M.cls
  exc := M.exc
  exn := M.exn
  exs := M.exs
/-- nothing promised -/
theorem bad_ok {x : PySem.Str} {f : Addr} {fd : FuncData} {ps : List PySem.Str} (hm : mg x = some (.ref f)) (hk : PySem.W.keepIn K (.ref f) = true) (hb : Binds K fd ps []) : FOkM P w K mg base W k x ps.length (fun _ _ => .bad) :=
  ⟨fun _ _ h => absurd rfl h, f, fd, ps, rfl, hm, hk, hb, ⟨fun vs H Q E h => by obtain ⟨_, _, _, _, _, _, h⟩ := h; exact h.elim, fun {A outer s H args us vs Q E} _ _ _ _ _ h => by obtain ⟨_, _, _, _, _, _, h⟩ := h; exact h.elim⟩⟩
end
end Ev
end
section
set_option Elab.async false
set_option linter.all false
set_option maxRecDepth 100000
set_option maxHeartbeats 2000000
namespace Ev
open PySem PySem.Spec PyProof.Rows L2

/-- the state's lists stand in the heap -/
def AtL (M : Nat) (hand : Nat → Addr) (H : Hp) (s : SL) : Prop := s.length = M ∧ ∀ (n : Nat) (l : List D), s[n]? = some l → l.all stOk = true ∧ H (hand n) = some (.lst (l.map (stV hand)))
/-- the run of a law whose state is M lists -/
def wdOf (K : PySem.W.Frag) (M : Nat) (hand : Nat → Addr) (inj : ∀ i j, i < M → j < M → hand i = hand j → i = j) (eC : Nat → Option (Addr × List PySem.Str)) : Wd where
  K := K
  S := SL
  hand := hand
  foot := fun b => ∃ n, n < M ∧ b = hand n
  At := AtL M hand
  stk := fun {H H' x} a h => ⟨a.1, fun n l e => ⟨(a.2 n l e).1, by
    have hn : n < M := by rw [← a.1]; exact (List.getElem?_eq_some_iff.mp e).1
    rw [h (hand n) ⟨n, hn, rfl⟩]; exact (a.2 n l e).2⟩⟩
  lists := fun {H x b} a f => by
    obtain ⟨n, hn, rfl⟩ := f
    have hx : x[n]? = some (x[n]'(by rw [a.1]; exact hn)) := List.getElem?_eq_some_iff.mpr ⟨by rw [a.1]; exact hn, rfl⟩
    exact ⟨_, (a.2 n _ hx).2⟩
  eC := eC
  ops := slOps
  hget := fun {H x n l} a e => ⟨⟨n, by rw [← a.1]; exact (List.getElem?_eq_some_iff.mp (show x[n]? = some l from e)).1, rfl⟩, (a.2 n l e).2, (a.2 n l e).1⟩
  hput := fun {H x n l l'} a e hl hok => by
    have e' : x[n]? = some l := e
    have hn : n < M := by rw [← a.1]; exact (List.getElem?_eq_some_iff.mp e').1
    refine ⟨by show (x.set n l').length = M; rw [List.length_set]; exact a.1, fun m k hm => ?_⟩
    have hm' : (x.set n l')[m]? = some k := hm
    rw [List.getElem?_set] at hm'
    split at hm'
    · rename_i c
      subst c
      split at hm'
      · cases hm'; exact ⟨hok, upd_same⟩
      · cases hm'
    · rename_i c
      have hmM : m < M := by rw [← a.1]; exact (List.getElem?_eq_some_iff.mp hm').1
      refine ⟨(a.2 m k hm').1, ?_⟩
      rw [upd_ne (fun w => c (inj _ _ hn hmM w.symm))]
      exact (a.2 m k hm').2
end Ev
end
section
set_option Elab.async false
set_option linter.all false
set_option maxRecDepth 100000
set_option maxHeartbeats 4000000
namespace Ev
open PySem PySem.Spec PyProof.Rows L2

section
variable {P : Program} {w : World} {K : PySem.W.Frag} {mg : PySem.Str → Option Value} {base : Heap} {k : Nat}
theorem dints : ∀ l : List Int, D.ints (l.map D.int) = some l
  | [] => rfl
  | i :: r => by simp only [List.map_cons, D.ints, dints r, Option.map_some]
/-- the context in which a def's suite is read -/
theorem Md.cks {W : Wd} {Γ : List (Fn W.S)} {c : Cfg} (M : Md P w K mg base W Γ c k) {q : PySem.Str} {st : Stmt} {f : Addr} {N ps : List PySem.Str} (S : FnScope N ps (defScope st)) {cdv : Value} {A : Around} {outer : List PySem.Env} {s : Shared} {H : Hp} {E : XK}
    (hr : Room k (A.deeper (envOfC q (defScope st) s.heap.objs.size f cdv))) (hgd : A.guards = some []) : CKS W Γ ⟨N, c.fns, c.cls, c.exc, c.flds, c.tks, c.kwp, c.muts, c.gc⟩ k (defScope st) (fun cls d _ H => E cls d H) (cxOf (L2.CX P w) P w K mg base N q (defScope st) f cdv A outer s H E) := by
  have tk : Takes (cxOf (L2.CX P w) P w K mg base N q (defScope st) f cdv A outer s H E) (fun cls d _ H => E cls d H) := takes_of rfl rfl rfl rfl
  exact { hK := M.hK, calm := rfl, room := hr, gd := hgd, hN := rfl, nd := S.nd, hsc := rfl, fnk := S.kind, wl := fun _ e => e, wc := fun _ e => ⟨e, rfl⟩, pass := fun σ => passAt tk σ, fns := M.fns, kw := M.kw, blt := M.blt, gc := M.gc, tk := tk, po := passes_of rfl, stk := rfl, frm := rfl, cls := M.cls, exc := M.exc, exn := M.exn, exs := M.exs }
/-- the keywords that are known from here on -/
theorem Md.kws {W : Wd} {Γ : List (Fn W.S)} {c : Cfg} (M : Md P w K mg base W Γ c k) {kw : List ((PySem.Str × Nat × List PySem.Str) × (Nat × List Nat))}
    (h : ∀ x n ks i perm, kwOf x n ks kw = some (i, perm) → ∃ F, Γ[i]? = some F ∧ KwOkM P w K mg base W k x n ks perm F) : Md P w K mg base W Γ ⟨c.N, c.fns, c.cls, c.exc, c.flds, c.tks, kw, c.muts, c.gc⟩ k where
  hK := M.hK
  fns := M.fns
  kw := h
  blt := M.blt
  gc := M.gc
  cls := M.cls
  exc := M.exc
  exn := M.exn
  exs := M.exs

/-! ### a list whose first item is a new list, numbers behind it -/
def intsE : List Expr → Option (List Int)
  | [] => some []
  | .Constant (.int i) _ _ :: r => (intsE r).map (i :: ·)
  | _ :: _ => none
theorem pa_ints {X : Cx} : ∀ {es : List Expr} {is : List Int}, intsE es = some is → PA X es (fun σ H Q => Q (is.map V.int) H) ∧ (∀ e ∈ es, notStar e = true)
  | [], is, h => by cases h; exact ⟨pa_nil, fun _ h => by cases h⟩
  | e :: r, is, h => by
    cases e with
    | Constant c u p =>
      cases c with
      | int i =>
        obtain ⟨js, hj, rfl⟩ := map_some (show (intsE r).map (i :: ·) = some is from h)
        obtain ⟨a, b⟩ := pa_ints (X := X) hj
        refine ⟨PA.imp (pa_cons pe_int a (star_ne rfl _ _)) fun σ H Q g => ?_, fun e he => ?_⟩
        · exact g
        · rcases List.mem_cons.mp he with rfl | he
          · rfl
          · exact b e he
      | _ => cases h
    | _ => cases h
/-- what is handed on: at a the list of b and the numbers is; at b the list of what f tells -/
def tFeed (W : Wd) (Wx : WX) (f : Env → W.S → R W.S D) (is : List Int) : TE := fun σ H Q => ∃ H0 Z ρ st, SR W H0 Z ρ σ H ∧ W.At H st ∧
  Go W Wx σ H (f ρ st) fun d st' => ∃ l, d = .lst l ∧ ∀ H' a b vs, W.At H' st' → Kp W H H' → H a = none → H b = none → a ≠ b → H' b = some (.lst vs) → Rps W Z H' l vs → H' a = some (.lst (.ref b :: is.map V.int)) → Q (.ref a) H'
theorem pe_feed {X : Cx} {W : Wd} {Γ : List (Fn W.S)} {Wx : WX} {e1 : Expr} {es : List Expr} {ir : IE} {is : List Int} {p : Pos} (h : Snd X W Γ Wx e1 ir) (hf : ir.fresh = true) (hs : notStar e1 = true) (hi : intsE es = some is) (hz : is.length < 1000) :
    PE X (.List (e1 :: es) p) (tFeed W Wx (evE Γ false ir) is) := by
  obtain ⟨a, b⟩ := pa_ints (X := X) hi
  refine PE.imp (pe_lst (pa_cons (h.f hf) a (star_ne hs _ _))) fun σ H Q g => ?_
  obtain ⟨H0, Z, ρ, st, s, at0, g⟩ := g
  refine ⟨H0, Z, ρ, st, s, at0, g.imp fun d st1 g H1 v1 a1 k1 f1 => ?_⟩
  obtain ⟨l, rfl, g⟩ := g
  obtain ⟨b, vs, rfl, nb, e1, r1⟩ := f1
  refine ⟨by
    rw [List.length_cons, List.length_map]
    exact Nat.le_of_lt (small1000 (by omega)), fun p hp => ?_⟩
  have pb : p ≠ b := fun e => by rw [e, e1] at hp; cases hp
  refine g _ p b vs (At.new a1 hp) (k1.trans (.new hp)) ?_ nb pb ?_ ?_ upd_same
  · cases e : H p with
    | none => rfl
    | some o => exact absurd hp (k1.dom p (by rw [e]; simp))
  · rw [upd_ne (Ne.symm pb)]; exact e1
  · exact rps_new (s.mono k1) hp (rps_anti (fun b z => .inl z) r1)
/-- a def that hands such a list back -/
def spFeed (W : Wd) (f : List D → W.S → R W.S D) (is : List Int) : Sp := fun vs H Q E => ∃ ds st, W.At H st ∧ Rps W W.foot H ds vs ∧ ∃ (l : List Int) (st' : W.S), f ds st = .ok (.lst (l.map D.int)) st' ∧
  ∀ H' a b, W.At H' st' → Kp W H H' → H a = none → H b = none → a ≠ b → H' b = some (.lst (l.map V.int)) → H' a = some (.lst (.ref b :: is.map V.int)) → Q (.ref a) H'
def feedF {S : Type} [StOps S] (Γ : List (Fn S)) (ps n : Nat) (ir : IE) : List D → S → R S D := fun ds s =>
  if ds.length = ps then evE Γ false ir (ds.map (fun d => some (false, d)) ++ List.replicate (n - ps) none) s else .bad
theorem start_ok {W : Wd} {Γ : List (Fn W.S)} {c : Cfg} (M : Md P w K mg base W Γ c k) {x q : PySem.Str} {st : Stmt} {f : Addr} {fd : FuncData} {N ps : List PySem.Str} {n : Nat} {e1 : Expr} {es : List Expr} {pl pr : Pos} {ir : IE} {is : List Int} (F : Fun K x q st f fd) (S : FnScope N ps (defScope st))
    (hb : defBody st = [.Return (some (.List (e1 :: es) pl)) pr]) (hc : comp ⟨N, c.fns, c.cls, c.exc, c.flds, c.tks, c.kwp, c.muts, c.gc⟩ n (defScope st) (defScope st) e1 = some ir) (hf : ir.fresh = true) (hi : intsE es = some is) (hz : is.length < 1000) (hx : ∀ b, ¬ W.xs b := by exact fun _ h => h) :
    FnG P w K mg base (L2.CX P w) (k + 1) f fd ps (spFeed W (feedF Γ ps.length N.length ir) is) := by
  have hpl : ps.length ≤ N.length := by
    have := congrArg List.length S.pre
    rw [List.length_take] at this; omega
  have lenD : ∀ {ds : List D} {s : W.S} {d : D} {s' : W.S}, feedF Γ ps.length N.length ir ds s = .ok d s' → ds.length = ps.length := fun {ds s d s'} h => by
    unfold feedF at h
    split at h
    · assumption
    · cases h
  refine fn_g F S (fun vs H Q E h => ?_) fun cdv A outer s H vs Q E hr hgd h => ?_
  · obtain ⟨ds, st1, _, r, l, st2, e, _⟩ := h
    rw [Rps.length r]
    exact lenD e
  · have C := M.cks (q := q) (f := f) (cdv := cdv) (A := A) (outer := outer) (s := s) (H := H) (E := E) S hr hgd
    obtain ⟨hS, hst⟩ := (sound W Γ _ k n).e C.toCK hc
    rw [hb]
    refine ⟨_, pss_one (ps_ret (pe_feed hS hf hst hi hz)), ?_⟩
    obtain ⟨ds, st1, ha, r, l, st', e, g⟩ := h
    have hds := lenD e
    refine ⟨H, (fun b => W.foot b ∨ W.xs b), ds.map (fun d => some (false, d)) ++ List.replicate (N.length - ds.length) none, st1, sr_start (fun b q => (hx b q).elim) (rps_anti (fun b q => q.elim id fun q => (hx b q).elim) r) (by omega), ha, ?_⟩
    unfold feedF at e
    rw [if_pos hds] at e
    rw [hds, e]
    refine ⟨_, rfl, fun H' a b vs a' k' na nb ab eb rv ea => ?_⟩
    have : vs = l.map V.int := Rps.ints (dints l) rv
    subst this
    exact g H' a b a' k' na nb ab eb ea

/-! ### what the top has written -/
/-- a def of the top -/
def DefAt (K : PySem.W.Frag) (x : PySem.Str) (st : Stmt) : Prop := ∃ (f : Addr) (oc : Value) (od an : Option Addr) (kV dc pm cd ct : Value) (sl : Array (Option Value)),
  PySem.W.nsIn K mainGlobals x = some (some (.ref f)) ∧ K.lookup f = some ⟨oc, od, .func (PySem.W.fnOf x x (defArgs st) (defBody st) (defScope st) .none kV dc pm an cd ct), sl⟩ ∧
  PySem.W.codeIn K cd x = true ∧ PySem.W.keepIn K (.ref f) = true
theorem defAt_mk {K : PySem.W.Frag} {x : PySem.Str} {st : Stmt} {f : Addr} {oc : Value} {od an : Option Addr} {kV dc pm cd ct : Value} {sl : Array (Option Value)} (a : PySem.W.nsIn K mainGlobals x = some (some (.ref f)))
    (l : K.lookup f = some ⟨oc, od, .func (PySem.W.fnOf x x (defArgs st) (defBody st) (defScope st) .none kV dc pm an cd ct), sl⟩) (c : PySem.W.codeIn K cd x = true) (k : PySem.W.keepIn K (.ref f) = true) : DefAt K x st := ⟨f, oc, od, an, kV, dc, pm, cd, ct, sl, a, l, c, k⟩
/-- a def, its object, where it stands -/
structure DefK (K : PySem.W.Frag) (mg : PySem.Str → Option Value) (x : PySem.Str) (st : Stmt) (ps : List PySem.Str) (f : Addr) (fd : FuncData) : Prop where
  F : Fun K x x st f fd
  m : mg x = some (.ref f)
  b : Binds K fd ps []
theorem DefAt.dk {x : PySem.Str} {st : Stmt} {h : Heap} (X : K.In h) (G : h.Ns mainGlobals mg) (d : DefAt K x st) {ps : List PySem.Str}
    (hb : ∀ (kV doc pm : Value) (an : Option Addr) (cdv ct : Value) (us : List Value), us.length = ps.length → bindArgs (PySem.W.fnOf x x (defArgs st) (defBody st) (defScope st) .none kV doc pm an cdv ct) ⟨us, []⟩ = pure (ps.zip us)) : ∃ f fd, DefK K mg x st ps f fd := by
  obtain ⟨f, oc, od, an, kV, dc, pm, cd, ct, sl, h1, h2, h3, h4⟩ := d
  have F := fun_mk h2 h3 h4
  exact ⟨f, _, F, PySem.W.mg_of X G h1, F.binds hb⟩
theorem DefK.ok {W : Wd} {Γ : List (Fn W.S)} {c : Cfg} {x : PySem.Str} {st : Stmt} {N ps : List PySem.Str} {f : Addr} {fd : FuncData} {n : Nat} {ir : ISs} (d : DefK K mg x st ps f fd) (M : Md P w K mg base W Γ c k) (S : FnScope N ps (defScope st))
    (hc : compSs ⟨N, c.fns, c.cls, c.exc, c.flds, c.tks, c.kwp, c.muts, c.gc⟩ n (defScope st) (defBody st) = some ir) : FOkM P w K mg base W (k + 1) x ps.length (evD Γ ps.length N.length ir) := def_ok M d.F d.m S d.b hc
theorem DefK.bad {W : Wd} {x : PySem.Str} {st : Stmt} {ps : List PySem.Str} {f : Addr} {fd : FuncData} (d : DefK K mg x st ps f fd) : FOkM P w K mg base W k x ps.length (fun _ _ => .bad) := bad_ok d.m d.F.kp d.b
theorem DefK.kw {W : Wd} {Γ : List (Fn W.S)} {c : Cfg} {x : PySem.Str} {st : Stmt} {N ps : List PySem.Str} {f : Addr} {fd : FuncData} {n : Nat} {ir : ISs} {j : Nat} {ks : List PySem.Str} {perm : List Nat} {k1 : Nat} (d : DefK K mg x st ps f fd) (M : Md P w K mg base W Γ c k) (S : FnScope N ps (defScope st))
    (hc : compSs ⟨N, c.fns, c.cls, c.exc, c.flds, c.tks, c.kwp, c.muts, c.gc⟩ n (defScope st) (defBody st) = some ir) (hk : k + 1 ≤ k1)
    (hb : ∀ (kV doc pm : Value) (an : Option Addr) (cdv ct : Value) (us ws : List Value), us.length = j → ws.length = ks.length → bindArgs (PySem.W.fnOf x x (defArgs st) (defBody st) (defScope st) .none kV doc pm an cdv ct) ⟨us, ks.zip ws⟩ = pure (ps.zip (permL perm (us ++ ws)))) : KwOkM P w K mg base W k1 x j ks perm (evD Γ ps.length N.length ir) := by
  refine ⟨f, fd, ps, d.m, d.F.kp, (def_fn M d.F d.m S d.b hc).mono hk, ?_⟩
  obtain ⟨oc, od, kV, doc, pm, an, cdv, ct, osl, rfl, lk, hcd⟩ := d.F.ex
  exact hb kV doc pm an cdv ct
/-- an own error class of the top, its __init__ stores its fields -/
structure ErrN (K : PySem.W.Frag) (mg : PySem.Str → Option Value) (x q : PySem.Str) (fs : List PySem.Str) (stI : Stmt) (C : Addr) : Prop where
  m : mg x = some (.ref C)
  ox : OexC K C
  xf : XfC K C
  no : ∀ f ∈ fs, PySem.W.findIn K (.ref C) f = some none
  em : PySem.W.exmOne K (.ref C) (.ref C) = some true
  ec : ExcC K C
  ini : ∃ fI fd, PySem.W.findIn K (.ref C) "__init__" = some (some (.ref fI)) ∧ PySem.W.typeIn K (.ref fI) = some (.type "function") ∧ Fun K "__init__" q stI fI fd ∧ Binds K fd ("self" :: fs) []
/-- what the written part tells of such a class -/
structure ErrT (K : PySem.W.Frag) (x q : PySem.Str) (fs : List PySem.Str) (stI : Stmt) (C : Addr) : Prop where
  a : PySem.W.nsIn K mainGlobals x = some (some (.ref C))
  k : ∀ mg : PySem.Str → Option Value, mg x = some (.ref C) → ErrN K mg x q fs stI C
theorem err_mk {K : PySem.W.Frag} {x q : PySem.Str} {fs : List PySem.Str} {stI : Stmt} {C fI N : Addr} {nm qn : PySem.Str} {bs bm sub : List Value} {sn : List PySem.Str} {ab : Bool} {col : Option Bool} {dd od an : Option Addr} {m0 m1 m2 m3 m5 : Option Value} {oc kV dc pm cd ct : Value} {sl : Array (Option Value)}
    (aC : PySem.W.nsIn K mainGlobals x = some (some (.ref C)))
    (xL : K.lookup C = some (excClassObj nm qn C N bs bm true sn sub ab col dd m0 m1 m2 m3 m5 "ValueError.__new__")) (rf : PySem.HandSPX.refsVE bm = true)
    (sa : PySem.W.findIn K (.ref C) "__setattr__" = some (some (.builtin "object.__setattr__"))) (ex : PySem.W.subIn K (.ref C) (.type "BaseException") = some true) (ty : PySem.W.typeIn K (.ref C) = some (.type "type")) (kc : PySem.W.keepIn K (.ref C) = true)
    (ga : PySem.W.findIn K (.ref C) "__getattribute__" = some (some (.builtin "BaseException.__getattribute__"))) (gg : PySem.W.findIn K (.ref C) "__getattr__" = some none) (hd : PySem.W.hasDictIn K C = true)
    (no : (fs.all fun f => decide (PySem.W.findIn K (.ref C) f = some none)) = true)
    (i1 : PySem.W.findIn K (.ref C) "__init__" = some (some (.ref fI))) (t1 : PySem.W.typeIn K (.ref fI) = some (.type "function"))
    (l1 : K.lookup fI = some ⟨oc, od, .func (PySem.W.fnOf "__init__" q (defArgs stI) (defBody stI) (defScope stI) .none kV dc pm an cd ct), sl⟩) (c1 : PySem.W.codeIn K cd q = true) (k1 : PySem.W.keepIn K (.ref fI) = true)
    (bI : ∀ us : List Value, us.length = fs.length + 1 → bindArgs (PySem.W.fnOf "__init__" q (defArgs stI) (defBody stI) (defScope stI) .none kV dc pm an cd ct) ⟨us, []⟩ = pure ((("self" : PySem.Str) :: fs).zip us))
    (em : PySem.W.exmOne K (.ref C) (.ref C) = some true)
    (ha : PySem.W.findIn K (.ref C) "__class__" = some (some (.builtin "object.__class__"))) (hn : PySem.W.specialIn K (.builtin "object.__class__") "__get__" = some (some (.builtin "getset_descriptor.__get__"))) (ht : PySem.W.takesIn K (.builtin "object.__class__") = some true) (hm : PySem.W.mroIn K C (.type "object") = some true) : ErrT K x q fs stI C :=
  ⟨aC, fun mg m => ⟨m, ⟨⟨_, _, _, _, _, _, _, _, _, _, _, _, _, _, _, xL, rf⟩, sa, ex, ty, kc⟩, ⟨ga, gg, ex, hd⟩, fun f hf => of_decide_eq_true (List.all_eq_true.mp no f hf), em, ⟨ga, gg, ex, hd, ha, hn, ht, hm⟩, fI, _, i1, t1, fun_mk l1 c1 k1, .all bI⟩⟩
theorem exm_two {A S : Addr} {b : Bool} (h1 : PySem.W.subIn K (.ref S) (.type "BaseException") = some true) (h2 : PySem.W.isClsIn K S = true) (h3 : PySem.W.typeIn K (.ref S) = some (.type "type")) (h4 : PySem.W.subIn K (.ref A) (.ref S) = some b) : PySem.W.exmOne K (.ref A) (.ref S) = some b := by
  have h2' : (PySem.W.clsIn K S).isSome = true := h2
  have e : PySem.W.exmOne K (.ref A) (.ref S) = if (PySem.W.subIn K (.ref S) (.type "BaseException") == some true) = true then
      (if ((PySem.W.clsIn K S).isSome && PySem.W.typeIn K (.ref S) == some (.type "type")) = true then PySem.W.subIn K (.ref A) (.ref S) else none) else none := rfl
  rw [e, if_pos (by rw [h1]; rfl), if_pos (by rw [h2', h3]; rfl), h4]
theorem ErrN.fn2 {x q f1 f2 : PySem.Str} {stI : Stmt} {C : Addr} {p1 p2 p3 p4 p5 p6 p7 p8 : Pos} (e : ErrN K mg x q [f1, f2] stI C) (S : FnScope ["self", f1, f2] ["self", f1, f2] (defScope stI))
    (hb : defBody stI = [.Assign [.Attribute (.Name "self" p1) f1 p2] (.Name f1 p3) p4, .Assign [.Attribute (.Name "self" p5) f2 p6] (.Name f2 p7) p8])
    (v0 : Vis (defScope stI) "self") (v1 : Vis (defScope stI) f1) (v2 : Vis (defScope stI) f2) (d1 : (f1 == ("__debug__" : PySem.Str)) = false) (d2 : (f2 == ("__debug__" : PySem.Str)) = false) (c1 : (f1 == ("__classdict__" : PySem.Str)) = false) (c2 : (f2 == ("__classdict__" : PySem.Str)) = false) (ne : f1 ≠ f2) :
    ∃ (fI : Addr) (fd : FuncData), PySem.W.findIn K (.ref C) "__init__" = some (some (.ref fI)) ∧ PySem.W.typeIn K (.ref fI) = some (.type "function") ∧ FnOk P w K mg base CX0 1 fI fd ("self" :: [f1, f2]) (spI C [f1, f2]) ∧ Binds K fd ("self" :: [f1, f2]) [] := by
  obtain ⟨fI, fd, h1, h2, F, hB⟩ := e.ini
  exact ⟨fI, fd, h1, h2, init2_ok F e.ox S hb v0 v1 v2 d1 d2 c1 c2 (e.no _ (by simp)) (e.no _ (by simp)) ne, hB⟩
theorem ErrN.fn1 {x q f1 : PySem.Str} {stI : Stmt} {C : Addr} {p1 p2 p3 p4 : Pos} (e : ErrN K mg x q [f1] stI C) (S : FnScope ["self", f1] ["self", f1] (defScope stI))
    (hb : defBody stI = [.Assign [.Attribute (.Name "self" p1) f1 p2] (.Name f1 p3) p4])
    (v0 : Vis (defScope stI) "self") (v1 : Vis (defScope stI) f1) (d1 : (f1 == ("__debug__" : PySem.Str)) = false) (c1 : (f1 == ("__classdict__" : PySem.Str)) = false) :
    ∃ (fI : Addr) (fd : FuncData), PySem.W.findIn K (.ref C) "__init__" = some (some (.ref fI)) ∧ PySem.W.typeIn K (.ref fI) = some (.type "function") ∧ FnOk P w K mg base CX0 1 fI fd ("self" :: [f1]) (spI C [f1]) ∧ Binds K fd ("self" :: [f1]) [] := by
  obtain ⟨fI, fd, h1, h2, F, hB⟩ := e.ini
  exact ⟨fI, fd, h1, h2, init1_ok F e.ox S hb v0 v1 d1 c1 (e.no _ (by simp)), hB⟩
/-- a class's name in an except clause or a test -/
def NameT (K : PySem.W.Frag) (y : PySem.Str) (A : Addr) (l : List (Addr × Bool)) : Prop := PySem.W.nsIn K mainGlobals y = some (some (.ref A)) ∧ ∀ p ∈ l, PySem.W.exmOne K (.ref p.1) (.ref A) = some p.2
/-- the own error classes, by their numbers -/
def eCof (l : List (Addr × List PySem.Str)) : Nat → Option (Addr × List PySem.Str) := fun n => l[n]?
/-- what must be known of a name in except clauses -/
def ExcRow (K : PySem.W.Frag) (eC : Nat → Option (Addr × List PySem.Str)) (mg : PySem.Str → Option Value) (fl : List PySem.Str) (x : PySem.Str) (cs : List Nat) : Prop :=
  (∃ v : Value, (mg x = some v ∨ (mg x = none ∧ bootBuiltins x = some v ∧ x ≠ "__name__")) ∧ (∀ c1 C ns, eC c1 = some (C, ns) → PySem.W.exmOne K (.ref C) v = some (cs.contains c1)) ∧
    ∀ c1 C ns, eC c1 = some (C, ns) → cs.contains c1 = true → XfC K C ∧ ∀ f ∈ fl, PySem.W.findIn K (.ref C) f = some none) ∧
  ∀ v, mg x = some v ∨ (mg x = none ∧ bootBuiltins x = some v ∧ x ≠ "__name__") → ∃ vv : V, RelV vv v ∧ ∀ u, RelV vv u → u = v
theorem exc_tab {eC : Nat → Option (Addr × List PySem.Str)} {fl : List PySem.Str} : ∀ {tab : List (PySem.Str × List Nat)}, (∀ p ∈ tab, ExcRow K eC mg fl p.1 p.2) → ∀ x cs, excOf x tab = some cs → ExcRow K eC mg fl x cs
  | [], _, x, cs, h => by cases h
  | (y, l) :: r, H, x, cs, h => by
    unfold excOf at h
    split at h
    · rename_i e
      cases h
      subst e
      exact H _ List.mem_cons_self
    · exact exc_tab (tab := r) (fun p hp => H p (List.mem_cons_of_mem _ hp)) x cs h
theorem row_own {eC : Nat → Option (Addr × List PySem.Str)} {fl : List PySem.Str} {x : PySem.Str} {A : Addr} {cs : List Nat} (hm : mg x = some (.ref A)) (h1 : ∀ c1 C ns, eC c1 = some (C, ns) → PySem.W.exmOne K (.ref C) (.ref A) = some (cs.contains c1))
    (h2 : ∀ c1 C ns, eC c1 = some (C, ns) → cs.contains c1 = true → XfC K C ∧ ∀ f ∈ fl, PySem.W.findIn K (.ref C) f = some none) : ExcRow K eC mg fl x cs :=
  ⟨⟨.ref A, .inl hm, h1, h2⟩, fun v hv => by
    rcases hv with e | ⟨e, _⟩
    · rw [hm] at e; cases e; exact ⟨.ref A, rfl, fun u h => h⟩
    · rw [hm] at e; cases e⟩
theorem row_blt {eC : Nat → Option (Addr × List PySem.Str)} {fl : List PySem.Str} {x : PySem.Str} {T : String} {cs : List Nat} (hm : mg x = none) (hb : bootBuiltins x = some (.type T)) (hn : x ≠ "__name__") (h1 : ∀ c1 C ns, eC c1 = some (C, ns) → PySem.W.exmOne K (.ref C) (.type T) = some (cs.contains c1))
    (h2 : ∀ c1 C ns, eC c1 = some (C, ns) → cs.contains c1 = true → XfC K C ∧ ∀ f ∈ fl, PySem.W.findIn K (.ref C) f = some none) : ExcRow K eC mg fl x cs :=
  ⟨⟨.type T, .inr ⟨hm, hb, hn⟩, h1, h2⟩, fun v hv => by
    rcases hv with e | ⟨_, e, _⟩
    · rw [hm] at e; cases e
    · rw [hb] at e; cases e; exact ⟨.ty T, rfl, fun u h => h⟩⟩
/-- an own error class in the table of classes -/
def ClsRow (P : Program) (w : World) (K : PySem.W.Frag) (mg : PySem.Str → Option Value) (base : Heap) (eC : Nat → Option (Addr × List PySem.Str)) (k : Nat) (x : PySem.Str) (kk : Nat) (ns : List PySem.Str) : Prop :=
  ∃ (C fI : Addr) (fd : FuncData), eC kk = some (C, ns) ∧ mg x = some (.ref C) ∧ OexC K C ∧ PySem.W.findIn K (.ref C) "__init__" = some (some (.ref fI)) ∧ PySem.W.typeIn K (.ref fI) = some (.type "function") ∧
    FnOk P w K mg base CX0 1 fI fd ("self" :: ns) (spI C ns) ∧ Binds K fd ("self" :: ns) [] ∧ 2 ≤ k
theorem cls_tab {eC : Nat → Option (Addr × List PySem.Str)} : ∀ {tab : List (PySem.Str × Nat × List PySem.Str)}, (∀ p ∈ tab, ClsRow P w K mg base eC k p.1 p.2.1 p.2.2) → ∀ x kk ns, clsOf x tab = some (kk, ns) → ClsRow P w K mg base eC k x kk ns
  | [], _, x, kk, ns, h => by cases h
  | (y, l) :: r, H, x, kk, ns, h => by
    unfold clsOf at h
    split at h
    · rename_i e
      cases h
      subst e
      exact H _ List.mem_cons_self
    · exact cls_tab (tab := r) (fun p hp => H p (List.mem_cons_of_mem _ hp)) x kk ns h
/-! ### the law itself -/
/-- a suite read over hands that are known only then -/
theorem PSs.any {X : Cx} {ss : List Stmt} {α : Type} {t : α → TS} (h : ∀ x, PSs X ss (t x)) : PSs X ss (fun D σ H => ∃ x, t x D σ H) := ⟨fun pins s σ H D I ⟨x, q⟩ => (h x).run pins s σ H D I q⟩
/-- no state: before the law has made one -/
def wd0 (K : PySem.W.Frag) (eC : Nat → Option (Addr × List PySem.Str)) : Wd := wdOf K 0 (fun _ => 0) (fun _ _ h => absurd h (by omega)) eC
/-- two lists: the first one's first item is the second one -/
structure Two where
  a : Addr
  b : Addr
  ne : a ≠ b
def hand2 (t : Two) : Nat → Addr
  | 0 => t.a
  | _ => t.b
theorem hand2_inj (t : Two) : ∀ i j, i < 2 → j < 2 → hand2 t i = hand2 t j → i = j
  | 0, 0, _, _, _ => rfl
  | 0, 1, _, _, h => absurd h t.ne
  | 1, 0, _, _, h => absurd h.symm t.ne
  | 1, 1, _, _, _ => rfl
  | _ + 2, _, h, _, _ => by omega
  | _, _ + 2, _, h, _ => by omega
def wd2 (K : PySem.W.Frag) (t : Two) (eC : Nat → Option (Addr × List PySem.Str)) : Wd := wdOf K 2 (hand2 t) (hand2_inj t) eC
/-- what a law row asks -/
def spLaw (K : PySem.W.Frag) : Sp := fun vs H Q _ => ∃ (a : Addr) (ns : List Int), vs = [.ref a] ∧ Rd H a (.lst (ns.map V.int)) ∧ (∀ b xs, H b ≠ some (.tup xs)) ∧ ns.length ≤ 63 ∧ ∀ H', Q (.bl true) H'
theorem at0 {K : PySem.W.Frag} {eC : Nat → Option (Addr × List PySem.Str)} (H : Hp) : (wd0 K eC).At H ([] : SL) := ⟨rfl, fun n l h => by cases (show ([] : SL)[n]? = some l from h)⟩
theorem rps_any {W : Wd} {Z : Addr → Prop} {H : Hp} (is : List Int) : Rps W Z H (is.map D.int) (is.map V.int) := rps_ints is
/-- the state when it has just been made -/
def s2 (is cells : List Int) : SL := [.st 1 :: is.map D.int, cells.map D.int]
theorem at2 {K : PySem.W.Frag} {t : Two} {eC : Nat → Option (Addr × List PySem.Str)} {H : Hp} {is cells : List Int} (ha : H t.a = some (.lst (.ref t.b :: is.map V.int))) (hb : H t.b = some (.lst (cells.map V.int))) : (wd2 K t eC).At H (s2 is cells) := by
  have ai : ∀ l : List Int, (l.map D.int).all stOk = true := fun l => by
    rw [List.all_eq_true]
    intro d hd
    obtain ⟨i, _, rfl⟩ := List.mem_map.mp hd
    rfl
  have mi : ∀ l : List Int, (l.map D.int).map (stV (hand2 t)) = l.map V.int := fun l => by rw [List.map_map]; rfl
  refine ⟨rfl, fun n l h => ?_⟩
  match n with
  | 0 =>
    cases (show some (.st 1 :: is.map D.int) = some l from h)
    refine ⟨?_, ?_⟩
    · rw [List.all_cons, ai]; rfl
    · rw [List.map_cons, mi]; exact ha
  | 1 =>
    cases (show some (cells.map D.int) = some l from h)
    exact ⟨ai _, by rw [mi]; exact hb⟩
  | n + 2 => cases (show (none : Option (List D)) = some l from h)
/-- a law whose first row is s = start(script), start a def that hands a list and numbers back -/
theorem law_start {eC : Nat → Option (Addr × List PySem.Str)} {Γ : List (Fn SL)} {c : Cfg} {x q xs : PySem.Str} {st : Stmt} {f f0 : Addr} {fd fd0 : FuncData} {N : List PySem.Str} {ps : List PySem.Str} {y z : PySem.Str} {p1 p2 p3 p4 p5 : Pos} {rest : List Stmt} {n : Nat} {ir : ISs} {is : List Int} {g : List D → SL → R SL D}
    (F : Fun K x q st f fd) (S : FnScope N [z] (defScope st)) (hb : defBody st = .Assign [.Name y p1] (.Call (.Name xs p2) [.Name z p3] [] p4) p5 :: rest) (hN0 : N[0]? = some z) (hN1 : N[1]? = some y)
    (v0 : vis (defScope st) z = true) (o0 : nmOk z = true) (w1 : wrt (defScope st) y = true) (gx : isGl (defScope st) xs = true) (ox : nmOk xs = true)
    (h0 : FnG P w K mg base (L2.CX P w) k f0 fd0 ps (spFeed (wd0 K eC) g is)) (m0 : mg xs = some (.ref f0)) (k0 : PySem.W.keepIn K (.ref f0) = true) (b0 : Binds K fd0 ps [])
    (M0 : Md P w K mg base (wd0 K eC) [] ⟨[], [], c.cls, c.exc, c.flds, c.tks, [], c.muts, c.gc⟩ k)
    (M : ∀ t : Two, Md P w K mg base (wd2 K t eC) Γ c k) (hc : compSs ⟨N, c.fns, c.cls, c.exc, c.flds, c.tks, c.kwp, c.muts, c.gc⟩ n (defScope st) rest = some ir)
    (hg : ∀ ns : List Int, ns.length ≤ 63 → g [.lst (ns.map D.int)] [] = .ok (.lst (ns.map D.int)) [])
    (hl : ∀ ns : List Int, ns.length ≤ 63 → ∃ s', @evSs SL slOps Γ ir (none :: some (false, .st 0) :: List.replicate (N.length - 2) none) (s2 is ns) = .ok (.rt (.bl true)) s') :
    FnG P w K mg base (L2.CX P w) (k + 1) f fd [z] (spLaw K) := by
  refine fn_g F S (fun vs H Q E h => ?_) fun cdv A outer s H vs Q E hr hgd h => ?_
  · obtain ⟨a, ns, rfl, _⟩ := h; rfl
  · obtain ⟨a, ns, rfl, hS, hT, h63, hq⟩ := h
    have C0 := M0.cks (q := q) (f := f) (cdv := cdv) (A := A) (outer := outer) (s := s) (H := H) (E := E) S hr hgd
    have C0' : (cxOf (L2.CX P w) P w K mg base N q (defScope st) f cdv A outer s H E).N = N := rfl
    have pcall := pe_callG (X := cxOf (L2.CX P w) P w K mg base N q (defScope st) f cdv A outer s H E) (E := fun σ => WE (fun cls d _ H => E cls d H) σ) (p := p2) (pos := p4) h0 C0.room C0.gd (C0.gl gx) m0 k0 b0 C0.pass
      (pa_cons (pe_var (i := 0) (pos := p3) hN0 (C0.vis v0) (nmOk_1 o0) (nmOk_2 o0)) pa_nil) (nmOk_1 ox) rfl rfl
    have lo := C0.loc w1
    have s1 := ps_set (X := cxOf (L2.CX P w) P w K mg base N q (defScope st) f cdv A outer s H E) (i := 1) (pos := p5) (pos' := p1) S.nd hN1 lo.1 pcall rfl lo.2
    have s2' := PSs.any (X := cxOf (L2.CX P w) P w K mg base N q (defScope st) f cdv A outer s H E) (ss := rest) fun t : Two => (soundS (wd2 K t eC) Γ _ k n).ss ((M t).cks (q := q) (f := f) (cdv := cdv) (A := A) (outer := outer) (s := s) (H := H) (E := E) S hr hgd) hc
    rw [hb]
    refine ⟨_, pss_cons s1 s2', ?_⟩
    have hN2 : 2 ≤ N.length := by
      have := (List.getElem?_eq_some_iff.mp hN1).1
      omega
    refine ⟨.ref a, rfl, [.lst (ns.map D.int)], [], at0 H, ⟨.ref a, [], rfl, ⟨a, ns.map V.int, rfl, ⟨fun z => ?_, hS⟩, rps_any ns⟩, rfl⟩, ns, [], hg ns h63, fun H' a1 b1 _ k1 na nb ab eb ea => ?_⟩
    · obtain ⟨n, hn, _⟩ := z; omega
    · obtain ⟨s', he⟩ := hl ns h63
      refine ⟨⟨a1, b1, ab⟩, H', (wd2 K ⟨a1, b1, ab⟩ eC).foot, none :: some (false, .st 0) :: List.replicate (N.length - 2) none, s2 is ns, ?_, ?_, at2 ea eb, ?_⟩
      · rw [List.length_cons, List.length_cons, List.length_replicate]; show _ = N.length; omega
      · refine ⟨.refl _ _, fun _ f => f, fun _ f => .inl f, fun i d e => ?_, fun i d e => ?_, fun i j d e' a h1 => ?_, ?_, fun i d a h1 _ => ?_, fun b e => e.elim⟩
        · match i with
          | 0 => cases e
          | 1 =>
            cases e
            refine ⟨.ref a1, ?_, rfl⟩
            unfold L2.start
            match N, hN2 with
            | _ :: _ :: _, _ => rfl
          | i + 2 =>
            rw [List.getElem?_cons_succ, List.getElem?_cons_succ, List.getElem?_replicate] at e
            split at e <;> cases e
        · match i with
          | 0 => cases e
          | 1 => cases e
          | i + 2 =>
            rw [List.getElem?_cons_succ, List.getElem?_cons_succ, List.getElem?_replicate] at e
            split at e <;> cases e
        · match i with
          | 0 => cases h1
          | 1 => cases h1
          | i + 2 =>
            rw [List.getElem?_cons_succ, List.getElem?_cons_succ, List.getElem?_replicate] at h1
            split at h1 <;> cases h1
        · rw [List.length_cons, List.length_cons, List.length_replicate, List.length_set]
          unfold L2.start
          rw [List.length_append, List.length_map, List.length_replicate]
          show _ = 1 + (N.length - 1)
          omega
        · match i with
          | 0 => cases h1
          | 1 => cases h1
          | i + 2 =>
            rw [List.getElem?_cons_succ, List.getElem?_cons_succ, List.getElem?_replicate] at h1
            split at h1 <;> cases h1
      · have he' : @evSs SL slOps Γ ir (none :: some (false, .st 0) :: List.replicate (N.length - 2) none) (s2 is ns) = R.ok (.rt (.bl true)) s' := he
        show GoS (wd2 K ⟨a1, b1, ab⟩ eC) _ _ _ (@evSs SL slOps Γ ir (none :: some (false, .st 0) :: List.replicate (N.length - 2) none) (s2 is ns)) _
        rw [he']
        intro H2 v _ _ r
        have rv : v = .bl true := r
        subst rv
        exact hq H2
/-- no list stands in the written part: the script is tracked -/
theorem sp_of {K : PySem.W.Frag} (hNL : K.all (fun q => !decide (q.2.cls = .type "list")) = true) {H : Hp} {a : Addr} {ns : List Int} (hl : ns.length ≤ 63) (hO : Only H) (hS : SqL K H a (ns.map V.int)) : spLaw K [.ref a] H (fun v _ => v = .bl true) fun _ _ _ => False := by
  refine ⟨a, ns, rfl, ?_, fun b xs e => ?_, hl, fun _ => rfl⟩
  · rcases hS with r | ⟨o, _, _, e, c, _⟩
    · exact r
    · have gen : ∀ K : PySem.W.Frag, K.all (fun q => !decide (q.2.cls = .type "list")) = true → ∀ o, List.lookup a K = some o → o.cls ≠ .type "list" := by
        intro K
        induction K with
        | nil => intro _ o e; cases e
        | cons p r ih =>
          intro h o e
          rw [List.all_cons, Bool.and_eq_true] at h
          rw [List.lookup_cons] at e
          split at e
          · cases e
            simpa using h.1
          · exact ih h.2 o e
      exact absurd c (gen K hNL o e)
  · rcases hO b with z | ⟨o, ys, z⟩ <;> (rw [z] at e; cases e)
theorem cx_no {P : Program} {w : World} {outer : List PySem.Env} {H : Hp} {s : Shared} {e : Value} {s' : Shared} (h : L2.CX P w outer H s (fun _ _ _ => False) e s') : False := by
  obtain ⟨_, _, _, _, _, _, _, _, _, _, _, _, _, _, _, _, w⟩ := h
/-- the law is called, nothing being shown -/
theorem call_law {P : Program} {w : World} {K : PySem.W.Frag} {mg mb : PySem.Str → Option Value} {CX : CXT} {k : Nat} {fa a : Addr} {fd : FuncData} {x : PySem.Str} {sp : Sp} {s1 : Shared} {vs : List Value} {ns : List Int}
    (Y : K.In s1.heap) (Nm : s1.heap.Ns mainGlobals mg) (Nb : s1.heap.Ns builtinsNs mb) (eb : ∀ x : PySem.Str, x ≠ "__name__" → mb x = bootBuiltins x) (lim : s1.heap.NoLimit) (eg : s1.gens = #[])
    (la : s1.heap.get? a = some { cls := .type "list", data := .seq vs.toArray }) (hi : IntsAre vs ns) (hl : ns.length ≤ sizeLine) (hr : Room k callerA)
    (F : ∀ base : Heap, K.In base → base.Ns mainGlobals mg → FnG P w K mg base CX k fa fd [x] sp) (bnd : ∀ (s : Shared) (u : Value), BindsTo s fd ⟨[u], []⟩ [(x, u)])
    (hsp : ∀ H : Hp, Only H → SqL K H a (ns.map V.int) → sp [.ref a] H (fun v _ => v = .bl true) fun _ _ _ => False)
    (hno : ∀ H e s', CX [] H s1 (fun _ _ _ => False) e s' → False) :
    codeAny (model P w) callerA (.call (.ref fa) ⟨[.ref a], []⟩) (fun r s' => r = .ok (.ret (.bool true)) ∧ OldK s1.heap s'.heap ∧ s'.os = s1.os ∧ AllBare s'.gens) s1 := by
  have rel := vals_ints hi; have nv := hi.length
  have main : ∀ H : Hp, Only H → SqL K H a (ns.map V.int) → HOk P w H s1.heap → (∀ b, H b ≠ none → b = a) → (H a ≠ none → K.lookup a = none) →
      codeAny (model P w) callerA (.call (.ref fa) ⟨[.ref a], []⟩) (fun r s' => r = .ok (.ret (.bool true)) ∧ OldK s1.heap s'.heap ∧ s'.os = s1.os ∧ AllBare s'.gens) s1 := by
    intro H only sq ok onlyA apart
    have free : ∀ {b : Addr} {o : Obj}, b ≠ a → s1.heap.get? b = some o → (hidT s1.heap H).get? b = some o := fun {b o} nb e => hidT_get e (by
      cases q : H b with
      | none => rfl
      | some u => exact absurd (onlyA b (by rw [q]; simp)) nb)
    have isDict : ∀ {b : Addr} {o : Obj} {es : Array DictEntry} {ep : Nat}, s1.heap.get? b = some o → o.data = .dict es ep → b ≠ a := fun {b o es ep} e d z => by
      subst z; rw [la] at e; cases e; cases d
    have nsK : ∀ {b : Addr} {m : PySem.Str → Option Value}, s1.heap.Ns b m → (hidT s1.heap H).Ns b m := fun {b m} ⟨o, es, ep, e, d, r⟩ => ⟨o, es, ep, free (isDict e d) e, d, r⟩
    have inK : K.In (hidT s1.heap H) := fun b o e => hidT_get (Y b o e) (by
      cases q : H b with
      | none => rfl
      | some u =>
        have nz : H b ≠ none := by rw [q]; simp
        have eb' := onlyA b nz; subst eb'
        rw [apart nz] at e; cases e)
    have md : Mod K mg (hidT s1.heap H) := ⟨inK, nsK Nm, ⟨mb, nsK Nb, eb⟩, let ⟨mc, h1, h2⟩ := lim; ⟨mc, nsK h1, h2⟩⟩
    have nil : ∀ {b : Addr}, b ∈ ([] : List Addr) → False := fun h => nomatch h
    have env : Env0 P w K mg (hidT s1.heap H) callerA [] s1 H := ⟨rfl, md, fun b o e => of_hidT e, Nat.le_of_eq (hidT_size _ _), trivial, fun b hb => (nil hb).elim, ok, .of_eq eg⟩
    refine codeAny_mono ((F _ inK (nsK Nm)).run (us := [.ref a]) (vs := [.ref a]) hr rfl env (bnd s1 (.ref a)) (.cons rfl .nil) (hsp H only sq)) fun res s' h => ?_
    match res, h with
    | .error e, h => exact (hno H e s' h).elim
    | .ok .next, h => exact h.elim
    | .ok .brk, h => exact h.elim
    | .ok .cont, h => exact h.elim
    | .ok (.ret u), ⟨v, H', os, bare, un, ok', rv, q⟩ =>
      obtain rfl : v = .bl true := q
      obtain rfl : u = Value.bool true := rv
      refine ⟨rfl, OldK.of_keep fun b o e => ?_, os, bare⟩
      cases c : H b with
      | none => exact un.keep b o e c (fun z => nil z) (by simp)
      | some u =>
        rcases only b with z | ⟨ob, xs, z⟩
        · rw [c] at z; cases z
        · obtain ⟨e1, _⟩ := ok b _ z; obtain ⟨e2, _⟩ := ok' b _ (un.frzs b ob _ z)
          rw [e] at e1; cases e1; exact e2
  cases hk : K.lookup a with
  | some o =>
    have e := Y a o hk
    rw [la] at e; cases e
    exact main (fun _ => none) (fun _ => .inl rfl) (.inr ⟨_, vs.toArray, _, hk, rfl, rfl, rfl, by rw [List.size_toArray, nv]; exact hl, by simpa using rel⟩) (fun b u z => nomatch (show (none : Option HO) = some u from z)) (fun b z => absurd rfl z) fun z => absurd rfl z
  | none =>
    let ob : Obj := { cls := .type "list", data := .seq vs.toArray }
    refine main (fun b => if b = a then some (.frz ob (.lst (ns.map V.int))) else none) (fun b => ?_) (.inl (.inr ⟨ob, if_pos rfl⟩)) (fun b u z => ?_) (fun b z => Classical.byContradiction fun hb => z (if_neg hb)) fun _ => hk
    · exact (Classical.em (b = a)).elim (fun hb => .inr ⟨_, _, if_pos hb⟩) fun hb => .inl (if_neg hb)
    · by_cases hb : b = a
      · subst hb
        have z' := (if_pos rfl).symm.trans z; cases z'
        exact ⟨la, by rw [List.length_map]; exact hl, vs, _, rel, la⟩
      · have z' := (if_neg hb).symm.trans z; cases z'
/-- the end of a law row -/
theorem law_walk {l : PySem.W.OpenLaw} {q : Program} {loose : List PySem.Str} {XP : (PySem.Str → Option Value) → Heap → Prop} {YP : World → Heap → Prop} {d : DefRec} {K : Params → PySem.W.Frag} {x : PySem.Str} (k : Nat) (hn : l.most = some 63) (hdf : d.params.defaults = []) (hr : Room k callerA)
    (hNL : ∀ p : Params, (K p).all (fun q => !decide (q.2.cls = .type "list")) = true)
    (hY : ∀ (w : World) (h : Heap), YP w h → (K w.params).In h)
    (F : ∀ (w : World) (mg : PySem.Str → Option Value) (fa : Addr) (h : Heap), (K w.params).In h → h.Ns mainGlobals mg → mg d.name = some (.ref fa) →
      ∃ fd : FuncData, (∀ (s : Shared) (u : Value), BindsTo s fd ⟨[u], []⟩ [(x, u)]) ∧ ∀ base : Heap, (K w.params).In base → base.Ns mainGlobals mg → FnG l.prog w (K w.params) mg base (L2.CX l.prog w) k fa fd [x] (spLaw (K w.params))) :
    PySem.W.WalkO q loose XP YP l.row.toRowW d [] (fun f vs => PySem.call f vs) := by
  refine Att.attach_call hn hdf fun w s₀ s1 mg mb fa o pm cd doc a vs ns G Y ho hd hcd hmg hobj hints hlen hg => ?_
  have KX := hY w _ Y
  obtain ⟨fd, hb, hF⟩ := F w mg fa _ KX G.T.g hmg
  exact call_law KX G.T.g G.T.b G.T.builtins G.T.nolimit hg hobj hints (Nat.le_trans hlen (by decide)) hr hF hb (fun H hO hS => sp_of (hNL w.params) hlen hO hS) fun H e s' z => cx_no z
end
end Ev
end
section
set_option Elab.async false
set_option linter.all false
set_option maxRecDepth 100000
set_option maxHeartbeats 1000000
namespace Ev
open PySem PySem.Spec PyProof.Rows L2
variable {P : Program} {w : World} {K : PySem.W.Frag} {mg : PySem.Str → Option Value} {base : Heap} {k : Nat}
/-- one list of the law's own: its pool -/
def wd1 (K : PySem.W.Frag) (a : Addr) (eC : Nat → Option (Addr × List PySem.Str)) : Wd := wdOf K 1 (fun _ => a) (fun i j h1 h2 _ => by omega) eC
theorem at1 {K : PySem.W.Frag} {a : Addr} {eC : Nat → Option (Addr × List PySem.Str)} {H : Hp} {is : List Int} (ha : H a = some (.lst (is.map V.int))) : (wd1 K a eC).At H ([is.map D.int] : SL) := by
  have ai : ∀ l : List Int, (l.map D.int).all stOk = true := fun l => by
    rw [List.all_eq_true]
    intro d hd
    obtain ⟨i, _, rfl⟩ := List.mem_map.mp hd
    rfl
  refine ⟨rfl, fun n l h => ?_⟩
  match n with
  | 0 =>
    cases (show some (is.map D.int) = some l from h)
    exact ⟨ai _, by rw [List.map_map]; exact ha⟩
  | n + 1 => cases (show (none : Option (List D)) = some l from h)
/-- a law whose first row makes its pool: a list of numbers -/
theorem law_pool {eC : Nat → Option (Addr × List PySem.Str)} {Γ : List (Fn SL)} {c : Cfg} {x q : PySem.Str} {st : Stmt} {f : Addr} {fd : FuncData} {N : List PySem.Str} {y z : PySem.Str} {e1 : Expr} {p1 p5 : Pos} {rest : List Stmt} {n : Nat} {ir : ISs} {ie : IEs} {is : List Int}
    (F : Fun K x q st f fd) (S : FnScope N [z] (defScope st)) (hb : defBody st = .Assign [.Name y p1] e1 p5 :: rest) (hN0 : N[0]? = some z) (hN1 : N[1]? = some y)
    (w1 : wrt (defScope st) y = true) (hlc : isLC e1 = false)
    (M0 : Md P w K mg base (wd0 K eC) [] ⟨[], [], c.cls, c.exc, c.flds, c.tks, [], c.muts, c.gc⟩ k)
    (h1 : comp ⟨N, [], c.cls, c.exc, c.flds, c.tks, [], c.muts, c.gc⟩ n (defScope st) (defScope st) e1 = some (.lst ie))
    (he : ∀ ρ, @evE SL slOps [] false (.lst ie) ρ [] = .ok (.lst (is.map D.int)) [])
    (M : ∀ a : Addr, Md P w K mg base (wd1 K a eC) Γ c k) (hc : compSs ⟨N, c.fns, c.cls, c.exc, c.flds, c.tks, c.kwp, c.muts, c.gc⟩ n (defScope st) rest = some ir)
    (hl : ∀ ns : List Int, ns.length ≤ 63 → ∃ s', @evSs SL slOps Γ ir (some (false, .lst (ns.map D.int)) :: some (false, .st 0) :: List.replicate (N.length - 2) none) [is.map D.int] = .ok (.rt (.bl true)) s') :
    FnG P w K mg base (L2.CX P w) (k + 1) f fd [z] (spLaw K) := by
  refine fn_g F S (fun vs H Q E h => ?_) fun cdv A outer s H vs Q E hr hgd h => ?_
  · obtain ⟨a, ns, rfl, _⟩ := h; rfl
  · obtain ⟨a, ns, rfl, hS, hT, h63, hq⟩ := h
    have C0 := M0.cks (q := q) (f := f) (cdv := cdv) (A := A) (outer := outer) (s := s) (H := H) (E := E) S hr hgd
    obtain ⟨hE, hst⟩ := (sound (wd0 K eC) [] _ k n).e C0.toCK h1
    have lo := C0.loc w1
    have s1 := ps_set (X := cxOf (L2.CX P w) P w K mg base N q (defScope st) f cdv A outer s H E) (i := 1) (pos := p5) (pos' := p1) S.nd hN1 lo.1 (hE.f rfl) (noswap hlc _ _ _) lo.2
    have s2' := PSs.any (X := cxOf (L2.CX P w) P w K mg base N q (defScope st) f cdv A outer s H E) (ss := rest) fun t : Addr => (soundS (wd1 K t eC) Γ _ k n).ss ((M t).cks (q := q) (f := f) (cdv := cdv) (A := A) (outer := outer) (s := s) (H := H) (E := E) S hr hgd) hc
    rw [hb]
    refine ⟨_, pss_cons s1 s2', ?_⟩
    have hN2 : 2 ≤ N.length := by
      have := (List.getElem?_eq_some_iff.mp hN1).1
      omega
    have r0 : Rps (wd0 K eC) (fun b => (wd0 K eC).foot b ∨ (wd0 K eC).xs b) H [.lst (ns.map D.int)] [.ref a] := ⟨.ref a, [], rfl, ⟨a, ns.map V.int, rfl, ⟨fun z => by
      rcases z with ⟨n, hn, _⟩ | z
      · omega
      · exact z, hS⟩, rps_any ns⟩, rfl⟩
    refine ⟨H, (fun b => (wd0 K eC).foot b ∨ (wd0 K eC).xs b), [.lst (ns.map D.int)].map (fun d => some (false, d)) ++ List.replicate (N.length - 1) none, [], sr_start (fun b q => q.elim) r0 (by simp; omega), at0 H, ?_⟩
    have he' := he ([.lst (ns.map D.int)].map (fun d => some (false, d)) ++ List.replicate (N.length - 1) none)
    show Go (wd0 K eC) _ _ H (@evE SL slOps [] false (.lst ie) _ []) _
    rw [he']
    intro H' v a' k' r
    obtain ⟨a1, vs, rfl, na, ea, rv⟩ := r
    have : vs = is.map V.int := Rps.ints (dints is) rv
    subst this
    obtain ⟨s', hev⟩ := hl ns h63
    have nea : a ≠ a1 := fun e => by subst e; exact rd_some hS na
    refine ⟨a1, H', (wd1 K a1 eC).foot, some (false, .lst (ns.map D.int)) :: some (false, .st 0) :: List.replicate (N.length - 2) none, [is.map D.int], ?_, ?_, at1 ea, ?_⟩
    · rw [List.length_cons, List.length_cons, List.length_replicate]; show _ = N.length; omega
    · refine ⟨.refl _ _, fun _ f => f, fun _ f => .inl f, fun i d e => ?_, fun i d e => ?_, fun i j d e' a h1 => ?_, ?_, fun i d a h1 _ => ?_, fun b e => e.elim⟩
      · match i with
        | 0 =>
          cases e
          refine ⟨.ref a, ?_, ⟨a, ns.map V.int, rfl, ⟨fun ⟨n, _, e⟩ => nea e, rd_map hS fun o e => k'.keep a o (fun ⟨n, hn, _⟩ => by omega) e⟩, rps_any ns⟩⟩
          unfold L2.start
          match N, hN2 with
          | _ :: _ :: _, _ => rfl
        | 1 =>
          cases e
          refine ⟨.ref a1, ?_, rfl⟩
          unfold L2.start
          match N, hN2 with
          | _ :: _ :: _, _ => rfl
        | i + 2 =>
          rw [List.getElem?_cons_succ, List.getElem?_cons_succ, List.getElem?_replicate] at e
          split at e <;> cases e
      · match i with
        | 0 => cases e
        | 1 => cases e
        | i + 2 =>
          rw [List.getElem?_cons_succ, List.getElem?_cons_succ, List.getElem?_replicate] at e
          split at e <;> cases e
      · match i with
        | 0 => cases h1
        | 1 => cases h1
        | i + 2 =>
          rw [List.getElem?_cons_succ, List.getElem?_cons_succ, List.getElem?_replicate] at h1
          split at h1 <;> cases h1
      · rw [List.length_cons, List.length_cons, List.length_replicate, List.length_set]
        unfold L2.start
        rw [List.length_append, List.length_map, List.length_replicate]
        show _ = 1 + (N.length - 1)
        omega
      · match i with
        | 0 => cases h1
        | 1 => cases h1
        | i + 2 =>
          rw [List.getElem?_cons_succ, List.getElem?_cons_succ, List.getElem?_replicate] at h1
          split at h1 <;> cases h1
    · show GoS (wd1 K a1 eC) _ _ _ (@evSs SL slOps Γ ir (some (false, .lst (ns.map D.int)) :: some (false, .st 0) :: List.replicate (N.length - 2) none) [is.map D.int]) _
      rw [hev]
      intro H2 v _ _ r
      have rv : v = .bl true := r
      subst rv
      exact hq H2
end Ev
end
section
set_option linter.all false
/-! EvB: what the small language's loops come to; order and sorting; totals of triples. Pure. -/
namespace Ev
open PySem (Str)
section
variable {S : Type} {α : Type}
theorem turns_fm {f : D → S → R S (Option D)} {enc : α → D} {h : α → Option D} {s : S} : ∀ (l : List α) (acc : List D), (∀ x ∈ l, f (enc x) s = .ok (h x) s) → acc.length + l.length ≤ L →
    turns f (l.map enc) acc s = .ok (acc ++ l.filterMap h) s
  | [], acc, _, _ => by simp [turns]
  | x :: l, acc, hf, hl => by
    have h1 := hf x (by simp)
    have h2 : ∀ y ∈ l, f (enc y) s = .ok (h y) s := fun y hy => hf y (by simp [hy])
    have hl' : acc.length + (l.length + 1) ≤ L := by simpa using hl
    cases e : h x with
    | none =>
      rw [List.map_cons, turns, h1, e]
      simp only
      rw [turns_fm l acc h2 (by omega), List.filterMap_cons, e]
    | some y =>
      rw [List.map_cons, turns, h1, e]
      simp only
      rw [if_pos (by omega), turns_fm l (acc ++ [y]) h2 (by simp; omega), List.filterMap_cons, e]
      simp
theorem turns_mp {f : D → S → R S (Option D)} {enc g : α → D} {s : S} (l : List α) (acc : List D) (hf : ∀ x ∈ l, f (enc x) s = .ok (some (g x)) s) (hl : acc.length + l.length ≤ L) :
    turns f (l.map enc) acc s = .ok (acc ++ l.map g) s := by
  rw [turns_fm (h := fun x => some (g x)) l acc hf hl, List.filterMap_eq_map']
/-- a loop all of whose turns end by themselves -/
theorem forS_inv {f : D → Env → S → R S Fl} {enc : α → D} (I : List α → Env → S → Prop) : ∀ (l pre : List α) (ρ : Env) (s : S), I pre ρ s →
    (∀ p x q ρ s, pre ++ l = p ++ x :: q → I p ρ s → ∃ ρ' s', f (enc x) ρ s = .ok (.nx ρ') s' ∧ I (p ++ [x]) ρ' s') →
    ∃ ρ' s', forS f (l.map enc) ρ s = .ok (.nx ρ') s' ∧ I (pre ++ l) ρ' s'
  | [], pre, ρ, s, h, _ => ⟨ρ, s, by simp [forS], by simpa using h⟩
  | x :: l, pre, ρ, s, h, st => by
    obtain ⟨ρ1, s1, e, i1⟩ := st pre x l ρ s rfl h
    obtain ⟨ρ2, s2, e2, i2⟩ := forS_inv I l (pre ++ [x]) ρ1 s1 i1 (fun p y q ρ s e i => st p y q ρ s (by rw [← e]; simp) i)
    exact ⟨ρ2, s2, by rw [List.map_cons, forS, e]; exact e2, by simpa using i2⟩
end

/-! ### order -/
theorem insB_perm {α : Type} (lt : α → α → Bool) (x : α) : ∀ l, (ins lt x l).Perm (x :: l)
  | [] => .refl _
  | y :: r => by
    rw [ins]; split
    · exact ((insB_perm lt x r).cons y).trans (.swap ..)
    · exact .refl _
theorem isortB_perm {α : Type} (lt : α → α → Bool) : ∀ l, (isort lt l).Perm l
  | [] => .refl _
  | x :: r => by rw [isort]; exact (insB_perm lt x _).trans ((isortB_perm lt r).cons x)
/-- a strict order that tells any two apart -/
structure Ord {α : Type} (lt : α → α → Bool) : Prop where
  irr : ∀ a, lt a a = false
  tr : ∀ a b c, lt a b = true → lt b c = true → lt a c = true
  tot : ∀ a b, lt a b = false → lt b a = false → a = b
theorem Ord.asym {α : Type} {lt : α → α → Bool} (o : Ord lt) {a b : α} (h : lt a b = true) : lt b a = false := by
  cases e : lt b a with
  | false => rfl
  | true => have := o.tr _ _ _ h e; rw [o.irr] at this; cases this
theorem ins_sorted {α : Type} {lt : α → α → Bool} (o : Ord lt) (x : α) : ∀ l, l.Pairwise (fun a b => lt b a = false) → (ins lt x l).Pairwise (fun a b => lt b a = false)
  | [], _ => by simp [ins]
  | y :: r, h => by
    rw [ins]
    have h' := List.pairwise_cons.mp h
    split
    · rename_i c
      refine List.pairwise_cons.mpr ⟨fun z hz => ?_, ins_sorted o x r h'.2⟩
      rcases List.mem_cons.mp ((insB_perm lt x r).mem_iff.mp hz) with rfl | hz
      · exact o.asym c
      · exact h'.1 z hz
    · rename_i c
      have c : lt y x = false := by simpa using c
      refine List.pairwise_cons.mpr ⟨fun z hz => ?_, h⟩
      rcases List.mem_cons.mp hz with rfl | hz
      · exact c
      · have := h'.1 z hz
        cases e : lt z x with
        | false => rfl
        | true =>
          cases e2 : lt x y with
          | true => have := o.tr _ _ _ e e2; simp_all
          | false => rw [o.tot _ _ e2 c] at e; simp_all
theorem isort_sorted {α : Type} {lt : α → α → Bool} (o : Ord lt) : ∀ l, (isort lt l).Pairwise (fun a b => lt b a = false)
  | [] => by simp [isort]
  | x :: r => by rw [isort]; exact ins_sorted o x _ (isort_sorted o r)
/-- two lists in strict order with the same members are one -/
theorem strict_eq {α : Type} {lt : α → α → Bool} (o : Ord lt) : ∀ (l r : List α), l.Pairwise (fun a b => lt a b = true) → r.Pairwise (fun a b => lt a b = true) → (∀ x, x ∈ l ↔ x ∈ r) → l = r
  | [], [], _, _, _ => rfl
  | [], y :: r, _, _, h => absurd ((h y).mpr (by simp)) (by simp)
  | x :: l, [], _, _, h => absurd ((h x).mp (by simp)) (by simp)
  | x :: l, y :: r, hl, hr, h => by
    have hl' := List.pairwise_cons.mp hl
    have hr' := List.pairwise_cons.mp hr
    have e : x = y := by
      rcases List.mem_cons.mp ((h x).mp (by simp)) with e | hx
      · exact e
      · rcases List.mem_cons.mp ((h y).mpr (by simp)) with e | hy
        · exact e.symm
        · have a := hl'.1 y hy
          have b := hr'.1 x hx
          rw [o.asym a] at b; cases b
    subst e
    rw [strict_eq o l r hl'.2 hr'.2 fun z => ?_]
    constructor
    · intro hz
      rcases List.mem_cons.mp ((h z).mp (by simp [hz])) with rfl | h'
      · have := hl'.1 z hz; rw [o.irr] at this; cases this
      · exact h'
    · intro hz
      rcases List.mem_cons.mp ((h z).mpr (by simp [hz])) with rfl | h'
      · have := hr'.1 z hz; rw [o.irr] at this; cases this
      · exact h'
/-- sorted, no two alike: in strict order -/
theorem strict_of {α : Type} {lt : α → α → Bool} (o : Ord lt) : ∀ {l : List α}, l.Pairwise (fun a b => lt b a = false) → l.Nodup → l.Pairwise (fun a b => lt a b = true)
  | [], _, _ => .nil
  | x :: l, h, n => by
    have h' := List.pairwise_cons.mp h
    have n' := List.nodup_cons.mp n
    refine List.pairwise_cons.mpr ⟨fun y hy => ?_, strict_of o h'.2 n'.2⟩
    cases e : lt x y with
    | true => rfl
    | false => exact absurd (o.tot _ _ e (h'.1 y hy) ▸ hy) n'.1
theorem isort_strict {α : Type} {lt : α → α → Bool} (o : Ord lt) {l : List α} (n : l.Nodup) : (isort lt l).Pairwise (fun a b => lt a b = true) :=
  strict_of o (isort_sorted o l) ((isortB_perm lt l).nodup_iff.mpr n)
theorem ins_map {α β : Type} {lt : α → α → Bool} {lt' : β → β → Bool} {f : α → β} (h : ∀ a b, lt' (f a) (f b) = lt a b) (x : α) : ∀ l, ins lt' (f x) (l.map f) = (ins lt x l).map f
  | [] => rfl
  | y :: r => by
    rw [List.map_cons, ins, ins, h]; split
    · rw [ins_map h x r]; rfl
    · rfl
theorem isort_map {α β : Type} {lt : α → α → Bool} {lt' : β → β → Bool} {f : α → β} (h : ∀ a b, lt' (f a) (f b) = lt a b) : ∀ l, isort lt' (l.map f) = (isort lt l).map f
  | [] => rfl
  | x :: r => by rw [List.map_cons, isort, isort, isort_map h r, ins_map h]

theorem lexLt_irr : ∀ a, lexLt a a = false
  | [] => rfl
  | x :: xs => by rw [lexLt, if_pos rfl]; exact lexLt_irr xs
theorem lexLt_tr : ∀ a b c, lexLt a b = true → lexLt b c = true → lexLt a c = true
  | [], [], _, h, _ => by simp [lexLt] at h
  | [], _ :: _, [], _, h => by simp [lexLt] at h
  | [], _ :: _, _ :: _, _, _ => rfl
  | _ :: _, [], _, h, _ => by simp [lexLt] at h
  | _ :: _, _ :: _, [], _, h => by simp [lexLt] at h
  | x :: xs, y :: ys, z :: zs, h, k => by
    rw [lexLt] at h k ⊢
    split at h
    · rename_i e; subst e
      split at k
      · rename_i e; subst e; rw [if_pos rfl]; exact lexLt_tr xs ys zs h k
      · rename_i n; rw [if_neg n]; exact k
    · rename_i n
      have h := of_decide_eq_true h
      split at k
      · rename_i e; subst e; rw [if_neg n]; exact decide_eq_true h
      · rename_i n2
        have k := of_decide_eq_true k
        rw [if_neg (by omega)]; exact decide_eq_true (by omega)
theorem lexLt_tot : ∀ a b, lexLt a b = false → lexLt b a = false → a = b
  | [], [], _, _ => rfl
  | [], _ :: _, h, _ => by simp [lexLt] at h
  | _ :: _, [], _, h => by simp [lexLt] at h
  | x :: xs, y :: ys, h, k => by
    rw [lexLt] at h k
    split at h
    · rename_i e; subst e
      rw [if_pos rfl] at k
      rw [lexLt_tot xs ys h k]
    · rename_i n
      rw [if_neg (fun e => n e.symm)] at k
      have h := of_decide_eq_false h
      have k := of_decide_eq_false k
      exact absurd (by omega) n
theorem lexOrd : Ord lexLt := ⟨lexLt_irr, lexLt_tr, lexLt_tot⟩
theorem intOrd : Ord (fun a b : Int => decide (a < b)) := ⟨fun a => by simp, fun a b c h k => by simp at *; omega, fun a b h k => by simp at *; omega⟩

/-! ### data of ints -/
theorem ints_map : ∀ l : List Int, D.ints (l.map D.int) = some l
  | [] => rfl
  | i :: r => by rw [List.map_cons, D.ints, ints_map r]; rfl
theorem rows_map : ∀ l : List (List Int), D.rows (l.map D.row) = some l
  | [] => rfl
  | i :: r => by
    show D.rows (D.tup (i.map D.int) :: r.map D.row) = _
    rw [D.rows, ints_map, rows_map r]
theorem sortD_ints (l : List Int) : sortD (l.map D.int) = some (.lst ((isort (fun a b => decide (a < b)) l).map D.int)) := by
  rw [sortD, ints_map]
theorem sortD_rows {l : List (List Int)} {n : Nat} (hl : l.length < 64) (hn : 1 ≤ n) (h : ∀ r ∈ l, r.length = n ∧ ∀ i ∈ r, 0 ≤ i) : sortD (l.map D.row) = some (.lst ((isort lexLt l).map D.row)) := by
  cases l with
  | nil => rfl
  | cons r0 l =>
    have e : D.ints ((r0 :: l).map D.row) = none := by rw [List.map_cons, D.row, D.ints]; intro i h; cases h
    rw [sortD, e]
    simp only
    rw [rows_map]
    simp only
    rw [if_pos]
    refine ⟨hl, ?_⟩
    rw [List.all_eq_true]
    intro r hr
    obtain ⟨a, b⟩ := h r hr
    obtain ⟨a0, _⟩ := h r0 (by simp)
    rw [Bool.and_eq_true]
    exact ⟨decide_eq_true ⟨by rw [a]; exact a0.symm, by omega⟩, List.all_eq_true.mpr fun i hi => decide_eq_true (b i hi)⟩
end Ev
end
section
set_option linter.all false
/-! EvMg: triples (first, second, many): totals by pair, the settled form, and that it is one. Pure. -/
namespace Ev
abbrev T3 := Int × Int × Int
abbrev P2 := Int × Int
def T3.p (t : T3) : P2 := (t.1, t.2.1)
def T3.m (t : T3) : Int := t.2.2
def tot (p : P2) : List T3 → Int
  | [] => 0
  | t :: r => (if t.p = p then t.m else 0) + tot p r
def sumM : List T3 → Int
  | [] => 0
  | t :: r => t.m + sumM r
theorem tot_append (p : P2) : ∀ l r, tot p (l ++ r) = tot p l + tot p r
  | [], r => by simp [tot]
  | t :: l, r => by rw [List.cons_append, tot, tot, tot_append p l r]; omega
theorem sumM_append : ∀ l r, sumM (l ++ r) = sumM l + sumM r
  | [], r => by simp [sumM]
  | t :: l, r => by rw [List.cons_append, sumM, sumM, sumM_append l r]; omega
theorem tot_none {p : P2} : ∀ {l : List T3}, (∀ t ∈ l, t.p ≠ p) → tot p l = 0
  | [], _ => rfl
  | t :: l, h => by rw [tot, if_neg (h t (by simp)), tot_none fun u hu => h u (by simp [hu])]; rfl
theorem tot_perm (p : P2) {l r : List T3} (h : l.Perm r) : tot p l = tot p r := by
  induction h with
  | nil => rfl
  | cons x _ ih => rw [tot, tot, ih]
  | swap x y l => rw [tot, tot, tot, tot]; omega
  | trans _ _ a b => exact a.trans b
theorem tot_nonneg {p : P2} : ∀ {l : List T3}, (∀ t ∈ l, 0 ≤ t.m) → 0 ≤ tot p l
  | [], _ => by simp [tot]
  | t :: l, h => by
    have := h t (by simp)
    have := tot_nonneg (p := p) (l := l) fun u hu => h u (by simp [hu])
    rw [tot]; split <;> omega
def neg3 (t : T3) : T3 := (t.1, t.2.1, -t.2.2)
theorem tot_neg (p : P2) : ∀ l : List T3, tot p (l.map neg3) = -tot p l
  | [] => rfl
  | t :: l => by
    rw [List.map_cons, tot, tot, tot_neg p l]
    show (if t.p = p then -t.m else 0) + _ = _
    split <;> omega

/-! the pairs in their first sequence -/
def keys : List T3 → List P2 → List P2
  | [], ks => ks
  | t :: r, ks => keys r (if t.p ∈ ks then ks else ks ++ [t.p])
theorem keys_append : ∀ l r ks, keys (l ++ r) ks = keys r (keys l ks)
  | [], _, _ => rfl
  | t :: l, r, ks => by rw [List.cons_append, keys, keys, keys_append l r]
theorem keys_nodup : ∀ l ks, ks.Nodup → (keys l ks).Nodup
  | [], _, h => h
  | t :: r, ks, h => by
    rw [keys]
    refine keys_nodup r _ ?_
    split
    · exact h
    · rename_i c
      refine List.nodup_append.mpr ⟨h, by simp, fun a ha b hb e => ?_⟩
      have : b = t.p := by simpa using hb
      subst this; subst e; exact c ha
theorem keys_mem : ∀ l ks p, p ∈ keys l ks ↔ p ∈ ks ∨ ∃ t ∈ l, t.p = p
  | [], ks, p => by simp [keys]
  | t :: r, ks, p => by
    rw [keys, keys_mem r]
    split
    · rename_i c
      constructor
      · rintro (h | ⟨u, hu, e⟩)
        · exact .inl h
        · exact .inr ⟨u, by simp [hu], e⟩
      · rintro (h | ⟨u, hu, e⟩)
        · exact .inl h
        · rcases List.mem_cons.mp hu with rfl | hu
          · exact .inl (e ▸ c)
          · exact .inr ⟨u, hu, e⟩
    · constructor
      · rintro (h | ⟨u, hu, e⟩)
        · rcases List.mem_append.mp h with h | h
          · exact .inl h
          · have hh : p = t.p := by simpa using h
            exact .inr ⟨t, by simp, hh.symm⟩
        · exact .inr ⟨u, by simp [hu], e⟩
      · rintro (h | ⟨u, hu, e⟩)
        · exact .inl (by simp [h])
        · rcases List.mem_cons.mp hu with rfl | hu
          · exact .inl (by simp [e])
          · exact .inr ⟨u, hu, e⟩
theorem keys_length : ∀ l ks, (keys l ks).length ≤ ks.length + l.length
  | [], ks => by simp [keys]
  | t :: r, ks => by
    rw [keys]
    have := keys_length r (if t.p ∈ ks then ks else ks ++ [t.p])
    have h2 : (if t.p ∈ ks then ks else ks ++ [t.p]).length ≤ ks.length + 1 := by split <;> simp
    simp only [List.length_cons]; omega
/-- a set that holds all pairs bounds their number -/
theorem nodup_sub {α : Type} [DecidableEq α] : ∀ {l r : List α}, l.Nodup → (∀ x ∈ l, x ∈ r) → l.length ≤ r.length
  | [], _, _, _ => by simp
  | x :: l, r, n, h => by
    have n' := List.nodup_cons.mp n
    have hx := h x (by simp)
    have := nodup_sub (l := l) (r := r.erase x) n'.2 fun y hy => by
      have : y ≠ x := fun e => n'.1 (e ▸ hy)
      exact (List.mem_erase_of_ne this).mpr (h y (by simp [hy]))
    rw [List.length_erase_of_mem hx] at this
    have : 0 < r.length := List.length_pos_of_mem hx
    simp only [List.length_cons]; omega

/-! sums over the pairs -/
def sumP (f : P2 → Int) : List P2 → Int
  | [] => 0
  | p :: r => f p + sumP f r
theorem sumP_add (f g : P2 → Int) : ∀ l, sumP (fun p => f p + g p) l = sumP f l + sumP g l
  | [] => rfl
  | p :: l => by rw [sumP, sumP, sumP, sumP_add f g l]; omega
theorem sumP_zero : ∀ l : List P2, sumP (fun _ => 0) l = 0
  | [] => rfl
  | p :: l => by rw [sumP, sumP_zero l]; rfl
theorem sumP_one (q : P2) (m : Int) : ∀ l : List P2, l.Nodup → sumP (fun p => if q = p then m else 0) l = if q ∈ l then m else 0
  | [], _ => by simp [sumP]
  | p :: l, n => by
    have n' := List.nodup_cons.mp n
    rw [sumP, sumP_one q m l n'.2]
    by_cases e : q = p
    · subst e; simp [n'.1]
    · simp [e]
theorem sumP_tot {ks : List P2} (n : ks.Nodup) : ∀ l : List T3, (∀ t ∈ l, t.p ∈ ks) → sumP (fun p => tot p l) ks = sumM l
  | [], _ => sumP_zero ks
  | t :: l, h => by
    have : sumP (fun p => tot p (t :: l)) ks = sumP (fun p => (if t.p = p then t.m else 0) + tot p l) ks := rfl
    rw [this, sumP_add, sumP_one _ _ _ n, if_pos (h t (by simp)), sumP_tot n l fun u hu => h u (by simp [hu])]; rfl
theorem sumM_eq {l r : List T3} (h : ∀ p, tot p l = tot p r) : sumM l = sumM r := by
  have n : (keys (l ++ r) []).Nodup := keys_nodup _ _ .nil
  rw [← sumP_tot n l (fun t ht => (keys_mem _ _ _).mpr (.inr ⟨t, by simp [ht], rfl⟩)), ← sumP_tot n r (fun t ht => (keys_mem _ _ _).mpr (.inr ⟨t, by simp [ht], rfl⟩))]
  congr 1; funext p; exact h p

/-! the settled form -/
def ltP (p q : P2) : Bool := lexLt [p.1, p.2] [q.1, q.2]
theorem ltPOrd : Ord ltP := ⟨fun _ => lexLt_irr _, fun _ _ _ => lexLt_tr _ _ _, fun a b h k => by
  have := lexLt_tot _ _ h k
  simp at this
  exact Prod.ext this.1 this.2⟩
def row3 (t : T3) : List Int := [t.1, t.2.1, t.2.2]
def lt3 (t u : T3) : Bool := lexLt (row3 t) (row3 u)
theorem lt3Ord : Ord lt3 := ⟨fun _ => lexLt_irr _, fun _ _ _ => lexLt_tr _ _ _, fun a b h k => by
  have := lexLt_tot _ _ h k
  simp [row3] at this
  exact Prod.ext this.1 (Prod.ext this.2.1 this.2.2)⟩
theorem lexLt_more : ∀ {a b : List Int} (m n : List Int), a.length = b.length → lexLt a b = true → lexLt (a ++ m) (b ++ n) = true
  | [], [], _, _, _, h => by simp [lexLt] at h
  | x :: xs, y :: ys, m, n, e, h => by
    rw [lexLt] at h
    rw [List.cons_append, List.cons_append, lexLt]
    split
    · rename_i c; rw [if_pos c] at h; exact lexLt_more m n (by simpa using e) h
    · rename_i c; rw [if_neg c] at h; exact h
theorem lt3_of_ltP {t u : T3} (h : ltP t.p u.p = true) : lt3 t u = true :=
  lexLt_more (a := [t.1, t.2.1]) (b := [u.1, u.2.1]) [t.2.2] [u.2.2] rfl h
structure Canon (r : List T3) : Prop where
  srt : r.Pairwise (fun t u => ltP t.p u.p = true)
  nz : ∀ t ∈ r, t.m ≠ 0
theorem Canon.tail {t : T3} {r : List T3} (h : Canon (t :: r)) : Canon r := ⟨(List.pairwise_cons.mp h.srt).2, fun u hu => h.nz u (by simp [hu])⟩
theorem Canon.tot_mem : ∀ {r : List T3} {t : T3}, Canon r → t ∈ r → tot t.p r = t.m
  | u :: r, t, h, ht => by
    have s := List.pairwise_cons.mp h.srt
    rcases List.mem_cons.mp ht with rfl | ht
    · rw [tot, if_pos rfl, tot_none]
      · omega
      · intro v hv e
        have := s.1 v hv
        rw [e, ltPOrd.irr] at this; cases this
    · have a := s.1 t ht
      rw [tot, if_neg, Canon.tot_mem h.tail ht]
      · omega
      · intro e; rw [e, ltPOrd.irr] at a; cases a
theorem tot_ne {p : P2} {r : List T3} (h : tot p r ≠ 0) : ∃ t ∈ r, t.p = p := by
  apply Classical.byContradiction
  intro c
  exact h (tot_none fun t ht e => c ⟨t, ht, e⟩)
theorem Canon.mem_iff {r : List T3} (h : Canon r) (t : T3) : t ∈ r ↔ t.m ≠ 0 ∧ tot t.p r = t.m := by
  constructor
  · intro ht; exact ⟨h.nz t ht, h.tot_mem ht⟩
  · rintro ⟨a, b⟩
    obtain ⟨u, hu, e⟩ := tot_ne (p := t.p) (r := r) (by rw [b]; exact a)
    have := h.tot_mem hu
    rw [e, b] at this
    have e2 : u = t := by
      obtain ⟨x, y, z⟩ := u; obtain ⟨x', y', z'⟩ := t
      simp only [T3.p, T3.m, Prod.mk.injEq] at e this
      rw [e.1, e.2, this]
    exact e2 ▸ hu
/-- two settled forms with the same totals are one -/
theorem Canon.ext {l r : List T3} (hl : Canon l) (hr : Canon r) (h : ∀ p, tot p l = tot p r) : l = r := by
  refine strict_eq lt3Ord l r (hl.srt.imp lt3_of_ltP) (hr.srt.imp lt3_of_ltP) fun t => ?_
  rw [hl.mem_iff, hr.mem_iff, h]

/-- from the pairs in strict order -/
def fromK (f : P2 → Int) (ks : List P2) : List T3 := ks.filterMap fun p => if f p ≠ 0 then some (p.1, p.2, f p) else none
theorem fromK_mem {f : P2 → Int} {ks : List P2} {t : T3} : t ∈ fromK f ks ↔ t.p ∈ ks ∧ t.m = f t.p ∧ t.m ≠ 0 := by
  unfold fromK
  rw [List.mem_filterMap]
  constructor
  · rintro ⟨p, hp, e⟩
    split at e
    · rename_i c
      cases e
      exact ⟨hp, rfl, c⟩
    · cases e
  · rintro ⟨a, b, c⟩
    refine ⟨t.p, a, ?_⟩
    rw [if_pos (b ▸ c)]
    obtain ⟨x, y, z⟩ := t
    simp only [T3.p, T3.m] at b ⊢
    rw [← b]
theorem fromK_canon {f : P2 → Int} {ks : List P2} (h : ks.Pairwise (fun p q => ltP p q = true)) : Canon (fromK f ks) := by
  refine ⟨?_, fun t ht => (fromK_mem.mp ht).2.2⟩
  unfold fromK
  refine List.Pairwise.filterMap _ ?_ h
  intro p q hpq t ht u hu
  split at ht
  · split at hu
    · cases ht; cases hu; exact hpq
    · cases hu
  · cases ht
theorem fromK_tot {f : P2 → Int} {ks : List P2} (h : ks.Pairwise (fun p q => ltP p q = true)) (p : P2) (hp : p ∉ ks → f p = 0) : tot p (fromK f ks) = f p := by
  by_cases z : f p = 0
  · rw [z]
    refine tot_none fun t ht e => ?_
    obtain ⟨a, b, c⟩ := fromK_mem.mp ht
    rw [b, e] at c; exact c z
  · have hp' : p ∈ ks := Classical.byContradiction fun c => z (hp c)
    have := (fromK_canon (f := f) h).tot_mem (t := (p.1, p.2, f p)) (fromK_mem.mpr ⟨hp', rfl, z⟩)
    exact this
def mrg (l : List T3) : List T3 := fromK (fun p => tot p l) (isort ltP (keys l []))
theorem mrg_strict (l : List T3) : (isort ltP (keys l [])).Pairwise (fun p q => ltP p q = true) := isort_strict ltPOrd (keys_nodup _ _ .nil)
theorem mrg_canon (l : List T3) : Canon (mrg l) := fromK_canon (mrg_strict l)
theorem mrg_tot (l : List T3) (p : P2) : tot p (mrg l) = tot p l :=
  fromK_tot (mrg_strict l) p fun h => tot_none fun t ht e => h (((isortB_perm ltP _).mem_iff).mpr ((keys_mem _ _ _).mpr (.inr ⟨t, ht, e⟩)))
theorem mrg_eq {l r : List T3} (h : ∀ p, tot p l = tot p r) : mrg l = mrg r := (mrg_canon l).ext (mrg_canon r) fun p => by rw [mrg_tot, mrg_tot, h]
theorem mrg_of {l r : List T3} (c : Canon r) (h : ∀ p, tot p l = tot p r) : mrg l = r := (mrg_canon l).ext c fun p => by rw [mrg_tot, h]
theorem mrg_pair {l : List T3} {t : T3} (h : t ∈ mrg l) : ∃ u ∈ l, u.p = t.p := by
  have := (fromK_mem.mp h).1
  rcases (keys_mem _ _ _).mp ((isortB_perm ltP _).mem_iff.mp this) with h | ⟨u, hu, e⟩
  · cases h
  · exact ⟨u, hu, e⟩
theorem filterMap_length {α β : Type} (f : α → Option β) : ∀ l : List α, (l.filterMap f).length ≤ l.length
  | [] => by simp
  | x :: l => by
    rw [List.filterMap_cons]
    have := filterMap_length f l
    split <;> simp <;> omega
theorem mrg_length {l : List T3} {ks : List P2} (h : ∀ t ∈ l, t.p ∈ ks) : (mrg l).length ≤ ks.length := by
  refine Nat.le_trans (filterMap_length _ _) ?_
  rw [(isortB_perm ltP _).length_eq]
  refine nodup_sub (keys_nodup _ _ .nil) fun p hp => ?_
  rcases (keys_mem _ _ _).mp hp with h' | ⟨t, ht, e⟩
  · cases h'
  · exact e ▸ h t ht
end Ev
end
section
set_option linter.all false
/-! EvSm: the equations of the small language, for simp. Pure. -/
namespace Ev
open PySem (Str)
/-- a mark by which simp leaves what stands ahead of it -/
structure Kt {A : Type} (a : A) : Type where
/-- first x, then f; f is left alone until x is known -/
def bd {S α β : Type} (x : R S α) (f : α → S → R S β) (_ : Kt f) : R S β := x.bind f
@[simp] theorem bd_ok {S α β : Type} (a : α) (s : S) (f : α → S → R S β) (k : Kt f) : bd (.ok a s) f k = f a s := (rfl)
@[simp] theorem bd_ex {S α β : Type} (e : Exc) (s : S) (f : α → S → R S β) (k : Kt f) : bd (.ex e s) f k = .ex e s := (rfl)
@[simp] theorem bd_bad {S α β : Type} (f : α → S → R S β) (k : Kt f) : bd .bad f k = .bad := (rfl)
section
variable {S : Type} [StOps S] (Γ : List (Fn S)) (ρ : Env) (s : S) (bo : Bool)
def lookS (bor : Bool) (o : Option Slot) : Option D := match o with
  | some (some (own, d)) => if own && !bor then none else some d
  | _ => none
@[simp] theorem lookS_f (b : Bool) (d : D) : lookS b (some (some (false, d))) = some d := (rfl)
@[simp] theorem lookS_t (o : Bool) (d : D) : lookS true (some (some (o, d))) = some d := by cases o <;> rfl
@[simp] theorem lookS_n (b : Bool) : lookS b (some none) = none := (rfl)
@[simp] theorem look_eq (b : Bool) (ρ : Env) (i : Nat) : look b ρ i = lookS b ρ[i]? := (rfl)
@[simp] theorem e_var (i : Nat) : evE Γ bo (.var i) ρ s = R.lift (lookS bo ρ[i]?) s := by rw [evE]; rfl
@[simp] theorem e_c (d : D) : evE Γ bo (.c d) ρ s = .ok d s := by rw [evE]
@[simp] theorem e_bop (o : Bop) (a b : IE) : evE Γ bo (.bop o a b) ρ s = bd (evE Γ true a ρ s) (fun x s1 => bd (evE Γ true b ρ s1) (fun y s2 => R.lift (bopD o x y) s2) .mk) .mk := by rw [evE]; rfl
@[simp] theorem e_neg (a : IE) : evE Γ bo (.neg a) ρ s = bd (evE Γ true a ρ s) (fun x s1 => asInt x fun i => .ok (.int (-i)) s1) .mk := by rw [evE]; rfl
@[simp] theorem e_not (a : IE) : evE Γ bo (.not a) ρ s = bd (evE Γ true a ρ s) (fun x s1 => R.lift ((truD x).map fun b => D.bl !b) s1) .mk := by rw [evE]; rfl
/-- which way a test goes -/
def sw {S α : Type} (o : Option Bool) (a b : R S α) (_ : Kt a) (_ : Kt b) : R S α := match o with
  | some true => a
  | some false => b
  | none => .bad
@[simp] theorem sw_t {S α : Type} (a b : R S α) (k : Kt a) (l : Kt b) : sw (some true) a b k l = a := (rfl)
@[simp] theorem sw_f {S α : Type} (a b : R S α) (k : Kt a) (l : Kt b) : sw (some false) a b k l = b := (rfl)
@[simp] theorem sw_n {S α : Type} (a b : R S α) (k : Kt a) (l : Kt b) : sw none a b k l = .bad := (rfl)
@[simp] theorem e_and (a b : IE) : evE Γ bo (.and a b) ρ s = bd (evE Γ false a ρ s) (fun x s1 => sw (truD x) (evE Γ false b ρ s1) (.ok x s1) .mk .mk) .mk := by rw [evE]; rfl
@[simp] theorem e_or (a b : IE) : evE Γ bo (.or a b) ρ s = bd (evE Γ false a ρ s) (fun x s1 => sw (truD x) (.ok x s1) (evE Γ false b ρ s1) .mk .mk) .mk := by
  rw [evE]; congr 1; funext x s1; cases truD x with
  | none => rfl
  | some c => cases c <;> rfl
@[simp] theorem e_ite (t a b : IE) : evE Γ bo (.ite t a b) ρ s = bd (evE Γ true t ρ s) (fun x s1 => sw (truD x) (evE Γ false a ρ s1) (evE Γ false b ρ s1) .mk .mk) .mk := by rw [evE]; rfl
@[simp] theorem e_cmp (o : Cop) (a b : IE) : evE Γ bo (.cmp o a b) ρ s = bd (evE Γ true a ρ s) (fun x s1 => bd (evE Γ true b ρ s1) (fun y s2 => R.lift ((cmpD o x y).map D.bl) s2) .mk) .mk := by rw [evE]; rfl
@[simp] theorem e_isN (a : IE) : evE Γ bo (.isN a) ρ s = bd (evE Γ true a ρ s) (fun x s1 => .ok (.bl (isNon x)) s1) .mk := by rw [evE]; rfl
@[simp] theorem e_notN (a : IE) : evE Γ bo (.notN a) ρ s = bd (evE Γ true a ρ s) (fun x s1 => .ok (.bl (!isNon x)) s1) .mk := by rw [evE]; rfl
@[simp] theorem e_tup (es : IEs) : evE Γ bo (.tup es) ρ s = bd (evs Γ false es ρ s) (fun l s1 => if l.length ≤ L then .ok (.tup l) s1 else .bad) .mk := by rw [evE]; rfl
@[simp] theorem e_lst (es : IEs) : evE Γ bo (.lst es) ρ s = bd (evs Γ false es ρ s) (fun l s1 => if l.length ≤ L then .ok (.lst l) s1 else .bad) .mk := by rw [evE]; rfl
/-- one turn of a comprehension, then the others -/
def tk {S : Type} (x : R S (Option D)) (acc : List D) (k : List D → S → R S (List D)) (_ : Kt k) : R S (List D) := match x with
  | .ok none s1 => k acc s1
  | .ok (some y) s1 => if acc.length < L then k (acc ++ [y]) s1 else .bad
  | _ => .bad
@[simp] theorem tk_n {S : Type} (s : S) (acc : List D) (k : List D → S → R S (List D)) (l : Kt k) : tk (.ok none s) acc k l = k acc s := (rfl)
@[simp] theorem tk_s {S : Type} (s : S) (y : D) (acc : List D) (k : List D → S → R S (List D)) (l : Kt k) : tk (.ok (some y) s) acc k l = if acc.length < L then k (acc ++ [y]) s else .bad := (rfl)
@[simp] theorem turns_n {S : Type} (f : D → S → R S (Option D)) (acc : List D) (s : S) : turns f [] acc s = .ok acc s := (rfl)
@[simp] theorem turns_c {S : Type} (f : D → S → R S (Option D)) (d : D) (r : List D) (acc : List D) (s : S) : turns f (d :: r) acc s = tk (f d s) acc (fun a s1 => turns f r a s1) .mk := by
  rw [turns]; unfold tk; rfl
def ap {S : Type} (o : Option (Fn S)) (l : List D) (s : S) : R S D := match o with
  | some m => m l s
  | none => .bad
@[simp] theorem ap_some {S : Type} (m : Fn S) (l : List D) (s : S) : ap (some m) l s = m l s := (rfl)
/-- an own list handed over as it stands -/
def ownS (o : Option Slot) : Bool := match o with
  | some (some (own, _)) => own
  | _ => false
@[simp] theorem ownS_s (b : Bool) (d : D) : ownS (some (some (b, d))) = b := (rfl)
@[simp] theorem ownS_n : ownS (some none) = false := (rfl)
@[simp] theorem unC_var (i : Nat) (x : D) : unC (.var i) x = x := (rfl)
@[simp] theorem unC_c (d : D) (x : D) : unC (.c d) x = x := (rfl)
@[simp] theorem unC_bop (o : Bop) (a b : IE) (x : D) : unC (.bop o a b) x = x := (rfl)
@[simp] theorem unC_neg (a : IE) (x : D) : unC (.neg a) x = x := (rfl)
@[simp] theorem unC_not (a : IE) (x : D) : unC (.not a) x = x := (rfl)
@[simp] theorem unC_and (a b : IE) (x : D) : unC (.and a b) x = x := (rfl)
@[simp] theorem unC_or (a b : IE) (x : D) : unC (.or a b) x = x := (rfl)
@[simp] theorem unC_ite (t a b : IE) (x : D) : unC (.ite t a b) x = x := (rfl)
@[simp] theorem unC_cmp (o : Cop) (a b : IE) (x : D) : unC (.cmp o a b) x = x := (rfl)
@[simp] theorem unC_isN (a : IE) (x : D) : unC (.isN a) x = x := (rfl)
@[simp] theorem unC_notN (a : IE) (x : D) : unC (.notN a) x = x := (rfl)
@[simp] theorem unC_tup (es : IEs) (x : D) : unC (.tup es) x = x := (rfl)
@[simp] theorem unC_lst (es : IEs) (x : D) : unC (.lst es) x = x := (rfl)
@[simp] theorem unC_call (f : Nat) (es : IEs) (x : D) : unC (.call f es) x = unw x := (rfl)
@[simp] theorem unC_callp (f : Nat) (es ks : IEs) (p : List Nat) (x : D) : unC (.callp f es ks p) x = unw x := (rfl)
@[simp] theorem unC_blt (b : Blt) (es : IEs) (x : D) : unC (.blt b es) x = x := (rfl)
@[simp] theorem unC_isi (a : IE) (t : Ty) (x : D) : unC (.isi a t) x = x := (rfl)
@[simp] theorem unC_sub (a i : IE) (x : D) : unC (.sub a i) x = x := (rfl)
@[simp] theorem unC_slc (a : IE) (l h : IEo) (x : D) : unC (.slc a l h) x = x := (rfl)
@[simp] theorem unC_rev (a : IE) (x : D) : unC (.rev a) x = x := (rfl)
@[simp] theorem unC_lc (e : IE) (t : Tg) (o : List Nat) (r : ISrc) (i : IEs) (x : D) : unC (.lc e t o r i) x = x := (rfl)
@[simp] theorem unC_dget (a b c : IE) (x : D) : unC (.dget a b c) x = x := (rfl)
@[simp] theorem unC_dnew (b : Bool) (x : D) : unC (.dnew b) x = x := (rfl)
@[simp] theorem unw_t (l : List D) : unw (.tup l) = .tup l := (rfl)
@[simp] theorem unw_l (l : List D) : unw (.lst l) = .lst l := (rfl)
@[simp] theorem unw_i (i : Int) : unw (.int i) = .int i := (rfl)
@[simp] theorem unw_b (i : Bool) : unw (.bl i) = .bl i := (rfl)
@[simp] theorem unw_s (i : Str) : unw (.str i) = .str i := (rfl)
@[simp] theorem unw_n : unw .non = .non := (rfl)
@[simp] theorem unw_d (b : Bool) (k : List Ky) (l : List D) : unw (.dct b k l) = .dct b k l := (rfl)
@[simp] theorem unw_w (d : D) : unw (.ins 0 [d]) = d := (rfl)
@[simp] theorem unw_st (n : Nat) : unw (.st n) = .st n := (rfl)
@[simp] theorem isOwn_var (i : Nat) : isOwn ρ (.var i) = ownS ρ[i]? := (rfl)
@[simp] theorem isOwn_c (d : D) : isOwn ρ (.c d) = false := (rfl)
@[simp] theorem isOwn_bop (o : Bop) (a b : IE) : isOwn ρ (.bop o a b) = false := (rfl)
@[simp] theorem isOwn_neg (a : IE) : isOwn ρ (.neg a) = false := (rfl)
@[simp] theorem isOwn_not (a : IE) : isOwn ρ (.not a) = false := (rfl)
@[simp] theorem isOwn_and (a b : IE) : isOwn ρ (.and a b) = false := (rfl)
@[simp] theorem isOwn_or (a b : IE) : isOwn ρ (.or a b) = false := (rfl)
@[simp] theorem isOwn_ite (t a b : IE) : isOwn ρ (.ite t a b) = false := (rfl)
@[simp] theorem isOwn_cmp (o : Cop) (a b : IE) : isOwn ρ (.cmp o a b) = false := (rfl)
@[simp] theorem isOwn_isN (a : IE) : isOwn ρ (.isN a) = false := (rfl)
@[simp] theorem isOwn_notN (a : IE) : isOwn ρ (.notN a) = false := (rfl)
@[simp] theorem isOwn_tup (es : IEs) : isOwn ρ (.tup es) = false := (rfl)
@[simp] theorem isOwn_lst (es : IEs) : isOwn ρ (.lst es) = false := (rfl)
@[simp] theorem isOwn_call (f : Nat) (es : IEs) : isOwn ρ (.call f es) = false := (rfl)
@[simp] theorem isOwn_callp (f : Nat) (es ks : IEs) (p : List Nat) : isOwn ρ (.callp f es ks p) = false := (rfl)
@[simp] theorem isOwn_blt (b : Blt) (es : IEs) : isOwn ρ (.blt b es) = false := (rfl)
@[simp] theorem isOwn_isi (a : IE) (t : Ty) : isOwn ρ (.isi a t) = false := (rfl)
@[simp] theorem isOwn_sub (a i : IE) : isOwn ρ (.sub a i) = false := (rfl)
@[simp] theorem isOwn_slc (a : IE) (l h : IEo) : isOwn ρ (.slc a l h) = false := (rfl)
@[simp] theorem isOwn_rev (a : IE) : isOwn ρ (.rev a) = false := (rfl)
@[simp] theorem isOwn_lc (e : IE) (t : Tg) (o : List Nat) (r : ISrc) (i : IEs) : isOwn ρ (.lc e t o r i) = false := (rfl)
@[simp] theorem isOwn_dget (a b c : IE) : isOwn ρ (.dget a b c) = false := (rfl)
@[simp] theorem own_nil : IEs.own ρ .nil = false := (rfl)
@[simp] theorem own_cons (e : IE) (r : IEs) : IEs.own ρ (.cons e r) = (isOwn ρ e || r.own ρ) := (rfl)
/-- a call's answer: it holds no list where an own one was handed over -/
def ckR {S : Type} (own : Bool) (r : R S D) : R S D := r.bind fun d s => if own && !d.back then .bad else .ok d s
@[simp] theorem ckR_f {S : Type} (r : R S D) : ckR false r = r := by cases r <;> rfl
@[simp] theorem ckR_t {S : Type} (d : D) (s : S) : ckR true (.ok d s) = if d.back = true then .ok d s else .bad := by
  show (if true && !d.back then _ else _) = _
  cases d.back <;> rfl
@[simp] theorem ckR_e {S : Type} (b : Bool) (e : Exc) (s : S) : ckR b (.ex e s) = .ex e s := (rfl)
@[simp] theorem e_call (f : Nat) (es : IEs) : evE Γ bo (.call f es) ρ s = bd (evs Γ true es ρ s) (fun l s1 => ckR (es.own ρ) (ap Γ[f]? l s1)) .mk := by
  rw [evE]; show R.bind _ _ = R.bind _ _
  congr 1; funext l s1; cases Γ[f]? <;> rfl
@[simp] theorem e_blt (b : Blt) (es : IEs) : evE Γ bo (.blt b es) ρ s = bd (evs Γ true es ρ s) (fun l s1 => R.lift (bltS s1 b l) s1) .mk := by rw [evE]; rfl
@[simp] theorem e_isi (a : IE) (t : Ty) : evE Γ bo (.isi a t) ρ s = bd (evE Γ true a ρ s) (fun x s1 => R.lift ((isiD x t).map D.bl) s1) .mk := by rw [evE]; rfl
@[simp] theorem e_sub (a i : IE) : evE Γ bo (.sub a i) ρ s = bd (evE Γ true a ρ s) (fun x s1 => bd (evE Γ true i ρ s1) (fun y s2 => R.lift (subS s2 x y) s2) .mk) .mk := by rw [evE]; rfl
@[simp] theorem e_slc (a : IE) (lo hi : IEo) : evE Γ bo (.slc a lo hi) ρ s = bd (evE Γ true a ρ s) (fun x s1 => bd (evO Γ lo ρ s1) (fun l s2 => bd (evO Γ hi ρ s2) (fun h s3 => R.lift (slcD x l h) s3) .mk) .mk) .mk := by rw [evE]; rfl
@[simp] theorem e_rev (a : IE) : evE Γ bo (.rev a) ρ s = bd (evE Γ true a ρ s) (fun x s1 => R.lift (revD x) s1) .mk := by rw [evE]; rfl
/-- a comprehension's turn -/
def lcF {S : Type} [StOps S] (Γ : List (Fn S)) (elt : IE) (tg : Tg) (own : List Nat) (ifs : IEs) (ρ : Env) (d : D) (s2 : S) : R S (Option D) := match bindTg tg d (wipeE ρ own) with
        | none => .bad
        | some ρ1 => bd (evT Γ ifs ρ1 s2) (fun b s3 => if b then bd (evE Γ false elt ρ1 s3) (fun y s4 => .ok (some (unC elt y)) s4) .mk else .ok none s3) .mk
@[simp] theorem e_lc (elt : IE) (tg : Tg) (own : List Nat) (src : ISrc) (ifs : IEs) : evE Γ bo (.lc elt tg own src ifs) ρ s = bd (evSrc Γ src ρ s) (fun items s1 => bd (turns (lcF Γ elt tg own ifs ρ) items [] s1) (fun l s2 => .ok (.lst l) s2) .mk) .mk := by rw [evE]; rfl
@[simp] theorem e_callp (f : Nat) (es ks : IEs) (perm : List Nat) : evE Γ bo (.callp f es ks perm) ρ s = bd (evs Γ true es ρ s) (fun l1 s1 => bd (evs Γ true ks ρ s1) (fun l2 s2 => ckR (es.own ρ || ks.own ρ) (ap Γ[f]? (permL perm (l1 ++ l2)) s2)) .mk) .mk := by
  rw [evE]; show R.bind _ _ = R.bind _ _
  congr 1; funext l1 s1; show R.bind _ _ = R.bind _ _
  congr 1; funext l2 s2; cases Γ[f]? <;> rfl
@[simp] theorem e_dnew (tk : Bool) : evE Γ bo (.dnew tk) ρ s = .ok (.dct tk [] []) s := by rw [evE]
def asDct {S α : Type} (d : D) (f : Bool → List Ky → List D → R S α) : R S α := match d with
  | .dct tk ks vs => f tk ks vs
  | _ => .bad
@[simp] theorem asDct_d {S α : Type} (tk : Bool) (ks : List Ky) (vs : List D) (f : Bool → List Ky → List D → R S α) : asDct (.dct tk ks vs) f = f tk ks vs := (rfl)
@[simp] theorem e_dget (a k x : IE) : evE Γ bo (.dget a k x) ρ s = bd (evE Γ true a ρ s) (fun d s1 => asDct d fun tk ks vs => bd (evE Γ true k ρ s1) (fun y s2 => bd (evE Γ false x ρ s2) (fun z s3 => R.lift ((kyOf tk y).map fun q => (dlook ks vs q).getD z) s3) .mk) .mk) .mk := by rw [evE]; rfl
@[simp] theorem q_es_nil : evs Γ bo .nil ρ s = .ok [] s := by rw [evs]
@[simp] theorem q_es_cons (e : IE) (r : IEs) : evs Γ bo (.cons e r) ρ s = bd (evE Γ bo e ρ s) (fun x s1 => bd (evs Γ bo r ρ s1) (fun l s2 => .ok (unC e x :: l) s2) .mk) .mk := by rw [evs]; rfl
def asSeq {S α : Type} (d : D) (f : List D → R S α) : R S α := match seqD d with
  | some xs => f xs
  | none => .bad
@[simp] theorem asSeq_l {S α : Type} (l : List D) (f : List D → R S α) : asSeq (.lst l) f = f l := (rfl)
@[simp] theorem asSeq_t {S α : Type} (l : List D) (f : List D → R S α) : asSeq (.tup l) f = f l := (rfl)
@[simp] theorem q_es_star (e : IE) (r : IEs) : evs Γ bo (.star e r) ρ s = bd (evE Γ true e ρ s) (fun x s1 => asSeq x fun xs => bd (evs Γ bo r ρ s1) (fun l s2 => .ok (xs ++ l) s2) .mk) .mk := by rw [evs]; rfl
@[simp] theorem q_eo_none : evO Γ .none ρ s = .ok none s := by rw [evO]
@[simp] theorem q_eo_some (e : IE) : evO Γ (.some e) ρ s = bd (evE Γ true e ρ s) (fun x s1 => asInt x fun i => .ok (some i) s1) .mk := by rw [evO]; rfl
@[simp] theorem asInt_i {S α : Type} (i : Int) (f : Int → R S α) : asInt (.int i) f = f i := (rfl)
@[simp] theorem q_et_nil : evT Γ .nil ρ s = .ok true s := by rw [evT]
@[simp] theorem q_et_cons (e : IE) (r : IEs) : evT Γ (.cons e r) ρ s = bd (evE Γ true e ρ s) (fun x s1 => sw (truD x) (evT Γ r ρ s1) (.ok false s1) .mk .mk) .mk := by rw [evT]; rfl
@[simp] theorem q_src_seq (e : IE) : evSrc Γ (.seq e) ρ s = bd (evE Γ true e ρ s) (fun x s1 => R.lift (seqD x) s1) .mk := by rw [evSrc]; rfl
@[simp] theorem q_src_rng1 (a : IE) : evSrc Γ (.rng1 a) ρ s = bd (evE Γ true a ρ s) (fun x s1 => asInt x fun i => R.lift (rngD 0 i) s1) .mk := by rw [evSrc]; rfl
@[simp] theorem q_src_rng2 (a b : IE) : evSrc Γ (.rng2 a b) ρ s = bd (evE Γ true a ρ s) (fun x s1 => bd (evE Γ true b ρ s1) (fun y s2 => asInt x fun i => asInt y fun j => R.lift (rngD i j) s2) .mk) .mk := by rw [evSrc]; rfl
@[simp] theorem q_src_rng3 (a b c : IE) : evSrc Γ (.rng3 a b c) ρ s = bd (evE Γ true a ρ s) (fun x s1 => bd (evE Γ true b ρ s1) (fun y s2 => bd (evE Γ true c ρ s2) (fun z s3 => asInt x fun i => asInt y fun j => asInt z fun k => R.lift (rng3D i j k) s3) .mk) .mk) .mk := by rw [evSrc]; rfl
@[simp] theorem q_src_rrng1 (a : IE) : evSrc Γ (.rrng1 a) ρ s = bd (evE Γ true a ρ s) (fun x s1 => asInt x fun i => R.lift ((rngD 0 i).map List.reverse) s1) .mk := by rw [evSrc]; rfl
@[simp] theorem q_src_rrng2 (a b : IE) : evSrc Γ (.rrng2 a b) ρ s = bd (evE Γ true a ρ s) (fun x s1 => bd (evE Γ true b ρ s1) (fun y s2 => asInt x fun i => asInt y fun j => R.lift ((rngD i j).map List.reverse) s2) .mk) .mk := by rw [evSrc]; rfl
@[simp] theorem q_src_enum (a : IE) : evSrc Γ (.enum a) ρ s = bd (evE Γ true a ρ s) (fun x s1 => R.lift (enumD x) s1) .mk := by rw [evSrc]; rfl
@[simp] theorem q_src_zip (a b : IE) : evSrc Γ (.zip a b) ρ s = bd (evE Γ true a ρ s) (fun x s1 => bd (evE Γ true b ρ s1) (fun y s2 => R.lift (zipD x y) s2) .mk) .mk := by rw [evSrc]; rfl
@[simp] theorem q_src_rev (a : IE) : evSrc Γ (.rev a) ρ s = bd (evE Γ true a ρ s) (fun x s1 => R.lift ((seqD x).map List.reverse) s1) .mk := by rw [evSrc]; rfl
@[simp] theorem ss_nil : evSs Γ .nil ρ s = .ok (.nx ρ) s := by rw [evSs]
/-- the rest of a suite -/
def sq {S : Type} (f : Env → S → R S Fl) (w : Fl) (s : S) (_ : Kt f) : R S Fl := match w with
  | .nx ρ1 => f ρ1 s
  | w => .ok w s
@[simp] theorem sq_nx {S : Type} (f : Env → S → R S Fl) (ρ : Env) (s : S) (k : Kt f) : sq f (.nx ρ) s k = f ρ s := (rfl)
@[simp] theorem sq_rt {S : Type} (f : Env → S → R S Fl) (d : D) (s : S) (k : Kt f) : sq f (.rt d) s k = .ok (.rt d) s := (rfl)
@[simp] theorem sq_bk {S : Type} (f : Env → S → R S Fl) (d : Env) (s : S) (k : Kt f) : sq f (.bk d) s k = .ok (.bk d) s := (rfl)
@[simp] theorem sq_ct {S : Type} (f : Env → S → R S Fl) (d : Env) (s : S) (k : Kt f) : sq f (.ct d) s k = .ok (.ct d) s := (rfl)
@[simp] theorem ss_cons (x : IS) (r : ISs) : evSs Γ (.cons x r) ρ s = bd (evS Γ x ρ s) (fun w s1 => sq (evSs Γ r) w s1 .mk) .mk := by rw [evSs]; rfl
@[simp] theorem s_asgN (i : Nat) (e : IE) : evS Γ (.asgN i e) ρ s = bd (evE Γ false e ρ s) (fun x s1 => .ok (.nx (ρ.set i (some (false, unC e x)))) s1) .mk := by rw [evS]; rfl
@[simp] theorem s_asg (i : Nat) (e : IE) : evS Γ (.asg i e) ρ s = bd (evE Γ false e ρ s) (fun x s1 => .ok (.nx (ρ.set i (some (e.fresh && x.isObj, unC e x)))) s1) .mk := by rw [evS]; rfl
def asTup {S α : Type} (d : D) (f : List D → R S α) : R S α := match d with
  | .tup xs => f xs
  | _ => .bad
@[simp] theorem asTup_t {S α : Type} (l : List D) (f : List D → R S α) : asTup (.tup l) f = f l := (rfl)
def asEnv {S : Type} (o : Option Env) (s : S) : R S Fl := match o with
  | some ρ1 => .ok (.nx ρ1) s
  | none => .bad
@[simp] theorem asEnv_s {S : Type} (ρ : Env) (s : S) : asEnv (some ρ) s = .ok (.nx ρ) s := (rfl)
@[simp] theorem s_asgT (l : List Nat) (e : IE) : evS Γ (.asgT l e) ρ s = bd (evE Γ false e ρ s) (fun x s1 => asTup x fun ds => asEnv (setAll l ds ρ) s1) .mk := by rw [evS]; rfl
def setI {S α : Type} (o : Option Nat) (f : Nat → R S α) : R S α := match o with
  | some n => f n
  | none => .bad
@[simp] theorem setI_s {S α : Type} (n : Nat) (f : Nat → R S α) : setI (some n) f = f n := (rfl)
def setK {S α : Type} (o : Option Ky) (f : Ky → R S α) : R S α := match o with
  | some n => f n
  | none => .bad
@[simp] theorem setK_s {S α : Type} (n : Ky) (f : Ky → R S α) : setK (some n) f = f n := (rfl)
/-- a store by place, by what stands in the slot -/
def setixF {S : Type} [StOps S] (Γ : List (Fn S)) (ρ : Env) (s : S) (i : Nat) (k e : IE) (o : Option Slot) : R S Fl := match o with
    | some (some (true, .lst l)) => bd (evE Γ false e ρ s) (fun x s1 => bd (evE Γ true k ρ s1) (fun y s2 => asInt y fun j => setI (ixN l.length j) fun n => .ok (.nx (ρ.set i (some (true, .lst (l.set n x))))) s2) .mk) .mk
    | some (some (true, .dct tk ks vs)) => bd (evE Γ false e ρ s) (fun x s1 => bd (evE Γ true k ρ s1) (fun y s2 => setK (kyOf tk y) fun q => if ks.length < L then .ok (.nx (ρ.set i (some (true, .dct tk (dput ks vs q x).1 (dput ks vs q x).2)))) s2 else .bad) .mk) .mk
    | some (some (false, .st n)) => bd (evE Γ false e ρ s) (fun x s1 => bd (evE Γ true k ρ s1) (fun y s2 => putS s2 n y x (.nx ρ)) .mk) .mk
    | _ => .bad
@[simp] theorem s_setix (i : Nat) (k e : IE) : evS Γ (.setix i k e) ρ s = setixF Γ ρ s i k e ρ[i]? := by
  rw [evS]; unfold setixF; generalize ρ[i]? = o
  rcases o with _ | _ | ⟨_ | _, d⟩ <;> first | rfl | (cases d <;> rfl)
@[simp] theorem setixF_l (i : Nat) (k e : IE) (l : List D) : setixF Γ ρ s i k e (some (some (true, .lst l))) = bd (evE Γ false e ρ s) (fun x s1 => bd (evE Γ true k ρ s1) (fun y s2 => asInt y fun j => setI (ixN l.length j) fun n => .ok (.nx (ρ.set i (some (true, .lst (l.set n x))))) s2) .mk) .mk := (rfl)
@[simp] theorem setixF_d (i : Nat) (k e : IE) (tk : Bool) (ks : List Ky) (vs : List D) : setixF Γ ρ s i k e (some (some (true, .dct tk ks vs))) = bd (evE Γ false e ρ s) (fun x s1 => bd (evE Γ true k ρ s1) (fun y s2 => setK (kyOf tk y) fun q => if ks.length < L then .ok (.nx (ρ.set i (some (true, .dct tk (dput ks vs q x).1 (dput ks vs q x).2)))) s2 else .bad) .mk) .mk := (rfl)
@[simp] theorem setixF_s (i : Nat) (k e : IE) (n : Nat) : setixF Γ ρ s i k e (some (some (false, .st n))) = bd (evE Γ false e ρ s) (fun x s1 => bd (evE Γ true k ρ s1) (fun y s2 => putS s2 n y x (.nx ρ)) .mk) .mk := (rfl)
def appF {S : Type} [StOps S] (Γ : List (Fn S)) (ρ : Env) (s : S) (i : Nat) (e : IE) (o : Option Slot) : R S Fl := match o with
    | some (some (true, .lst l)) => bd (evE Γ false e ρ s) (fun x s1 => if l.length < L then .ok (.nx (ρ.set i (some (true, .lst (l ++ [unC e x]))))) s1 else .bad) .mk
    | _ => .bad
@[simp] theorem s_app (i : Nat) (e : IE) : evS Γ (.app i e) ρ s = appF Γ ρ s i e ρ[i]? := by
  rw [evS]; unfold appF; generalize ρ[i]? = o
  rcases o with _ | _ | ⟨_ | _, d⟩ <;> first | rfl | (cases d <;> rfl)
@[simp] theorem appF_l (i : Nat) (e : IE) (l : List D) : appF Γ ρ s i e (some (some (true, .lst l))) = bd (evE Γ false e ρ s) (fun x s1 => if l.length < L then .ok (.nx (ρ.set i (some (true, .lst (l ++ [unC e x]))))) s1 else .bad) .mk := (rfl)
@[simp] theorem s_expr (e : IE) : evS Γ (.expr e) ρ s = bd (evE Γ true e ρ s) (fun _ s1 => .ok (.nx ρ) s1) .mk := by rw [evS]; rfl
@[simp] theorem s_ite (t : IE) (a b : ISs) : evS Γ (.ite t a b) ρ s = bd (evE Γ true t ρ s) (fun x s1 => sw (truD x) (evSs Γ a ρ s1) (evSs Γ b ρ s1) .mk .mk) .mk := by rw [evS]; rfl
/-- a for's turn -/
def foF {S : Type} [StOps S] (Γ : List (Fn S)) (tg : Tg) (body : ISs) (d : D) (ρ1 : Env) (s2 : S) : R S Fl := match bindTg tg d ρ1 with
        | some ρ2 => evSs Γ body ρ2 s2
        | none => .bad
@[simp] theorem forS_n {S : Type} (f : D → Env → S → R S Fl) (ρ : Env) (s : S) : forS f [] ρ s = .ok (.nx ρ) s := (rfl)
/-- how the loop goes on behind a turn -/
def lp {S : Type} (k : Env → S → R S Fl) (w : Fl) (s : S) (_ : Kt k) : R S Fl := match w with
    | .nx ρ1 => k ρ1 s
    | .ct ρ1 => k ρ1 s
    | .bk ρ1 => .ok (.nx ρ1) s
    | .rt d => .ok (.rt d) s
@[simp] theorem lp_nx {S : Type} (k : Env → S → R S Fl) (ρ : Env) (s : S) (l : Kt k) : lp k (.nx ρ) s l = k ρ s := (rfl)
@[simp] theorem lp_ct {S : Type} (k : Env → S → R S Fl) (ρ : Env) (s : S) (l : Kt k) : lp k (.ct ρ) s l = k ρ s := (rfl)
@[simp] theorem lp_bk {S : Type} (k : Env → S → R S Fl) (ρ : Env) (s : S) (l : Kt k) : lp k (.bk ρ) s l = .ok (.nx ρ) s := (rfl)
@[simp] theorem lp_rt {S : Type} (k : Env → S → R S Fl) (d : D) (s : S) (l : Kt k) : lp k (.rt d) s l = .ok (.rt d) s := (rfl)
@[simp] theorem forS_c {S : Type} (f : D → Env → S → R S Fl) (d : D) (r : List D) (ρ : Env) (s : S) : forS f (d :: r) ρ s = bd (f d ρ s) (fun w s1 => lp (forS f r) w s1 .mk) .mk := by rw [forS]; rfl
@[simp] theorem s_for (tg : Tg) (fr : List Nat) (src : ISrc) (body : ISs) : evS Γ (.for_ tg fr src body) ρ s = bd (evSrc Γ src ρ s) (fun items s1 => forS (foF Γ tg body) items (freeAll fr ρ) s1) .mk := by rw [evS]; rfl
@[simp] theorem freeAll_n (ρ : Env) : freeAll [] ρ = ρ := (rfl)
def retE {S : Type} (fr : Bool) (d : D) (s : S) : R S Fl := if (fr || !d.isObj) = true then .ok (.rt d) s else .ok (.rt (.ins 0 [d])) s
@[simp] theorem retE_t {S : Type} (d : D) (s : S) : retE true d s = .ok (.rt d) s := (rfl)
@[simp] theorem retE_f {S : Type} (d : D) (s : S) : retE false d s = if d.isObj = false then .ok (.rt d) s else .ok (.rt (.ins 0 [d])) s := by
  unfold retE; cases d.isObj <;> rfl
@[simp] theorem isObj_t (l : List D) : D.isObj (.tup l) = false := (rfl)
@[simp] theorem isObj_i (i : Int) : D.isObj (.int i) = false := (rfl)
@[simp] theorem isObj_b (b : Bool) : D.isObj (.bl b) = false := (rfl)
@[simp] theorem isObj_s (x : Str) : D.isObj (.str x) = false := (rfl)
@[simp] theorem isObj_n : D.isObj .non = false := (rfl)
@[simp] theorem isObj_r (d : D) : D.isObj (.rep d) = false := (rfl)
@[simp] theorem isObj_l (l : List D) : D.isObj (.lst l) = true := (rfl)
@[simp] theorem isObj_d (t : Bool) (k : List Ky) (v : List D) : D.isObj (.dct t k v) = true := (rfl)
def retV {S : Type} (s : S) (o : Option Slot) : R S Fl := match o with
      | some (some (true, d)) => .ok (.rt d) s
      | some (some (false, d)) => if d.isObj = true then .ok (.rt (.ins 0 [d])) s else .ok (.rt d) s
      | _ => .bad
@[simp] def retG {S : Type} [StOps S] (Γ : List (Fn S)) (ρ : Env) (s : S) : IE → R S Fl
  | .var i => retV s ρ[i]?
  | e => bd (evE Γ false e ρ s) (fun d s1 => retE e.fresh d s1) .mk
@[simp] theorem s_ret (e : IE) : evS Γ (.ret e) ρ s = retG Γ ρ s e := by
  cases e <;> rw [evS] <;> first | rfl | (intro i h; cases h)
@[simp] theorem retV_o (d : D) : retV s (some (some (true, d))) = .ok (.rt d) s := (rfl)
@[simp] theorem retV_b (d : D) : retV s (some (some (false, d))) = if d.isObj = true then .ok (.rt (.ins 0 [d])) s else .ok (.rt d) s := (rfl)
@[simp] theorem s_retN : evS Γ .retN ρ s = .ok (.rt .non) s := by rw [evS]
@[simp] theorem s_rse (c : Nat) (ns : List Str) (es : IEs) : evS Γ (.rse c ns es) ρ s = bd (evs Γ true es ρ s) (fun l s1 => if plains l then .ex (.mk c ns l) s1 else .bad) .mk := by rw [evS]; rfl
@[simp] theorem s_try (body : ISs) (cs : List Nat) (i : Nat) (p : IXp) : evS Γ (.tryR body cs i p) ρ s = tryF cs p (evSs Γ body ρ s) := by rw [evS]
@[simp] theorem s_brk : evS Γ .brk ρ s = .ok (.bk ρ) s := by rw [evS]
@[simp] theorem s_cont : evS Γ .cont ρ s = .ok (.ct ρ) s := by rw [evS]
@[simp] theorem s_pass : evS Γ .pass ρ s = .ok (.nx ρ) s := by rw [evS]
def fin {S : Type} (w : Fl) (s : S) : R S D := match w with
    | .nx _ => .ok .non s
    | .rt d => .ok d s
    | _ => .bad
@[simp] theorem fin_nx {S : Type} (ρ : Env) (s : S) : fin (.nx ρ) s = .ok .non s := (rfl)
@[simp] theorem fin_rt {S : Type} (d : D) (s : S) : fin (.rt d) s = .ok d s := (rfl)
@[simp] theorem d_eq {ps n : Nat} {body : ISs} {ds : List D} : evD Γ ps n body ds s = if ds.length = ps then bd (evSs Γ body (ds.map (fun d => some (false, d)) ++ List.replicate (n - ps) none) s) (fun w s1 => fin w s1) .mk else .bad := rfl
/-- a def's run -/
theorem d_run {ps n : Nat} {body : ISs} {ds : List D} (h : ds.length = ps) : evD Γ ps n body ds s = bd (evSs Γ body (ds.map (fun d => some (false, d)) ++ List.replicate (n - ps) none) s) (fun w s1 => fin w s1) .mk := by
  unfold evD; rw [if_pos h]; rfl
end
end Ev
end
section
set_option linter.all false
namespace Ev
/-! ### dicts of pairs -/
def ky2 (p : P2) : Ky := [.inl p.1, .inl p.2]
def pD (p : P2) : D := .tup [.int p.1, .int p.2]
def tD (t : T3) : D := .tup [.int t.1, .int t.2.1, .int t.2.2]
theorem ky2_inj {p q : P2} : ky2 p = ky2 q ↔ p = q := by
  unfold ky2
  constructor
  · intro h
    simp at h
    exact Prod.ext h.1 h.2
  · rintro rfl; rfl
@[simp] theorem kyOf_pD (p : P2) : kyOf true (pD p) = some (ky2 p) := (rfl)
@[simp] theorem kyOf_pD' (a b : Int) : kyOf true (.tup [.int a, .int b]) = some (ky2 (a, b)) := (rfl)
theorem unKy_ky2 (p : P2) : unKy true (ky2 p) = pD p := rfl
theorem dlook_map (f : P2 → D) (p : P2) : ∀ ks : List P2, dlook (ks.map ky2) (ks.map f) (ky2 p) = if p ∈ ks then some (f p) else none
  | [] => rfl
  | k :: ks => by
    rw [List.map_cons, List.map_cons, dlook, dlook_map f p ks]
    by_cases e : k = p
    · subst e; simp
    · rw [if_neg (fun h => e (ky2_inj.mp h))]
      have : ¬ p = k := fun h => e h.symm
      simp [this]
theorem kyIn_map (p : P2) (ks : List P2) : kyIn (ky2 p) (ks.map ky2) = decide (p ∈ ks) := by
  unfold kyIn
  rw [Bool.eq_iff_iff, List.any_eq_true]
  simp only [decide_eq_true_eq]
  constructor
  · rintro ⟨k, hk, e⟩
    obtain ⟨q, hq, rfl⟩ := List.mem_map.mp hk
    exact ky2_inj.mp e ▸ hq
  · intro h; exact ⟨ky2 p, List.mem_map.mpr ⟨p, h, rfl⟩, rfl⟩
theorem dput_map (f : P2 → D) (p : P2) (x : D) (ks : List P2) : dput (ks.map ky2) (ks.map f) (ky2 p) x =
    ((if p ∈ ks then ks else ks ++ [p]).map ky2, (if p ∈ ks then ks else ks ++ [p]).map fun q => if q = p then x else f q) := by
  unfold dput
  rw [kyIn_map]
  by_cases h : p ∈ ks
  · simp only [h, decide_true, if_true]
    refine Prod.ext rfl ?_
    show ((ks.map ky2).zip (ks.map f)).map _ = _
    rw [List.zip_map', List.map_map]
    refine List.map_congr_left fun q _ => ?_
    show (if ky2 q = ky2 p then x else f q) = _
    by_cases e : q = p
    · subst e; simp
    · rw [if_neg (fun h => e (ky2_inj.mp h)), if_neg e]
  · rw [if_neg (by simpa using h), if_neg h]
    refine Prod.ext (by simp) ?_
    show ks.map f ++ [x] = List.map _ (ks ++ [p])
    rw [List.map_append]
    congr 1
    · refine List.map_congr_left fun q hq => ?_
      have : q ≠ p := fun e => h (e ▸ hq)
      simp [this]
    · simp
/-- the dict of the totals -/
def totD (l : List T3) : D := .dct true ((keys l []).map ky2) ((keys l []).map fun p => .int (tot p l))
theorem tot_get (p : P2) (l : List T3) : (dlook ((keys l []).map ky2) ((keys l []).map fun p => D.int (tot p l)) (ky2 p)).getD (.int 0) = .int (tot p l) := by
  rw [dlook_map]
  split
  · rfl
  · rename_i c
    rw [tot_none fun u hu e => c ((keys_mem _ _ _).mpr (.inr ⟨u, hu, e⟩))]; rfl
theorem tot_at {p : P2} {l : List T3} (h : p ∈ keys l []) : dlook ((keys l []).map ky2) ((keys l []).map fun p => D.int (tot p l)) (ky2 p) = some (.int (tot p l)) := by
  rw [dlook_map, if_pos h]
theorem totD_step (pre : List T3) (t : T3) : dput ((keys pre []).map ky2) ((keys pre []).map fun p => D.int (tot p pre)) (ky2 t.p) (.int (tot t.p pre + t.m)) =
    ((keys (pre ++ [t]) []).map ky2, (keys (pre ++ [t]) []).map fun p => .int (tot p (pre ++ [t]))) := by
  rw [dput_map, keys_append, keys]
  refine Prod.ext rfl ?_
  show List.map _ _ = List.map _ _
  refine List.map_congr_left fun q hq => ?_
  rw [tot_append, tot, tot]
  by_cases e : q = t.p
  · subst e
    simp only [if_true]
    congr 1; omega
  · have e' : ¬ t.p = q := fun h => e h.symm
    simp [e, e']
theorem sort_pD {ks : List P2} (h1 : ks.length < 64) (h2 : ∀ p ∈ ks, 0 ≤ p.1 ∧ 0 ≤ p.2) : sortD (ks.map pD) = some (.lst ((isort ltP ks).map pD)) := by
  have e : ks.map pD = (ks.map fun p => [p.1, p.2]).map D.row := by rw [List.map_map]; rfl
  rw [e, sortD_rows (n := 2) (by simpa using h1) (by omega), isort_map (lt := ltP) (f := fun p : P2 => [p.1, p.2]) (fun a b => rfl), List.map_map]
  · rfl
  · intro r hr
    obtain ⟨p, hp, rfl⟩ := List.mem_map.mp hr
    refine ⟨rfl, fun i hi => ?_⟩
    obtain ⟨a, b⟩ := h2 p hp
    rcases List.mem_cons.mp hi with rfl | hi
    · exact a
    · rcases List.mem_cons.mp hi with rfl | hi
      · exact b
      · cases hi
/-- a tuple, or a list, of given items -/
def IsSeq (d : D) (l : List D) : Prop := d = .tup l ∨ d = .lst l
@[simp] theorem seqD_of {d : D} {l : List D} (h : IsSeq d l) : seqD d = some l := by rcases h with rfl | rfl <;> rfl
@[simp] theorem plains_t3 : ∀ l : List T3, plains (l.map tD) = true
  | [] => rfl
  | t :: l => by rw [List.map_cons, plains, plains_t3 l]; rfl
@[simp] theorem plain_tD (t : T3) : (tD t).plain = true := (rfl)
@[simp] theorem seqD_l (l : List D) : seqD (.lst l) = some l := (rfl)
@[simp] theorem seqD_t (l : List D) : seqD (.tup l) = some l := (rfl)
theorem asSeq_of {S α : Type} {d : D} {l : List D} (h : IsSeq d l) (f : List D → R S α) : asSeq d f = f l := by rcases h with rfl | rfl <;> rfl
@[simp] theorem fresh_bop (o : Bop) (a b : IE) : (IE.bop o a b).fresh = true := (rfl)
@[simp] theorem fresh_lst (a : IEs) : (IE.lst a).fresh = true := (rfl)
@[simp] theorem fresh_call (f : Nat) (a : IEs) : (IE.call f a).fresh = true := (rfl)
@[simp] theorem fresh_callp (f : Nat) (a b : IEs) (p : List Nat) : (IE.callp f a b p).fresh = true := (rfl)
@[simp] theorem fresh_blt (b : Blt) (a : IEs) : (IE.blt b a).fresh = true := (rfl)
@[simp] theorem fresh_slc (a : IE) (l h : IEo) : (IE.slc a l h).fresh = true := (rfl)
@[simp] theorem fresh_rev (a : IE) : (IE.rev a).fresh = true := (rfl)
@[simp] theorem fresh_lc (e : IE) (t : Tg) (o : List Nat) (s : ISrc) (i : IEs) : (IE.lc e t o s i).fresh = true := (rfl)
@[simp] theorem fresh_dnew (b : Bool) : (IE.dnew b).fresh = true := (rfl)
@[simp] theorem fresh_ite (t a b : IE) : (IE.ite t a b).fresh = (a.fresh && b.fresh) := (rfl)
@[simp] theorem fresh_or (a b : IE) : (IE.or a b).fresh = (a.fresh && b.fresh) := (rfl)
@[simp] theorem fresh_and (a b : IE) : (IE.and a b).fresh = (a.fresh && b.fresh) := (rfl)
@[simp] theorem fresh_var (i : Nat) : (IE.var i).fresh = false := (rfl)
@[simp] theorem fresh_c (d : D) : (IE.c d).fresh = false := (rfl)
@[simp] theorem fresh_neg (a : IE) : (IE.neg a).fresh = false := (rfl)
@[simp] theorem fresh_not (a : IE) : (IE.not a).fresh = false := (rfl)
@[simp] theorem fresh_cmp (o : Cop) (a b : IE) : (IE.cmp o a b).fresh = false := (rfl)
@[simp] theorem fresh_isN (a : IE) : (IE.isN a).fresh = false := (rfl)
@[simp] theorem fresh_notN (a : IE) : (IE.notN a).fresh = false := (rfl)
@[simp] theorem fresh_tup (a : IEs) : (IE.tup a).fresh = false := (rfl)
@[simp] theorem fresh_isi (a : IE) (t : Ty) : (IE.isi a t).fresh = false := (rfl)
@[simp] theorem fresh_sub (a b : IE) : (IE.sub a b).fresh = false := (rfl)
@[simp] theorem fresh_dget (a b c : IE) : (IE.dget a b c).fresh = false := (rfl)
@[simp] theorem pl_i (i : Int) : (D.int i).plain = true := (rfl)
@[simp] theorem pl_b (i : Bool) : (D.bl i).plain = true := (rfl)
@[simp] theorem pl_n : D.non.plain = true := (rfl)
@[simp] theorem pl_s (x : PySem.Str) : (D.str x).plain = true := (rfl)
@[simp] theorem pl_t (l : List D) : (D.tup l).plain = plains l := (rfl)
@[simp] theorem pls_n : plains [] = true := (rfl)
@[simp] theorem pls_c (d : D) (l : List D) : plains (d :: l) = (d.plain && plains l) := (rfl)
theorem pls_app : ∀ l r : List D, plains (l ++ r) = (plains l && plains r)
  | [], r => rfl
  | d :: l, r => by rw [List.cons_append, pls_c, pls_c, pls_app l r, Bool.and_assoc]
@[simp] theorem pls_rev : ∀ l : List D, plains l.reverse = plains l
  | [] => rfl
  | d :: l => by rw [List.reverse_cons, pls_app, pls_rev l, pls_c, pls_c, pls_n, Bool.and_true, Bool.and_comm]
@[simp] theorem bk_i (i : Int) : (D.int i).back = true := (rfl)
@[simp] theorem bk_b (i : Bool) : (D.bl i).back = true := (rfl)
@[simp] theorem bk_n : D.non.back = true := (rfl)
@[simp] theorem bk_s (x : PySem.Str) : (D.str x).back = true := (rfl)
@[simp] theorem bk_t (l : List D) : (D.tup l).back = plains l := (rfl)
@[simp] theorem bk_l (l : List D) : (D.lst l).back = plains l := (rfl)
@[simp] theorem bk_d (b : Bool) (k : List Ky) (l : List D) : (D.dct b k l).back = plains l := (rfl)
@[simp] theorem pls_int {α : Type} (f : α → Int) : ∀ l : List α, plains (l.map fun x => .int (f x)) = true
  | [] => rfl
  | t :: l => by rw [List.map_cons, pls_c, pls_int f l]; rfl
theorem fm_empty {α β : Type} (p : α → Prop) [DecidablePred p] (f : α → β) : ∀ l : List α, (l.filterMap fun t => if p t then some (f t) else none).isEmpty = !(l.any fun t => decide (p t))
  | [] => rfl
  | t :: l => by
    rw [List.filterMap_cons, List.any_cons]
    by_cases c : p t
    · simp [c]
    · simp only [c, if_false, decide_false, Bool.false_or]; exact fm_empty p f l
@[simp] theorem isi_n_int  : isiD D.non .int = some false := (rfl)
@[simp] theorem isi_n_bool  : isiD D.non .bool = some false := (rfl)
@[simp] theorem isi_n_str  : isiD D.non .str = some false := (rfl)
@[simp] theorem isi_n_tuple  : isiD D.non .tuple = some false := (rfl)
@[simp] theorem isi_n_list  : isiD D.non .list = some false := (rfl)
@[simp] theorem isi_b_int (b : Bool) : isiD (D.bl b) .int = some true := (rfl)
@[simp] theorem isi_b_bool (b : Bool) : isiD (D.bl b) .bool = some true := (rfl)
@[simp] theorem isi_b_str (b : Bool) : isiD (D.bl b) .str = some false := (rfl)
@[simp] theorem isi_b_tuple (b : Bool) : isiD (D.bl b) .tuple = some false := (rfl)
@[simp] theorem isi_b_list (b : Bool) : isiD (D.bl b) .list = some false := (rfl)
@[simp] theorem isi_i_int (i : Int) : isiD (D.int i) .int = some true := (rfl)
@[simp] theorem isi_i_bool (i : Int) : isiD (D.int i) .bool = some false := (rfl)
@[simp] theorem isi_i_str (i : Int) : isiD (D.int i) .str = some false := (rfl)
@[simp] theorem isi_i_tuple (i : Int) : isiD (D.int i) .tuple = some false := (rfl)
@[simp] theorem isi_i_list (i : Int) : isiD (D.int i) .list = some false := (rfl)
@[simp] theorem isi_s_int (x : PySem.Str) : isiD (D.str x) .int = some false := (rfl)
@[simp] theorem isi_s_bool (x : PySem.Str) : isiD (D.str x) .bool = some false := (rfl)
@[simp] theorem isi_s_str (x : PySem.Str) : isiD (D.str x) .str = some true := (rfl)
@[simp] theorem isi_s_tuple (x : PySem.Str) : isiD (D.str x) .tuple = some false := (rfl)
@[simp] theorem isi_s_list (x : PySem.Str) : isiD (D.str x) .list = some false := (rfl)
@[simp] theorem isi_t_int (l : List D) : isiD (D.tup l) .int = some false := (rfl)
@[simp] theorem isi_t_bool (l : List D) : isiD (D.tup l) .bool = some false := (rfl)
@[simp] theorem isi_t_str (l : List D) : isiD (D.tup l) .str = some false := (rfl)
@[simp] theorem isi_t_tuple (l : List D) : isiD (D.tup l) .tuple = some true := (rfl)
@[simp] theorem isi_t_list (l : List D) : isiD (D.tup l) .list = some false := (rfl)
@[simp] theorem isi_l_int (l : List D) : isiD (D.lst l) .int = some false := (rfl)
@[simp] theorem isi_l_bool (l : List D) : isiD (D.lst l) .bool = some false := (rfl)
@[simp] theorem isi_l_str (l : List D) : isiD (D.lst l) .str = some false := (rfl)
@[simp] theorem isi_l_tuple (l : List D) : isiD (D.lst l) .tuple = some false := (rfl)
@[simp] theorem isi_l_list (l : List D) : isiD (D.lst l) .list = some true := (rfl)
@[simp] theorem leL_0 : 0 ≤ L := by decide
@[simp] theorem ltL_0 : 0 < L := by decide
@[simp] theorem leL_1 : 1 ≤ L := by decide
@[simp] theorem ltL_1 : 1 < L := by decide
@[simp] theorem leL_2 : 2 ≤ L := by decide
@[simp] theorem ltL_2 : 2 < L := by decide
@[simp] theorem leL_3 : 3 ≤ L := by decide
@[simp] theorem ltL_3 : 3 < L := by decide
@[simp] theorem leL_4 : 4 ≤ L := by decide
@[simp] theorem ltL_4 : 4 < L := by decide
@[simp] theorem leL_5 : 5 ≤ L := by decide
@[simp] theorem ltL_5 : 5 < L := by decide
@[simp] theorem leL_6 : 6 ≤ L := by decide
@[simp] theorem ltL_6 : 6 < L := by decide
@[simp] theorem leL_7 : 7 ≤ L := by decide
@[simp] theorem ltL_7 : 7 < L := by decide
@[simp] theorem leL_8 : 8 ≤ L := by decide
@[simp] theorem ltL_8 : 8 < L := by decide
@[simp] theorem leL_9 : 9 ≤ L := by decide
@[simp] theorem ltL_9 : 9 < L := by decide
@[simp] theorem leL_10 : 10 ≤ L := by decide
@[simp] theorem ltL_10 : 10 < L := by decide
@[simp] theorem leL_11 : 11 ≤ L := by decide
@[simp] theorem ltL_11 : 11 < L := by decide
@[simp] theorem leL_12 : 12 ≤ L := by decide
@[simp] theorem ltL_12 : 12 < L := by decide
@[simp] theorem leL_13 : 13 ≤ L := by decide
@[simp] theorem ltL_13 : 13 < L := by decide
@[simp] theorem leL_14 : 14 ≤ L := by decide
@[simp] theorem ltL_14 : 14 < L := by decide
@[simp] theorem leL_15 : 15 ≤ L := by decide
@[simp] theorem ltL_15 : 15 < L := by decide
@[simp] theorem leL_16 : 16 ≤ L := by decide
@[simp] theorem ltL_16 : 16 < L := by decide
@[simp] theorem leL_17 : 17 ≤ L := by decide
@[simp] theorem ltL_17 : 17 < L := by decide
@[simp] theorem leL_18 : 18 ≤ L := by decide
@[simp] theorem ltL_18 : 18 < L := by decide
@[simp] theorem leL_19 : 19 ≤ L := by decide
@[simp] theorem ltL_19 : 19 < L := by decide
@[simp] theorem leL_20 : 20 ≤ L := by decide
@[simp] theorem ltL_20 : 20 < L := by decide
@[simp] theorem leL_21 : 21 ≤ L := by decide
@[simp] theorem ltL_21 : 21 < L := by decide
@[simp] theorem leL_22 : 22 ≤ L := by decide
@[simp] theorem ltL_22 : 22 < L := by decide
@[simp] theorem leL_23 : 23 ≤ L := by decide
@[simp] theorem ltL_23 : 23 < L := by decide
@[simp] theorem leL_24 : 24 ≤ L := by decide
@[simp] theorem ltL_24 : 24 < L := by decide
@[simp] theorem cmp_eq (i j : Int) : cmpD .eq (.int i) (.int j) = some (decide (i = j)) := (rfl)
@[simp] theorem cmp_ne (i j : Int) : cmpD .ne (.int i) (.int j) = some (!decide (i = j)) := (rfl)
@[simp] theorem cmp_lt (i j : Int) : cmpD .lt (.int i) (.int j) = some (decide (i < j)) := (rfl)
@[simp] theorem cmp_le (i j : Int) : cmpD .le (.int i) (.int j) = some (decide (i ≤ j)) := (rfl)
@[simp] theorem cmp_gt (i j : Int) : cmpD .gt (.int i) (.int j) = some (decide (j < i)) := (rfl)
@[simp] theorem cmp_ge (i j : Int) : cmpD .ge (.int i) (.int j) = some (decide (j ≤ i)) := (rfl)
@[simp] theorem fit_i (n : Nat) (i : Int) : D.fit n (.int i) = true := by cases n <;> rfl
@[simp] theorem fit_b (n : Nat) (i : Bool) : D.fit n (.bl i) = true := by cases n <;> rfl
@[simp] theorem fit_n (n : Nat) : D.fit n .non = true := by cases n <;> rfl
@[simp] theorem fit_t (n : Nat) (l : List D) : D.fit (n + 1) (.tup l) = fits n l := (rfl)
@[simp] theorem fit_l (n : Nat) (l : List D) : D.fit (n + 1) (.lst l) = fits n l := (rfl)
@[simp] theorem fits_n (n : Nat) : fits n [] = true := by rw [fits]
@[simp] theorem fits_c (n : Nat) (d : D) (l : List D) : fits n (d :: l) = (D.fit n d && fits n l) := by rw [fits]
@[simp] theorem eqv_i (i j : Int) : D.eqv (.int i) (.int j) = decide (i = j) := (rfl)
@[simp] theorem eqv_b (i j : Bool) : D.eqv (.bl i) (.bl j) = (i == j) := (rfl)
@[simp] theorem eqv_t (i j : List D) : D.eqv (.tup i) (.tup j) = eqvs i j := (rfl)
@[simp] theorem eqv_l (i j : List D) : D.eqv (.lst i) (.lst j) = eqvs i j := (rfl)
@[simp] theorem eqvs_n : eqvs [] [] = true := (rfl)
@[simp] theorem eqvs_c (d e : D) (l r : List D) : eqvs (d :: l) (e :: r) = (D.eqv d e && eqvs l r) := (rfl)
@[simp] theorem eqv_nn : D.eqv .non .non = true := (rfl)
@[simp] theorem eqv_ss (x y : PySem.Str) : D.eqv (.str x) (.str y) = (x == y) := (rfl)
@[simp] theorem eqv_ti (l : List D) (i : Int) : D.eqv (.tup l) (.int i) = false := (rfl)
@[simp] theorem eqv_it (l : List D) (i : Int) : D.eqv (.int i) (.tup l) = false := (rfl)
@[simp] theorem eqv_ni (i : Int) : D.eqv .non (.int i) = false := (rfl)
@[simp] theorem eqv_in (i : Int) : D.eqv (.int i) .non = false := (rfl)
@[simp] theorem eqv_nt (l : List D) : D.eqv .non (.tup l) = false := (rfl)
@[simp] theorem eqv_tn (l : List D) : D.eqv (.tup l) .non = false := (rfl)
@[simp] theorem eqv_si (x : PySem.Str) (i : Int) : D.eqv (.str x) (.int i) = false := (rfl)
@[simp] theorem eqv_is (x : PySem.Str) (i : Int) : D.eqv (.int i) (.str x) = false := (rfl)
@[simp] theorem eqv_st (x : PySem.Str) (l : List D) : D.eqv (.str x) (.tup l) = false := (rfl)
@[simp] theorem eqv_ts (x : PySem.Str) (l : List D) : D.eqv (.tup l) (.str x) = false := (rfl)
@[simp] theorem eqv_sn (x : PySem.Str) : D.eqv (.str x) .non = false := (rfl)
@[simp] theorem eqv_ns (x : PySem.Str) : D.eqv .non (.str x) = false := (rfl)
@[simp] theorem eqvs_cn (d : D) (l : List D) : eqvs (d :: l) [] = false := (rfl)
@[simp] theorem eqvs_nc (d : D) (l : List D) : eqvs [] (d :: l) = false := (rfl)
@[simp] theorem obj_l (l : List D) : (D.lst l).isObj = true := (rfl)
@[simp] theorem obj_d (b : Bool) (k : List Ky) (l : List D) : (D.dct b k l).isObj = true := (rfl)
@[simp] theorem obj_t (l : List D) : (D.tup l).isObj = false := (rfl)
@[simp] theorem obj_i (i : Int) : (D.int i).isObj = false := (rfl)
@[simp] theorem obj_b (i : Bool) : (D.bl i).isObj = false := (rfl)
@[simp] theorem obj_n : D.non.isObj = false := (rfl)
@[simp] theorem obj_s (x : PySem.Str) : (D.str x).isObj = false := (rfl)
@[simp] theorem obj_st (n : Nat) : (D.st n).isObj = false := (rfl)
@[simp] theorem truD_b (b : Bool) : truD (.bl b) = some b := (rfl)
@[simp] theorem truD_n : truD .non = some false := (rfl)
@[simp] theorem truD_i (i : Int) : truD (.int i) = some (i != 0) := (rfl)
@[simp] theorem truD_l (l : List D) : truD (.lst l) = some !l.isEmpty := (rfl)
@[simp] theorem truD_t (l : List D) : truD (.tup l) = some !l.isEmpty := (rfl)
@[simp] theorem isNon_n : isNon .non = true := (rfl)
@[simp] theorem isNon_i (i : Int) : isNon (.int i) = false := (rfl)
@[simp] theorem isNon_b (i : Bool) : isNon (.bl i) = false := (rfl)
@[simp] theorem isNon_t (l : List D) : isNon (.tup l) = false := (rfl)
@[simp] theorem isNon_l (l : List D) : isNon (.lst l) = false := (rfl)
@[simp] theorem isNon_s (x : PySem.Str) : isNon (.str x) = false := (rfl)
@[simp] theorem lift_some' {S α : Type} (a : α) (s : S) : (R.lift (some a) s : R S α) = .ok a s := (rfl)
end Ev
end
section
set_option linter.all false
/-! Gen4: what the pure side of a law about counts of pairs shares. -/
namespace Ev
open PySem (Str)
/-! from K4c -/
/-- sheets that a law draws its stocks from -/
structure QOk (Q : List P2) : Prop where
  len : Q.length ≤ 8
  pos : ∀ p ∈ Q, 1 ≤ p.1 ∧ 1 ≤ p.2
/-- a stock of these sheets -/
structure Wf (Q : List P2) (l : List T3) : Prop where
  len : l.length ≤ 100
  mem : ∀ t ∈ l, t.p ∈ Q
  pos : ∀ t ∈ l, 1 ≤ t.m
theorem keys_few {Q : List P2} {l : List T3} (hQ : Q.length ≤ 8) (h : ∀ t ∈ l, t.p ∈ Q) : (keys l []).length ≤ 8 := by
  refine Nat.le_trans (nodup_sub (keys_nodup _ _ .nil) fun p hp => ?_) hQ
  rcases (keys_mem _ _ _).mp hp with h' | ⟨t, ht, e⟩
  · cases h'
  · exact e ▸ h t ht
theorem Wf.nil (Q : List P2) : Wf Q [] := ⟨by simp, by simp, by simp⟩
theorem Wf.cnt {Q : List P2} {l : List T3} (h : Wf Q l) (hQ : QOk Q) : ∀ t ∈ l, (1 ≤ t.1 ∧ 1 ≤ t.2.1) ∧ 1 ≤ t.2.2 := fun t ht => ⟨hQ.pos _ (h.mem t ht), h.pos t ht⟩
theorem Wf.nn {Q : List P2} {l : List T3} (h : Wf Q l) (hQ : QOk Q) : ∀ t ∈ l, 0 ≤ t.1 ∧ 0 ≤ t.2.1 := fun t ht => by
  have := h.cnt hQ t ht; omega
theorem neg3_p (t : T3) : (neg3 t).p = t.p := rfl
theorem sumM_map : ∀ l : List T3, (l.map T3.m).sum = sumM l
  | [] => rfl
  | t :: l => by rw [List.map_cons, List.sum_cons, sumM_map l]; rfl
/-- the lesser one -/
def mn (i j : Int) : Int := if j < i then j else i
@[simp] theorem min2F_mn (i j : Int) : min2F [.int i, .int j] = some (.int (mn i j)) := rfl
theorem mn_spec (i j : Int) : (mn i j ≤ i ∧ mn i j ≤ j) ∧ (mn i j = i ∨ mn i j = j) := by unfold mn; split <;> omega
/-- the first sheets of a stock -/
def takeF : List T3 → Int → List T3
  | [], _ => []
  | t :: r, n => (if 0 < (mn t.m n) then [(t.1, t.2.1, mn t.m n)] else []) ++ takeF r (n - mn t.m n)
/-- what is missing behind a stock -/
def leftF : List T3 → Int → Int
  | [], n => n
  | t :: r, n => leftF r (n - mn t.m n)
theorem takeF_app : ∀ (l r : List T3) (n : Int), takeF (l ++ r) n = takeF l n ++ takeF r (leftF l n)
  | [], _, _ => rfl
  | t :: l, r, n => by rw [List.cons_append, takeF, takeF, leftF, takeF_app l r, List.append_assoc]
theorem leftF_app : ∀ (l r : List T3) (n : Int), leftF (l ++ r) n = leftF r (leftF l n)
  | [], _, _ => rfl
  | t :: l, r, n => by rw [List.cons_append, leftF, leftF, leftF_app l r]
theorem takeF_len : ∀ (l : List T3) (n : Int), (takeF l n).length ≤ l.length
  | [], _ => by simp [takeF]
  | t :: l, n => by
    rw [takeF, List.length_append]
    have := takeF_len l (n - mn t.m n)
    have : (if 0 < (mn t.m n) then [((t.1, t.2.1, mn t.m n) : T3)] else []).length ≤ 1 := by generalize mn t.m n = v; split <;> simp
    simp only [List.length_cons]; omega
/-! from K4d -/
@[simp] theorem get_sl (s : SL) (n : Nat) : (@StOps.get SL slOps s n) = s[n]? := (rfl)
@[simp] theorem put_sl (s : SL) (n : Nat) (l : List D) : (@StOps.put SL slOps s n l) = s.set n l := (rfl)
/-- the state of the draws: a count, the script's cells -/
def Gs (s : SL) : Prop := ∃ (c : Int) (cells : List Int), s = [[.st 1, .int c], cells.map .int]
theorem bits_of {i j : Int} (h : -(2 ^ 64) < j ∧ j < 2 ^ 64) : bitsOk i j = true := decide_eq_true (.inr (.inl h))
theorem divOk_of {j : Int} (h : 0 < j) (k : j < 10000000000000000000000000000000000000000) : divOk j = true := by
  refine decide_eq_true ⟨h, ?_⟩
  have h2 : j.natAbs ≠ 0 := by omega
  have h3 : j.natAbs < 10000000000000000000000000000000000000000 := by omega
  have := (Nat.log2_lt h2).mpr (Nat.lt_trans h3 (show 10000000000000000000000000000000000000000 < 2 ^ 250 by decide))
  omega
theorem ixN_of {n : Nat} {i : Int} (h : 0 ≤ i ∧ i < n) : ixN n i = some i.toNat := by unfold ixN; rw [if_pos h.1, if_pos h.2]
@[simp] theorem bopD_add : bopD .add = addD := (rfl)
@[simp] theorem bopD_sub : bopD .sub = subtD := (rfl)
@[simp] theorem bopD_mul : bopD .mul = mulD := (rfl)
@[simp] theorem bopD_fdiv : bopD .fdiv = fdivD := (rfl)
@[simp] theorem bopD_mod : bopD .mod = modD := (rfl)
@[simp] theorem addD_i (i j : Int) : addD (.int i) (.int j) = some (.int (i + j)) := (rfl)
@[simp] theorem subtD_i (i j : Int) : subtD (.int i) (.int j) = some (.int (i - j)) := (rfl)
theorem mulD_i {i j : Int} (h : bitsOk i j = true) : mulD (.int i) (.int j) = some (.int (i * j)) := by show (if bitsOk i j = true then some (D.int (i * j)) else none) = _; rw [if_pos h]
theorem fdivD_i {i j : Int} (h : divOk j = true) : fdivD (.int i) (.int j) = some (.int (i / j)) := by show (if divOk j = true then some (D.int (i / j)) else none) = _; rw [if_pos h]
theorem modD_i {i j : Int} (h : 0 < j) : modD (.int i) (.int j) = some (.int (i % j)) := by show (if 0 < j then some (D.int (i % j)) else none) = _; rw [if_pos h]
/-! from K4e -/
mutual
theorem eqv_refl : ∀ (d : D) (n : Nat), D.fit n d = true → D.eqv d d = true
  | .non, _, _ => rfl
  | .bl b, _, _ => by simp [D.eqv]
  | .int i, _, _ => by simp [D.eqv]
  | .str x, _, _ => by simp [D.eqv]
  | .tup l, 0, h => by simp [D.fit] at h
  | .tup l, n + 1, h => by rw [D.eqv]; exact eqvs_refl l n (by simpa using h)
  | .lst l, 0, h => by simp [D.fit] at h
  | .lst l, n + 1, h => by rw [D.eqv]; exact eqvs_refl l n (by simpa using h)
  | .st _, n, h => by cases n <;> simp [D.fit] at h
  | .dct _ _ _, n, h => by cases n <;> simp [D.fit] at h
  | .ins _ _, n, h => by cases n <;> simp [D.fit] at h
  | .rep _, n, h => by cases n <;> simp [D.fit] at h
theorem eqvs_refl : ∀ (l : List D) (n : Nat), fits n l = true → eqvs l l = true
  | [], _, _ => rfl
  | d :: r, n, h => by
    have h' : D.fit n d = true ∧ fits n r = true := by simpa using h
    rw [eqvs, eqv_refl d n h'.1, eqvs_refl r n h'.2]; rfl
end
theorem fits_mem {n : Nat} : ∀ {l : List D}, fits n l = true → ∀ d ∈ l, D.fit n d = true
  | d :: r, h, e, he => by
    have h' : D.fit n d = true ∧ fits n r = true := by simpa [fits] using h
    rcases List.mem_cons.mp he with rfl | he
    · exact h'.1
    · exact fits_mem h'.2 e he
theorem plains_mem : ∀ {l : List D}, plains l = true → ∀ d ∈ l, d.plain = true
  | d :: r, h, e, he => by
    have h' : d.plain = true ∧ plains r = true := by simpa using h
    rcases List.mem_cons.mp he with rfl | he
    · exact h'.1
    · exact plains_mem h'.2 e he
theorem fits_map {α : Type} {n : Nat} {f : α → D} (h : ∀ x, D.fit n (f x) = true) : ∀ l : List α, fits n (l.map f) = true
  | [] => by rw [List.map_nil, fits]
  | x :: l => by rw [List.map_cons, fits, h x, fits_map h l]; rfl
mutual
theorem fit_up : ∀ (n : Nat) (d : D), D.fit n d = true → D.fit (n + 1) d = true
  | n, .non, _ => by simp
  | n, .bl _, _ => by simp
  | n, .int _, _ => by simp
  | n, .str x, h => by cases n <;> exact h
  | 0, .tup l, h => by simp [D.fit] at h
  | n + 1, .tup l, h => by rw [fit_t] at h ⊢; exact fits_up n l h
  | 0, .lst l, h => by simp [D.fit] at h
  | n + 1, .lst l, h => by rw [fit_l] at h ⊢; exact fits_up n l h
  | n, .st _, h => by cases n <;> simp [D.fit] at h
  | n, .dct _ _ _, h => by cases n <;> simp [D.fit] at h
  | n, .ins _ _, h => by cases n <;> simp [D.fit] at h
theorem fits_up : ∀ (n : Nat) (l : List D), fits n l = true → fits (n + 1) l = true
  | n, [], _ => by simp
  | n, d :: r, h => by
    have h' : D.fit n d = true ∧ fits n r = true := by simpa using h
    rw [fits_c, fit_up n d h'.1, fits_up n r h'.2]; rfl
end
theorem fit_tD (n : Nat) (t : T3) : D.fit (n + 1) (tD t) = true := by simp [tD]
theorem fit_pD (n : Nat) (t : P2) : D.fit (n + 1) (pD t) = true := by simp [pD]
theorem eqv_tD (t u : T3) : D.eqv (tD t) (tD u) = decide (t = u) := by
  obtain ⟨a, b, c⟩ := t; obtain ⟨a', b', c'⟩ := u
  simp only [tD, eqv_t, eqvs_c, eqv_i, eqvs_n, Prod.mk.injEq]
  by_cases h1 : a = a' <;> by_cases h2 : b = b' <;> by_cases h3 : c = c' <;> simp [h1, h2, h3]
theorem eqv_pD (t u : P2) : D.eqv (pD t) (pD u) = decide (t = u) := by
  obtain ⟨a, b⟩ := t; obtain ⟨a', b'⟩ := u
  simp only [pD, eqv_t, eqvs_c, eqv_i, eqvs_n, Prod.mk.injEq]
  by_cases h1 : a = a' <;> by_cases h2 : b = b' <;> simp [h1, h2]
theorem forS_same {f : D → Env → SL → R SL Fl} (P : Env → Prop) (s : SL) : ∀ (l : List D) (ρ : Env), P ρ → (∀ d ∈ l, ∀ ρ, P ρ → ∃ ρ', f d ρ s = .ok (.nx ρ') s ∧ P ρ') → ∃ ρ', forS f l ρ s = .ok (.nx ρ') s ∧ P ρ'
  | [], ρ, h, _ => ⟨ρ, by simp, h⟩
  | d :: l, ρ, h, st => by
    obtain ⟨ρ1, e, h1⟩ := st d (by simp) ρ h
    obtain ⟨ρ2, e2, h2⟩ := forS_same P s l ρ1 h1 fun d hd => st d (by simp [hd])
    exact ⟨ρ2, by simp [e, e2], h2⟩
theorem zip_self {α : Type} : ∀ l : List α, l.zip l = l.map fun x => (x, x)
  | [] => rfl
  | x :: l => by rw [List.zip_cons_cons, zip_self l]; rfl
/-! from K4f -/
/-- a datum that the law's `same` and `==` let -/
structure Nice (d : D) : Prop where
  f : D.fit 18 d = true
  f4 : D.fit 38 d = true
  p : d.plain = true
theorem nice_t {l : List T3} : Nice (.tup (l.map tD)) := ⟨by simp [fits_map (fit_tD _)], by simp [fits_map (fit_tD _)], by simp⟩
theorem nice_i (i : Int) : Nice (.int i) := ⟨by simp, by simp, by simp⟩
theorem fit_str (n : Nat) (x : PySem.Str) (h : x.cps.all (· < 1114112) = true) : D.fit n (.str x) = true := by cases n <;> exact h
@[simp] theorem tryF_ok {S : Type} (cs : List Nat) (rr : IXp) (a : Fl) (s : S) : tryF cs rr (.ok a s) = .ok a s := (rfl)
theorem tryF_ex {S : Type} {cs : List Nat} {rr : IXp} {c : Nat} {ns : List PySem.Str} {fs : List D} {d : D} (s : S) (hc : cs.contains c = true) (h : xpD c ns fs rr = some d) : tryF cs rr (.ex (.mk c ns fs) s) = .ok (.rt d) s := by
  unfold tryF; simp only; rw [if_pos hc, h]
theorem rngD_0 (n : Nat) (h : n < 1000000) : rngD 0 n = some ((List.range n).map fun k : Nat => D.int k) := by
  unfold rngD
  have a : rngOk 0 = true := by decide
  have b : rngOk n = true := decide_eq_true (by omega)
  rw [a, b]
  simp
/-! from K4g -/
theorem rng4 : rngD 0 4 = some [.int 0, .int 1, .int 2, .int 3] := (rfl)
theorem rngD_i {n : Int} (h : 0 ≤ n ∧ n < 1000000) : rngD 0 n = some ((List.range n.toNat).map fun k : Nat => D.int k) := by
  have e : ((n.toNat : Nat) : Int) = n := by omega
  have := rngD_0 n.toNat (by omega)
  rwa [e] at this
@[simp] theorem addD_tp (p : P2) (m : Int) : addD (pD p) (.tup [.int m]) = some (tD (p.1, p.2, m)) := (rfl)
theorem atD_nat (l : List D) (k : Nat) (h : k < l.length) : atD l (k : Int) = l[k]? := by
  unfold atD; rw [ixN_of ⟨by omega, by omega⟩]; rfl
/-- a drawn stock -/
structure Drawn (Q : List P2) (l : List T3) : Prop where
  len : l.length ≤ 4
  mem : ∀ t ∈ l, t.p ∈ Q
  pos : ∀ t ∈ l, 1 ≤ t.m
  big : ∀ t ∈ l, t.m < 10000000000000000000000000000000000000000
theorem Drawn.wf {Q : List P2} {l : List T3} (h : Drawn Q l) : Wf Q l := ⟨by have := h.len; omega, h.mem, h.pos⟩
/-! from K4h -/
/-! ### the law's own settled form -/
def rowF (f : P2 → Int) : List P2 → List T3 → List T3
  | [], acc => acc
  | p :: r, acc => rowF f r (if 0 < f p ∧ (p.1, p.2, f p) ∉ acc then acc ++ [(p.1, p.2, f p)] else acc)
theorem rowF_app (f : P2 → Int) : ∀ l r acc, rowF f (l ++ r) acc = rowF f r (rowF f l acc)
  | [], _, _ => rfl
  | p :: l, r, acc => by rw [List.cons_append, rowF, rowF, rowF_app f l r]
theorem rowF_nodup (f : P2 → Int) : ∀ l acc, acc.Nodup → (rowF f l acc).Nodup
  | [], _, h => h
  | p :: l, acc, h => by
    rw [rowF]
    refine rowF_nodup f l _ ?_
    split
    · rename_i c
      refine List.nodup_append.mpr ⟨h, by simp, fun a ha b hb e => ?_⟩
      rw [List.mem_singleton.mp hb] at e
      exact c.2 (e ▸ ha)
    · exact h
theorem rowF_mem (f : P2 → Int) : ∀ (l : List P2) (acc : List T3) (t : T3), t ∈ rowF f l acc ↔ t ∈ acc ∨ (t.p ∈ l ∧ t.m = f t.p ∧ 0 < t.m)
  | [], acc, t => by simp [rowF]
  | p :: l, acc, t => by
    rw [rowF, rowF_mem f l]
    have key : t.p = p → t.m = f t.p → t = (p.1, p.2, f p) := by
      rintro rfl e
      obtain ⟨a, b, c⟩ := t
      simp only [T3.p, T3.m] at e ⊢
      rw [← e]
    constructor
    · rintro (h | h)
      · split at h
        · rename_i c
          rcases List.mem_append.mp h with h | h
          · exact .inl h
          · rw [List.mem_singleton.mp h]; exact .inr ⟨by simp [T3.p], rfl, c.1⟩
        · exact .inl h
      · exact .inr ⟨by simp [h.1], h.2⟩
    · rintro (h | ⟨h1, h2, h3⟩)
      · left; split
        · simp [h]
        · exact h
      · rcases List.mem_cons.mp h1 with e | h1
        · left
          have e2 := key e h2
          by_cases c : (p.1, p.2, f p) ∈ acc
          · rw [if_neg (fun w => w.2 c), e2]; exact c
          · have hp : 0 < f p := by rw [e] at h2; omega
            rw [if_pos ⟨hp, c⟩, e2]; simp
        · exact .inr ⟨h1, h2, h3⟩
theorem rowF_len (f : P2 → Int) : ∀ l acc, (rowF f l acc).length ≤ acc.length + l.length
  | [], _ => by simp [rowF]
  | p :: l, acc => by
    rw [rowF]
    have := rowF_len f l (if 0 < f p ∧ (p.1, p.2, f p) ∉ acc then acc ++ [(p.1, p.2, f p)] else acc)
    have h2 : (if 0 < f p ∧ (p.1, p.2, f p) ∉ acc then acc ++ [(p.1, p.2, f p)] else acc).length ≤ acc.length + 1 := by split <;> simp
    simp only [List.length_cons]; omega
def stl (f : P2 → Int) (Q : List P2) : List T3 := isort lt3 (rowF f Q [])
theorem stl_mem {f : P2 → Int} {Q : List P2} {t : T3} : t ∈ stl f Q ↔ t.p ∈ Q ∧ t.m = f t.p ∧ 0 < t.m := by
  unfold stl; rw [(isortB_perm lt3 _).mem_iff, rowF_mem]; simp
theorem stl_canon (f : P2 → Int) (Q : List P2) : Canon (stl f Q) := by
  refine ⟨?_, fun t ht => by have := (stl_mem.mp ht).2.2; omega⟩
  have hs : (stl f Q).Pairwise (fun a b => lt3 a b = true) := isort_strict lt3Ord (rowF_nodup f Q [] .nil)
  refine List.Pairwise.imp_of_mem ?_ hs
  intro t u ht hu h
  have a := stl_mem.mp ht
  have b := stl_mem.mp hu
  cases e : ltP t.p u.p with
  | true => rfl
  | false =>
    exfalso
    cases e2 : ltP u.p t.p with
    | true => rw [lt3Ord.asym (lt3_of_ltP e2)] at h; cases h
    | false =>
      have e3 := ltPOrd.tot _ _ e e2
      have : t = u := by
        obtain ⟨x, y, z⟩ := t; obtain ⟨x', y', z'⟩ := u
        have a2 := a.2.1; have b2 := b.2.1
        simp only [T3.p, T3.m, Prod.mk.injEq] at *
        obtain ⟨rfl, rfl⟩ := e3
        exact ⟨rfl, rfl, by omega⟩
      rw [this, lt3Ord.irr] at h; cases h
theorem stl_tot {f : P2 → Int} {Q : List P2} (h1 : ∀ p, p ∉ Q → f p = 0) (h2 : ∀ p, 0 ≤ f p) (p : P2) : tot p (stl f Q) = f p := by
  by_cases z : f p = 0
  · rw [z]
    refine tot_none fun t ht e => ?_
    have := stl_mem.mp ht
    rw [e] at this; omega
  · have hp : p ∈ Q := Classical.byContradiction fun c => z (h1 p c)
    have := h2 p
    have := (stl_canon f Q).tot_mem (t := (p.1, p.2, f p)) (stl_mem.mpr ⟨hp, rfl, by show 0 < f p; omega⟩)
    exact this
theorem tot_out {Q : List P2} {l : List T3} (h : ∀ t ∈ l, t.p ∈ Q) (p : P2) (hp : p ∉ Q) : tot p l = 0 := tot_none fun t ht e => hp (e ▸ h t ht)
theorem Wf.t0 {Q : List P2} {l : List T3} (h : Wf Q l) (p : P2) : 0 ≤ tot p l := tot_nonneg fun t ht => by have := h.pos t ht; omega
/-- the settled form of what has these totals -/
theorem mrg_stl {Q : List P2} {l : List T3} {f : P2 → Int} (h1 : ∀ p, p ∉ Q → f p = 0) (h2 : ∀ p, 0 ≤ f p) (h : ∀ p, tot p l = f p) : mrg l = stl f Q :=
  mrg_of (stl_canon f Q) fun p => by rw [h, stl_tot h1 h2]
theorem stl_wf {f : P2 → Int} {Q : List P2} (hQ : QOk Q) : Wf Q (stl f Q) := ⟨by
    unfold stl; rw [(isortB_perm lt3 _).length_eq]
    have := rowF_len f Q []
    have := hQ.len
    simp at *; omega, fun t ht => (stl_mem.mp ht).1, fun t ht => by have := (stl_mem.mp ht).2.2; omega⟩
theorem sort_tD {l : List T3} (h1 : l.length < 64) (h2 : ∀ t ∈ l, 0 ≤ t.1 ∧ 0 ≤ t.2.1 ∧ 0 ≤ t.2.2) : sortD (l.map tD) = some (.lst ((isort lt3 l).map tD)) := by
  have e : l.map tD = (l.map row3).map D.row := by rw [List.map_map]; rfl
  rw [e, sortD_rows (n := 3) (by simpa using h1) (by omega), isort_map (lt := lt3) (f := row3) (fun a b => rfl), List.map_map]
  · rfl
  · intro r hr
    obtain ⟨p, hp, rfl⟩ := List.mem_map.mp hr
    refine ⟨rfl, fun i hi => ?_⟩
    obtain ⟨a, b, c⟩ := h2 p hp
    simp only [row3, List.mem_cons, List.not_mem_nil, or_false] at hi
    rcases hi with rfl | rfl | rfl <;> assumption
theorem inD_tD (t : T3) (l : List T3) : inD (tD t) (.lst (l.map tD)) = some (decide (t ∈ l)) := by
  have e1 : D.fit 40 (tD t) = true := fit_tD 39 t
  have e2 : D.fit 40 (.lst (l.map tD)) = true := by rw [fit_l]; exact fits_map (fit_tD _) l
  show (if ((tD t).scalar && (l.map tD).all D.scalar) || (D.fit 40 (tD t) && D.fit 40 (.lst (l.map tD))) then some ((l.map tD).any fun y => D.eqv y (tD t)) else none) = _
  rw [if_pos (by rw [e1, e2]; simp)]
  congr 1
  rw [Bool.eq_iff_iff, List.any_eq_true]
  simp only [decide_eq_true_eq]
  constructor
  · rintro ⟨d, hd, e⟩
    obtain ⟨u, hu, rfl⟩ := List.mem_map.mp hd
    rw [eqv_tD, decide_eq_true_eq] at e
    exact e ▸ hu
  · intro h; exact ⟨tD t, List.mem_map.mpr ⟨t, h, rfl⟩, by rw [eqv_tD]; simp⟩
theorem zip_map_self {α β γ : Type} (f : α → β) (g : α → γ) : ∀ l : List α, (l.map f).zip (l.map g) = l.map fun x => (f x, g x)
  | [] => rfl
  | x :: l => by rw [List.map_cons, List.map_cons, List.zip_cons_cons, zip_map_self f g l]; rfl
theorem zipD_map {α : Type} (f g : α → D) (l : List α) : zipD (.lst (l.map f)) (.lst (l.map g)) = some (l.map fun x => .tup [f x, g x]) := by
  show some _ = some _
  rw [zip_map_self, List.map_map]; rfl
theorem ints_mapf {α : Type} (f : α → Int) (l : List α) : D.ints (l.map fun x => .int (f x)) = some (l.map f) := by
  have := ints_map (l.map f); rw [List.map_map] at this; exact this
theorem min_lt : ∀ (r : List Int) (i : Int), r.foldl (fun a b => if b < a then b else a) i < 0 ↔ i < 0 ∨ ∃ x ∈ r, x < 0
  | [], i => by simp
  | x :: r, i => by
    rw [List.foldl_cons, min_lt r]
    constructor
    · rintro (h | ⟨y, hy, h⟩)
      · split at h
        · exact .inr ⟨x, by simp, h⟩
        · exact .inl h
      · exact .inr ⟨y, by simp [hy], h⟩
    · rintro (h | ⟨y, hy, h⟩)
      · left; split <;> omega
      · rcases List.mem_cons.mp hy with rfl | hy
        · left; split <;> omega
        · exact .inr ⟨y, hy, h⟩
theorem min1_lt {l : List Int} (h : l ≠ []) : ∃ m : Int, min1F [.lst (l.map D.int)] = some (.int m) ∧ (m < 0 ↔ ∃ x ∈ l, x < 0) := by
  cases l with
  | nil => exact absurd rfl h
  | cons i r =>
    refine ⟨r.foldl (fun a b => if b < a then b else a) i, ?_, ?_⟩
    · have e := ints_map (i :: r)
      simp only [min1F]; rw [e]
    · rw [min_lt]; simp
theorem sum_fm {p : P2} : ∀ l : List T3, (l.filterMap fun t : T3 => if t.p = p then some (t.m) else none).sum = tot p l
  | [] => rfl
  | t :: l => by
    rw [List.filterMap_cons, tot]
    by_cases c : t.p = p
    · simp only [c, if_true, List.sum_cons]; rw [sum_fm l]
    · simp only [c, if_false]; rw [sum_fm l]; omega
/-! from K4i -/
theorem Wf.rev {Q : List P2} {l : List T3} (h : Wf Q l) : Wf Q l.reverse := ⟨by simpa using h.len, fun t ht => h.mem t (by simpa using ht), fun t ht => h.pos t (by simpa using ht)⟩
theorem tot_rev (p : P2) (l : List T3) : tot p l.reverse = tot p l := tot_perm p (List.reverse_perm l)
/-! from K4j -/
theorem sumM_nn : ∀ {l : List T3}, (∀ t ∈ l, 1 ≤ t.m) → 0 ≤ sumM l
  | [], _ => Int.le_refl 0
  | t :: l, h => by
    have := h t (by simp)
    have := sumM_nn (l := l) fun u hu => h u (by simp [hu])
    rw [sumM]; omega
theorem takeF_zero : ∀ {l : List T3}, (∀ t ∈ l, 1 ≤ t.m) → takeF l 0 = []
  | [], _ => rfl
  | t :: l, h => by
    have h1 := h t (by simp)
    have e : mn t.m 0 = 0 := by unfold mn; split <;> omega
    rw [takeF, e, if_neg (by omega), Int.sub_self, takeF_zero fun u hu => h u (by simp [hu])]; rfl
theorem takeF_mem {l : List T3} : ∀ {n : Int} {t : T3}, t ∈ takeF l n → 0 < t.m ∧ ∃ u ∈ l, u.p = t.p := by
  induction l with
  | nil => intro n t h; simp [takeF] at h
  | cons u l ih =>
    intro n t h
    rw [takeF] at h
    rcases List.mem_append.mp h with h | h
    · split at h
      · rename_i c
        rw [List.mem_singleton.mp h]
        exact ⟨c, u, by simp, rfl⟩
      · cases h
    · obtain ⟨a, v, hv, e⟩ := ih h
      exact ⟨a, v, by simp [hv], e⟩
theorem takeF_wf {Q : List P2} {l : List T3} (h : Wf Q l) (n : Int) : Wf Q (takeF l n) :=
  ⟨Nat.le_trans (takeF_len l n) h.len, fun t ht => by
    obtain ⟨_, u, hu, e⟩ := takeF_mem ht
    exact e ▸ h.mem u hu, fun t ht => by have := (takeF_mem ht).1; omega⟩
theorem takeF_sum : ∀ {l : List T3} {n : Int}, (∀ t ∈ l, 1 ≤ t.m) → 0 ≤ n → n ≤ sumM l → sumM (takeF l n) = n
  | [], n, _, h1, h2 => by
    have : sumM ([] : List T3) = 0 := rfl
    have e : sumM (takeF [] n) = 0 := rfl
    omega
  | t :: l, n, h, h1, h2 => by
    have ht := h t (by simp)
    have hs := mn_spec t.m n
    have h0 := sumM_nn (l := l) fun u hu => h u (by simp [hu])
    have e2 : sumM (t :: l) = t.m + sumM l := rfl
    have ih := takeF_sum (l := l) (n := n - mn t.m n) (fun u hu => h u (by simp [hu])) (by omega) (by omega)
    rw [takeF, sumM_append, ih]
    by_cases c : 0 < mn t.m n
    · rw [if_pos c]
      show mn t.m n + 0 + _ = _
      omega
    · rw [if_neg c]
      show 0 + _ = _
      omega
theorem takeF_all : ∀ {l : List T3}, (∀ t ∈ l, 1 ≤ t.m) → takeF l (sumM l) = l
  | [], _ => rfl
  | t :: l, h => by
    have ht := h t (by simp)
    have h0 := sumM_nn (l := l) fun u hu => h u (by simp [hu])
    have e2 : sumM (t :: l) = t.m + sumM l := rfl
    have e : mn t.m (sumM (t :: l)) = t.m := by unfold mn; rw [if_neg (by omega)]
    rw [takeF, e, if_pos (by omega), e2, show t.m + sumM l - t.m = sumM l by omega, takeF_all fun u hu => h u (by simp [hu])]
    rfl
theorem takeF_le (p : P2) : ∀ {l : List T3} {n : Int}, (∀ t ∈ l, 1 ≤ t.m) → tot p (takeF l n) ≤ tot p l
  | [], n, _ => by rw [takeF]; exact Int.le_refl _
  | t :: l, n, h => by
    have ht := h t (by simp)
    have ih := takeF_le p (l := l) (n := n - mn t.m n) fun u hu => h u (by simp [hu])
    have hs := mn_spec t.m n
    rw [takeF, tot_append, tot]
    by_cases c : 0 < mn t.m n
    · rw [if_pos c]
      by_cases e : t.p = p
      · have : tot p [((t.1, t.2.1, mn t.m n) : T3)] = mn t.m n := by
          show (if t.p = p then mn t.m n else 0) + 0 = _
          rw [if_pos e]; omega
        rw [if_pos e]; omega
      · have : tot p [((t.1, t.2.1, mn t.m n) : T3)] = 0 := by
          show (if t.p = p then mn t.m n else 0) + 0 = _
          rw [if_neg e]; rfl
        rw [if_neg e]; omega
    · rw [if_neg c]
      have : tot p [] = 0 := rfl
      split <;> omega
def mx (i j : Int) : Int := if j > i then j else i
@[simp] theorem max2F_mx (i j : Int) : max2F [.int i, .int j] = some (.int (mx i j)) := (rfl)
theorem leftF_eq : ∀ (l : List T3) {n : Int}, (∀ t ∈ l, 1 ≤ t.m) → 0 ≤ n → leftF l n = mx 0 (n - sumM l)
  | [], n, _, h => by
    have : sumM ([] : List T3) = 0 := rfl
    unfold leftF mx; rw [this]; split <;> omega
  | t :: l, n, h, hn => by
    have ht := h t (by simp)
    have hs := mn_spec t.m n
    have h0 := sumM_nn (l := l) fun u hu => h u (by simp [hu])
    have e2 : sumM (t :: l) = t.m + sumM l := rfl
    rw [leftF, leftF_eq l (fun u hu => h u (by simp [hu])) (by omega), e2]
    unfold mx
    split <;> split <;> omega
/-! from K4k -/
theorem rng3 : rngD 0 3 = some [.int 0, .int 1, .int 2] := (rfl)
theorem canon_unique_nil : mrg [] = [] := rfl
/-! a comprehension whose turns draw; a loop whose turns go on -/
theorem turns_ex {S α β : Type} {f : D → S → R S (Option D)} {enc : α → D} {e : β → D} (I : S → Prop) (P : β → Prop) : ∀ (l : List α) (acc : List D) (s : S), I s → (∀ x ∈ l, ∀ s, I s → ∃ b s', f (enc x) s = .ok (some (e b)) s' ∧ P b ∧ I s') → acc.length + l.length ≤ L →
    ∃ (bs : List β) (s' : S), turns f (l.map enc) acc s = .ok (acc ++ bs.map e) s' ∧ bs.length = l.length ∧ (∀ b ∈ bs, P b) ∧ I s'
  | [], acc, s, i, _, _ => ⟨[], s, by simp [turns], rfl, by simp, i⟩
  | x :: l, acc, s, i, hf, hl => by
    have hl' : acc.length + (l.length + 1) ≤ L := by simpa using hl
    obtain ⟨b, s1, h1, p1, i1⟩ := hf x (by simp) s i
    obtain ⟨bs, s2, h2, n2, p2, i2⟩ := turns_ex I P l (acc ++ [e b]) s1 i1 (fun y hy => hf y (by simp [hy])) (by simp; omega)
    refine ⟨b :: bs, s2, ?_, by simp [n2], ?_, i2⟩
    · rw [List.map_cons, turns, h1]
      simp only
      rw [if_pos (by omega), h2]
      simp
    · intro c hc
      rcases List.mem_cons.mp hc with rfl | hc
      · exact p1
      · exact p2 c hc
/-- each kind once -/
def ones (l : List P2) : List T3 := l.map fun p => (p.1, p.2, 1)
theorem ones_app (l r : List P2) : ones (l ++ r) = ones l ++ ones r := List.map_append
theorem ones_sum : ∀ l : List P2, sumM (ones l) = l.length
  | [] => rfl
  | p :: l => by
    have := ones_sum l
    show T3.m (p.1, p.2, 1) + sumM (ones l) = _
    rw [this, List.length_cons]
    show (1 : Int) + _ = _
    omega
theorem ones_tot (q : P2) : ∀ l : List P2, tot q (ones l) = ((l.filterMap fun p => if p = q then some (pD p) else none).length : Int)
  | [] => rfl
  | p :: l => by
    have := ones_tot q l
    have e : tot q (ones (p :: l)) = (if p = q then 1 else 0) + tot q (ones l) := rfl
    rw [e, this]
    by_cases c : p = q
    · simp only [List.filterMap_cons, if_pos c, List.length_cons]; omega
    · simp only [List.filterMap_cons, if_neg c]; omega
theorem ones_nn (q : P2) (l : List P2) : 0 ≤ tot q (ones l) := tot_nonneg fun t ht => by
  obtain ⟨p, _, rfl⟩ := List.mem_map.mp ht
  exact (by decide : (0 : Int) ≤ 1)
theorem eq_pD (p q : P2) : cmpD .eq (pD p) (pD q) = some (decide (p = q)) := by
  have a := fit_pD 39 p
  have b := fit_pD 39 q
  have e := eqv_pD p q
  show (if (D.fit 40 (pD p) && D.fit 40 (pD q)) = true then some (D.eqv (pD p) (pD q)) else none) = _
  rw [a, b, e]; rfl
theorem forS_inv2 {S α : Type} {f : D → Env → S → R S Fl} {enc : α → D} (I : Env → S → Prop) : ∀ (l : List α) (ρ : Env) (s : S), I ρ s →
    (∀ x ∈ l, ∀ ρ s, I ρ s → ∃ ρ' s', (f (enc x) ρ s = .ok (.nx ρ') s' ∨ f (enc x) ρ s = .ok (.ct ρ') s') ∧ I ρ' s') →
    ∃ ρ' s', forS f (l.map enc) ρ s = .ok (.nx ρ') s' ∧ I ρ' s'
  | [], ρ, s, h, _ => ⟨ρ, s, by simp [forS], h⟩
  | x :: l, ρ, s, h, st => by
    obtain ⟨ρ1, s1, e, i1⟩ := st x (by simp) ρ s h
    obtain ⟨ρ2, s2, e2, i2⟩ := forS_inv2 I l ρ1 s1 i1 fun y hy => st y (by simp [hy])
    refine ⟨ρ2, s2, ?_, i2⟩
    rw [List.map_cons, forS]
    rcases e with e | e <;> rw [e] <;> exact e2

/-- a loop that goes through items in turn and leaves by return at the first bad one; nothing is drawn -/
theorem forS_scan {S : Type} {f : D → Env → S → R S Fl} (P : Nat → Prop) (Q : D → Prop) (I : Nat → Env → Prop) (s : S) : ∀ (items : List D) (k : Nat) (ρ : Env), I k ρ → (∀ j < k, P j) →
    (∀ j d ρ, items[j]? = some d → I (k + j) ρ → (∀ i < k + j, P i) → (P (k + j) ∧ ∃ ρ', f d ρ s = .ok (.nx ρ') s ∧ I (k + j + 1) ρ') ∨ (¬ P (k + j) ∧ ∃ r, f d ρ s = .ok (.rt r) s ∧ Q r)) →
    ((∀ j < k + items.length, P j) ∧ ∃ ρ', forS f items ρ s = .ok (.nx ρ') s ∧ I (k + items.length) ρ') ∨ ((∃ j < k + items.length, ¬ P j) ∧ ∃ r, forS f items ρ s = .ok (.rt r) s ∧ Q r)
  | [], k, ρ, i, h, _ => .inl ⟨h, ρ, rfl, i⟩
  | d :: items, k, ρ, i, h, st => by
    rcases st 0 d ρ rfl i h with ⟨p, ρ1, e, i1⟩ | ⟨p, r, e, q⟩
    · have := forS_scan P Q I s items (k + 1) ρ1 i1 (fun j hj => by
        rcases Nat.lt_or_ge j k with c | c
        · exact h j c
        · have : j = k := by omega
          exact this ▸ p) (fun j d' ρ' hd i' h' => by
        have e1 : k + 1 + j = k + (j + 1) := by omega
        rw [e1] at i' h' ⊢
        exact st (j + 1) d' ρ' (by simpa using hd) i' h')
      have e2 : k + 1 + items.length = k + (d :: items).length := by simp; omega
      rw [e2] at this
      rcases this with ⟨h1, ρ', h2, h3⟩ | ⟨h1, r, h2, h3⟩
      · refine .inl ⟨h1, ρ', ?_, h3⟩
        rw [forS, e]; exact h2
      · refine .inr ⟨h1, r, ?_, h3⟩
        rw [forS, e]; exact h2
    · refine .inr ⟨⟨k, by simp, p⟩, r, ?_, q⟩
      rw [forS, e]; rfl
end Ev
end
section
set_option linter.all false
set_option maxHeartbeats 4000000
/-! Gen5: small trees of plain data, their checks, what is shown of them; loops that leave at the first fault. Pure. -/
namespace Ev
open PySem (Str)
local instance gI : StOps SL := slOps
section
/-! from K0a -/
/-! trees of plain data, small ones -/
mutual
/-- how many parts -/
def siz : D → Nat
  | .tup l => sizs l + 1
  | .lst l => sizs l + 1
  | _ => 1
def sizs : List D → Nat
  | [] => 0
  | d :: r => siz d + sizs r
end
mutual
/-- ints of at most 250 places in base two, strings of at most 20 signs -/
def sml : D → Bool
  | .int i => decide (i.natAbs < 2 ^ 250)
  | .str x => decide (x.length ≤ 20)
  | .tup l => smls l
  | .lst l => smls l
  | _ => true
def smls : List D → Bool
  | [] => true
  | d :: r => sml d && smls r
end
@[simp] theorem siz_t (l : List D) : siz (.tup l) = sizs l + 1 := (rfl)
@[simp] theorem siz_l (l : List D) : siz (.lst l) = sizs l + 1 := (rfl)
@[simp] theorem siz_i (i : Int) : siz (.int i) = 1 := (rfl)
@[simp] theorem siz_b (i : Bool) : siz (.bl i) = 1 := (rfl)
@[simp] theorem siz_s (i : Str) : siz (.str i) = 1 := (rfl)
@[simp] theorem siz_n : siz .non = 1 := (rfl)
@[simp] theorem sizs_n : sizs [] = 0 := (rfl)
@[simp] theorem sizs_c (d : D) (l : List D) : sizs (d :: l) = siz d + sizs l := (rfl)
@[simp] theorem sml_t (l : List D) : sml (.tup l) = smls l := (rfl)
@[simp] theorem sml_l (l : List D) : sml (.lst l) = smls l := (rfl)
@[simp] theorem smls_n : smls [] = true := (rfl)
@[simp] theorem smls_c (d : D) (l : List D) : smls (d :: l) = (sml d && smls l) := (rfl)
theorem siz_pos : ∀ d : D, 1 ≤ siz d := by intro d; cases d <;> first | exact Nat.le_refl _ | exact Nat.le_add_left _ _
theorem sizs_app : ∀ l r : List D, sizs (l ++ r) = sizs l + sizs r
  | [], r => by simp
  | d :: l, r => by simp [sizs_app l r]; omega
theorem smls_app : ∀ l r : List D, smls (l ++ r) = (smls l && smls r)
  | [], r => by simp
  | d :: l, r => by simp [smls_app l r, Bool.and_assoc]
theorem fits_app (n : Nat) : ∀ l r : List D, fits n (l ++ r) = (fits n l && fits n r)
  | [], r => by simp
  | d :: l, r => by simp [fits_app n l r, Bool.and_assoc]
theorem smls_mem : ∀ {l : List D}, smls l = true → ∀ d ∈ l, sml d = true
  | [], _, d, h => by simp at h
  | e :: l, hs, d, h => by
    have h2 : sml e = true ∧ smls l = true := by simpa using hs
    rcases List.mem_cons.mp h with rfl | h
    · exact h2.1
    · exact smls_mem h2.2 d h
theorem sizs_mem : ∀ {l : List D}, ∀ d ∈ l, siz d ≤ sizs l
  | [], d, h => by simp at h
  | e :: l, d, h => by
    rcases List.mem_cons.mp h with rfl | h
    · simp
    · have := sizs_mem d h; simp; omega
theorem sizs_len : ∀ l : List D, l.length ≤ sizs l
  | [] => by simp
  | d :: l => by have := sizs_len l; have := siz_pos d; simp; omega
theorem smls_of : ∀ {l : List D}, (∀ d ∈ l, sml d = true) → smls l = true
  | [], _ => rfl
  | e :: l, h => by
    rw [smls_c, h e (by simp), smls_of fun d hd => h d (by simp [hd])]; rfl
theorem fits_of {n : Nat} : ∀ {l : List D}, (∀ d ∈ l, D.fit n d = true) → fits n l = true
  | [], _ => by simp
  | e :: l, h => by
    rw [fits_c, h e (by simp), fits_of fun d hd => h d (by simp [hd])]; rfl
/-- a small tree: depth n at most, k parts at most -/
structure Nic (n k : Nat) (d : D) : Prop where
  f : D.fit n d = true
  m : sml d = true
  z : siz d ≤ k
theorem Nic.tup {n k : Nat} {l : List D} (h : Nic (n + 1) k (.tup l)) : ∀ d ∈ l, Nic n k d := fun d hd =>
  ⟨fits_mem (by simpa using h.f) d hd, smls_mem (by simpa using h.m) d hd, by have := sizs_mem d hd; have := h.z; simp at this; omega⟩
theorem Nic.lst {n k : Nat} {l : List D} (h : Nic (n + 1) k (.lst l)) : ∀ d ∈ l, Nic n k d := fun d hd =>
  ⟨fits_mem (by simpa using h.f) d hd, smls_mem (by simpa using h.m) d hd, by have := sizs_mem d hd; have := h.z; simp at this; omega⟩
theorem Nic.len {n k : Nat} {l : List D} (h : Nic n k (.tup l)) : l.length ≤ k := by
  have := sizs_len l; have := h.z; simp at this; omega
theorem Nic.up {n k : Nat} {d : D} (h : Nic n k d) : Nic (n + 1) k d := ⟨fit_up _ _ h.f, h.m, h.z⟩
theorem fit_le {n m : Nat} {d : D} (h : n ≤ m) (f : D.fit n d = true) : D.fit m d = true := by
  induction h with
  | refl => exact f
  | step _ ih => exact fit_up _ _ ih
/-- what a tree is -/
theorem Nic.cases {n k : Nat} {d : D} (h : Nic n k d) : (∃ i, d = .int i) ∨ (∃ b, d = .bl b) ∨ d = .non ∨ (∃ x, d = .str x) ∨ (∃ l, d = .tup l) ∨ (∃ l, d = .lst l) := by
  have f := h.f
  cases d with
  | int i => exact .inl ⟨i, rfl⟩
  | bl b => exact .inr (.inl ⟨b, rfl⟩)
  | non => exact .inr (.inr (.inl rfl))
  | str x => exact .inr (.inr (.inr (.inl ⟨x, rfl⟩)))
  | tup l => exact .inr (.inr (.inr (.inr (.inl ⟨l, rfl⟩))))
  | lst l => exact .inr (.inr (.inr (.inr (.inr ⟨l, rfl⟩))))
  | st _ => cases n <;> simp [D.fit] at f
  | dct _ _ _ => cases n <;> simp [D.fit] at f
  | ins _ _ => cases n <;> simp [D.fit] at f
  | rep _ => cases n <;> simp [D.fit] at f
theorem Nic.int {n k : Nat} {i : Int} (h : Nic n k (.int i)) : i.natAbs < 2 ^ 250 := by
  have := h.m
  exact of_decide_eq_true this
theorem Nic.bits {n k m q : Nat} {i j : Int} (h : Nic n k (.int i)) (g : Nic m q (.int j)) : bitsOk i j = true := by
  have := h.int; have := g.int
  refine decide_eq_true (.inr (.inr ?_))
  have l1 : i.natAbs.log2 < 251 := by
    rcases Nat.eq_zero_or_pos i.natAbs with z | p
    · rw [z]; decide
    · exact (Nat.log2_lt (by omega)).mpr (Nat.lt_trans ‹i.natAbs < 2 ^ 250› (by decide))
  have l2 : j.natAbs.log2 < 251 := by
    rcases Nat.eq_zero_or_pos j.natAbs with z | p
    · rw [z]; decide
    · exact (Nat.log2_lt (by omega)).mpr (Nat.lt_trans ‹j.natAbs < 2 ^ 250› (by decide))
  omega
theorem Nic.div {n k : Nat} {i : Int} (h : Nic n k (.int i)) (p : 0 < i) : divOk i = true := by
  have := h.int
  refine decide_eq_true ⟨p, ?_⟩
  have : i.natAbs.log2 < 251 := (Nat.log2_lt (by omega)).mpr (Nat.lt_trans ‹i.natAbs < 2 ^ 250› (by decide))
  omega
/-! ### what the checkers ask -/
def PI : D → Prop | .int _ => True | _ => False
def PN : D → Prop | .int i => 0 ≤ i | _ => False
def PC (m : Int) : D → Prop | .int i => m ≤ i | _ => False
def PT (m : Nat) : D → Prop | .tup l => l.length = m | _ => False
instance : DecidablePred PI := fun d => by cases d <;> unfold PI <;> infer_instance
instance : DecidablePred PN := fun d => by cases d <;> unfold PN <;> infer_instance
instance (m : Int) : DecidablePred (PC m) := fun d => by cases d <;> unfold PC <;> infer_instance
instance (m : Nat) : DecidablePred (PT m) := fun d => by cases d <;> unfold PT <;> infer_instance
@[simp] theorem PI_i (i : Int) : PI (.int i) ↔ True := Iff.rfl
@[simp] theorem PI_b (i : Bool) : PI (.bl i) ↔ False := Iff.rfl
@[simp] theorem PI_n : PI .non ↔ False := Iff.rfl
@[simp] theorem PI_s (i : Str) : PI (.str i) ↔ False := Iff.rfl
@[simp] theorem PI_t (l : List D) : PI (.tup l) ↔ False := Iff.rfl
@[simp] theorem PI_l (l : List D) : PI (.lst l) ↔ False := Iff.rfl
@[simp] theorem PN_i (i : Int) : PN (.int i) ↔ 0 ≤ i := Iff.rfl
@[simp] theorem PN_b (i : Bool) : PN (.bl i) ↔ False := Iff.rfl
@[simp] theorem PN_n : PN .non ↔ False := Iff.rfl
@[simp] theorem PN_s (i : Str) : PN (.str i) ↔ False := Iff.rfl
@[simp] theorem PN_t (l : List D) : PN (.tup l) ↔ False := Iff.rfl
@[simp] theorem PN_l (l : List D) : PN (.lst l) ↔ False := Iff.rfl
@[simp] theorem PC_i (m i : Int) : PC m (.int i) ↔ m ≤ i := Iff.rfl
@[simp] theorem PC_b (m : Int) (i : Bool) : PC m (.bl i) ↔ False := Iff.rfl
@[simp] theorem PC_n (m : Int)  : PC m .non ↔ False := Iff.rfl
@[simp] theorem PC_s (m : Int) (i : Str) : PC m (.str i) ↔ False := Iff.rfl
@[simp] theorem PC_t (m : Int) (l : List D) : PC m (.tup l) ↔ False := Iff.rfl
@[simp] theorem PC_l (m : Int) (l : List D) : PC m (.lst l) ↔ False := Iff.rfl
@[simp] theorem PT_i (m : Nat) (i : Int) : PT m (.int i) ↔ False := Iff.rfl
@[simp] theorem PT_b (m : Nat) (i : Bool) : PT m (.bl i) ↔ False := Iff.rfl
@[simp] theorem PT_n (m : Nat)  : PT m .non ↔ False := Iff.rfl
@[simp] theorem PT_s (m : Nat) (i : Str) : PT m (.str i) ↔ False := Iff.rfl
@[simp] theorem PT_t (m : Nat) (l : List D) : PT m (.tup l) ↔ l.length = m := Iff.rfl
@[simp] theorem PT_l (m : Nat) (l : List D) : PT m (.lst l) ↔ False := Iff.rfl
theorem PT_ex {m : Nat} {d : D} (h : PT m d) : ∃ l, d = .tup l ∧ l.length = m := by
  cases d with
  | tup l => exact ⟨l, rfl, h⟩
  | _ => exact h.elim
theorem PC_ex {m : Int} {d : D} (h : PC m d) : ∃ i, d = .int i ∧ m ≤ i := by
  cases d with
  | int l => exact ⟨l, rfl, h⟩
  | _ => exact h.elim
theorem PN_ex {d : D} (h : PN d) : ∃ i, d = .int i ∧ 0 ≤ i := by
  cases d with
  | int l => exact ⟨l, rfl, h⟩
  | _ => exact h.elim
theorem PI_ex {d : D} (h : PI d) : ∃ i, d = .int i := by
  cases d with
  | int l => exact ⟨l, rfl⟩
  | _ => exact h.elim

end
section
/-! from K0b -/

end
section
/-! from K0c -/
section
variable {S : Type} {f : D → Env → S → R S Fl} (P : Nat → Prop) (Q : D → Prop) (I : Nat → Env → Prop) (s : S)
theorem seq_scan (l : List D) (ρ : Env) (hi : I 0 ρ) (st : ∀ j d ρ, l[j]? = some d → I j ρ → (∀ i < j, P i) → (P j ∧ ∃ ρ', f d ρ s = .ok (.nx ρ') s ∧ I (j + 1) ρ') ∨ (¬ P j ∧ ∃ r, f d ρ s = .ok (.rt r) s ∧ Q r)) :
    ((∀ j < l.length, P j) ∧ ∃ ρ', forS f l ρ s = .ok (.nx ρ') s ∧ I l.length ρ') ∨ ((¬ ∀ j < l.length, P j) ∧ ∃ r, forS f l ρ s = .ok (.rt r) s ∧ Q r) := by
  have := forS_scan P Q I s l 0 ρ hi (fun j h => absurd h (Nat.not_lt_zero j)) (fun j d ρ h1 h2 h3 => by
    rw [Nat.zero_add] at h2 h3 ⊢; exact st j d ρ h1 h2 h3)
  rw [Nat.zero_add] at this
  rcases this with h | ⟨⟨j, hj, hn⟩, h⟩
  · exact .inl h
  · exact .inr ⟨fun a => hn (a j hj), h⟩
theorem enum_scan (l : List D) (ρ : Env) (hi : I 0 ρ) (st : ∀ j d ρ, l[j]? = some d → I j ρ → (∀ i < j, P i) → (P j ∧ ∃ ρ', f (.tup [.int (j : Int), d]) ρ s = .ok (.nx ρ') s ∧ I (j + 1) ρ') ∨ (¬ P j ∧ ∃ r, f (.tup [.int (j : Int), d]) ρ s = .ok (.rt r) s ∧ Q r)) :
    ((∀ j < l.length, P j) ∧ ∃ ρ', forS f (l.mapIdx fun k d => D.tup [.int (k : Int), d]) ρ s = .ok (.nx ρ') s ∧ I l.length ρ') ∨ ((¬ ∀ j < l.length, P j) ∧ ∃ r, forS f (l.mapIdx fun k d => D.tup [.int (k : Int), d]) ρ s = .ok (.rt r) s ∧ Q r) := by
  have := seq_scan P Q I s (l.mapIdx fun k d => D.tup [.int (k : Int), d]) ρ hi (fun j d ρ h1 h2 h3 => by
    rw [List.getElem?_mapIdx] at h1
    cases e : l[j]? with
    | none => rw [e] at h1; cases h1
    | some y =>
      rw [e] at h1
      rw [← Option.some.inj h1]
      exact st j y ρ e h2 h3)
  simpa using this
theorem rng_scan (m : Nat) (o : Int) (ρ : Env) (hi : I 0 ρ) (st : ∀ j ρ, j < m → I j ρ → (∀ i < j, P i) → (P j ∧ ∃ ρ', f (.int (o + (j : Int))) ρ s = .ok (.nx ρ') s ∧ I (j + 1) ρ') ∨ (¬ P j ∧ ∃ r, f (.int (o + (j : Int))) ρ s = .ok (.rt r) s ∧ Q r)) :
    ((∀ j < m, P j) ∧ ∃ ρ', forS f ((List.range m).map fun k : Nat => D.int (o + (k : Int))) ρ s = .ok (.nx ρ') s ∧ I m ρ') ∨ ((¬ ∀ j < m, P j) ∧ ∃ r, forS f ((List.range m).map fun k : Nat => D.int (o + (k : Int))) ρ s = .ok (.rt r) s ∧ Q r) := by
  have := seq_scan P Q I s ((List.range m).map fun k : Nat => D.int (o + (k : Int))) ρ hi (fun j d ρ h1 h2 h3 => by
    rcases Nat.lt_or_ge j m with c | c
    · rw [List.getElem?_map, List.getElem?_range c] at h1
      rw [← Option.some.inj h1]
      exact st j ρ c h2 h3
    · rw [List.getElem?_eq_none (by simpa using c)] at h1; cases h1)
  simpa using this
end
theorem rngD_lo {o : Int} {m : Nat} (h : 0 ≤ o ∧ o < 1000) (hm : m < 1000000) : rngD o (o + m) = some ((List.range m).map fun k : Nat => D.int (o + (k : Int))) := by
  have a : rngOk o = true := decide_eq_true (by omega)
  have b : rngOk (o + m) = true := decide_eq_true (by omega)
  unfold rngD
  rw [a, b]
  have : (o + (m : Int) - o).toNat = m := by omega
  rw [this]; rfl
/-! ### rows -/
/-- the size at k -/
def rowP (l : List D) (k : Nat) : Prop := ∃ b, l[k]? = some (.int b) ∧ 1 ≤ b ∧ (1 ≤ k → ∀ a, l[k - 1]? = some (.int a) → a < b ∧ b % a = 0)
def PRow : D → Prop
  | .tup l => l ≠ [] ∧ ∀ k < l.length, rowP l k
  | _ => False
theorem fold_iff {a b : Int} (ha : 1 ≤ a) (hb : 1 ≤ b) : (2 ≤ b / a ∧ b / a * a = b) ↔ (a < b ∧ b % a = 0) := by
  have e := Int.mul_ediv_add_emod b a
  have e2 : a * (b / a) = b / a * a := Int.mul_comm _ _
  constructor
  · rintro ⟨h1, h2⟩
    refine ⟨?_, by omega⟩
    have : 2 * a ≤ b / a * a := Int.mul_le_mul_of_nonneg_right h1 (by omega)
    omega
  · rintro ⟨h1, h2⟩
    refine ⟨?_, by omega⟩
    have h3 : a * (b / a) = b := by omega
    rcases Int.lt_or_le (b / a) 2 with c | c
    · exfalso
      have : b / a * a ≤ 1 * a := Int.mul_le_mul_of_nonneg_right (by omega) (by omega)
      omega
    · exact c

end
section
/-! from K0e -/

end
section
/-! from K0f -/
def PK (w h : Nat) : D → Prop
  | .tup [.int a, .int b] => (0 ≤ a ∧ a < w) ∧ (0 ≤ b ∧ b < h)
  | _ => False
instance (w h : Nat) : DecidablePred (PK w h) := fun d => by unfold PK; split <;> infer_instance
theorem PK_ex {w h : Nat} {d : D} (q : PK w h d) : ∃ a b, d = .tup [.int a, .int b] ∧ (0 ≤ a ∧ a < w) ∧ (0 ≤ b ∧ b < h) := by
  unfold PK at q
  split at q
  · exact ⟨_, _, rfl, q⟩
  · exact q.elim
theorem PK_tup {w h : Nat} (x y : D) : PK w h (.tup [x, y]) ↔ (PN x ∧ ¬ PC w x) ∧ (PN y ∧ ¬ PC h y) := by
  constructor
  · intro q
    obtain ⟨a, b, e, h1, h2⟩ := PK_ex q
    cases e
    exact ⟨⟨h1.1, Int.not_le.mpr h1.2⟩, ⟨h2.1, Int.not_le.mpr h2.2⟩⟩
  · rintro ⟨⟨h1, h2⟩, h3, h4⟩
    obtain ⟨a, rfl, ha⟩ := PN_ex h1
    obtain ⟨b, rfl, hb⟩ := PN_ex h3
    exact ⟨⟨ha, Int.not_le.mp h2⟩, hb, Int.not_le.mp h4⟩
theorem not_PK_of {w h : Nat} {d : D} (c : ¬ PT 2 d) : ¬ PK w h d := fun q => by
  obtain ⟨a, b, rfl, _⟩ := PK_ex q
  exact c rfl
/-- the kind at k, behind the one ahead of it -/
def kindP (w h : Nat) (l : List D) (k : Nat) : Prop := ∃ a b, l[k]? = some (.tup [.int a, .int b]) ∧ ((0 ≤ a ∧ a < w) ∧ (0 ≤ b ∧ b < h)) ∧ (1 ≤ k → ∀ a' b', l[k - 1]? = some (.tup [.int a', .int b']) → a' < a ∨ (a' = a ∧ b' < b))
def PKs (w h : Nat) (d : D) : Prop := ∃ l, d = .tup l ∧ ∀ k < l.length, kindP w h l k
def lotP (w h : Nat) (l : List D) (k : Nat) : Prop := ∃ a b c, l[k]? = some (.tup [.int a, .int b, .int c]) ∧ ((0 ≤ a ∧ a < w) ∧ (0 ≤ b ∧ b < h)) ∧ 1 ≤ c ∧ (1 ≤ k → ∀ a' b' c', l[k - 1]? = some (.tup [.int a', .int b', .int c']) → a' < a ∨ (a' = a ∧ b' < b))
def PLot (w h : Nat) (d : D) : Prop := ∃ l, d = .tup l ∧ ∀ k < l.length, lotP w h l k
theorem lex2 (a b a' b' : Int) : lexLt [a', b'] [a, b] = true ↔ a' < a ∨ (a' = a ∧ b' < b) := by
  rw [lexLt]
  split
  · rename_i c
    rw [lexLt]
    split
    · rename_i c2
      simp [lexLt]
      omega
    · simp; omega
  · simp; omega
theorem Nic.cut {n k : Nat} {x y z : D} (h : Nic n k (.tup [x, y, z])) : Nic n k (.tup [x, y]) := by
  match n, h with
  | 0, h => exact absurd h.f (by simp [D.fit])
  | n + 1, h =>
    have f := h.f
    have m := h.m
    have z := h.z
    simp at f m z
    exact ⟨by simp [f], by simp [m], by simp; omega⟩
@[simp] theorem slc3' (x y z : D) : slcD (.tup [x, y, z]) none (some 2) = some (.tup [x, y]) := (rfl)
@[simp] theorem at32 (x y z : D) : subD (.tup [x, y, z]) (.int 2) = some z := (rfl)
theorem at3 (x y z : D) : atD [x, y, z] 2 = some z := (rfl)
theorem bls_map {α : Type} (p : α → Bool) : ∀ l : List α, D.bls (l.map fun x => .bl (p x)) = some (l.map p)
  | [] => rfl
  | x :: l => by rw [List.map_cons, D.bls, bls_map p l]; rfl
theorem allF_map {α : Type} (p : α → Bool) (l : List α) : allF [.lst (l.map fun x => .bl (p x))] = some (.bl (l.all p)) := by
  show (D.bls _).map _ = _
  rw [bls_map]
  show some (D.bl ((l.map p).all id)) = _
  rw [List.all_map]; rfl

end
section
/-! from K0g -/
def kdI : D → List Int
  | .tup [.int a, .int b] => [a, b]
  | _ => []
def cut2 : D → D
  | .tup l => .tup (l.take 2)
  | d => d
theorem cmp_lt_kd {w h : Nat} {x y : D} (hx : PK w h x) (hy : PK w h y) : cmpD .lt x y = some (lexLt (kdI x) (kdI y)) := by
  obtain ⟨a, b, rfl, _⟩ := PK_ex hx
  obtain ⟨c, d, rfl, _⟩ := PK_ex hy
  rfl

end
section
/-! from K0h -/
def PSh : D → Prop
  | .tup [x, y] => PC 1 x ∧ PC 1 y
  | _ => False
def PSo : D → Prop
  | .tup [x, y, z] => (PC 1 x ∧ PC 1 y) ∧ PC 1 z
  | _ => False
instance : DecidablePred PSh := fun d => by unfold PSh; split <;> infer_instance
instance : DecidablePred PSo := fun d => by unfold PSo; split <;> infer_instance
theorem not_PSh_of {d : D} (c : ¬ PT 2 d) : ¬ PSh d := fun q => by
  unfold PSh at q
  split at q
  · exact c rfl
  · exact q
theorem not_PSo_of {d : D} (c : ¬ PT 3 d) : ¬ PSo d := fun q => by
  unfold PSo at q
  split at q
  · exact c rfl
  · exact q
@[simp] theorem PSh_t (x y : D) : PSh (.tup [x, y]) ↔ PC 1 x ∧ PC 1 y := Iff.rfl
@[simp] theorem PSo_t (x y z : D) : PSo (.tup [x, y, z]) ↔ (PC 1 x ∧ PC 1 y) ∧ PC 1 z := Iff.rfl
def PSt (d : D) : Prop := ∃ l, d = .tup l ∧ ∀ x ∈ l, PSo x
theorem not_tup_PSt {d : D} (q : ∀ l, d ≠ .tup l) : ¬ PSt d := fun ⟨l, e, _⟩ => q l e

end
section
/-! from K0i -/
theorem sIx_nat (n d : Nat) {v : Int} (k : Nat) (h : v = k) : sIx n d (some v) = min k n := by
  subst h
  unfold sIx
  simp only
  rw [if_neg (by omega)]
  rfl
theorem slc_to (l : List D) (k : Nat) (h : k ≤ l.length) : slcD (.tup l) none (some (k : Int)) = some (.tup (l.take k)) := by
  show some (D.tup ((l.drop 0).take (sIx l.length l.length (some (k : Int)) - 0))) = _
  rw [sIx_nat _ _ k rfl, List.drop_zero, Nat.sub_zero, Nat.min_eq_left h]
theorem slc_from (l : List D) (k : Nat) (h : k ≤ l.length) : slcD (.tup l) (some (k : Int)) none = some (.tup (l.drop k)) := by
  show some (D.tup ((l.drop (sIx l.length 0 (some (k : Int)))).take (l.length - sIx l.length 0 (some (k : Int))))) = _
  rw [sIx_nat _ _ k rfl, Nat.min_eq_left h]
  rw [List.take_of_length_le (by simp)]
theorem slc_mid (l : List D) (k : Nat) (h : k + 1 ≤ l.length) : slcD (.tup l) (some (k + 1 : Int)) (some (k + 2 : Int)) = some (.tup ((l.drop (k + 1)).take 1)) := by
  show some (D.tup ((l.drop (sIx l.length 0 (some (k + 1 : Int)))).take (sIx l.length l.length (some (k + 2 : Int)) - sIx l.length 0 (some (k + 1 : Int))))) = _
  rw [sIx_nat _ _ (v := (k + 1 : Int)) (k + 1) (by omega), sIx_nat _ _ (v := (k + 2 : Int)) (k + 2) (by omega), Nat.min_eq_left h]
  rcases Nat.lt_or_ge l.length (k + 2) with c | c
  · rw [Nat.min_eq_right (by omega)]
    have e : l.length = k + 1 := by omega
    rw [List.drop_of_length_le (by omega)]; simp
  · rw [Nat.min_eq_left c, show k + 2 - (k + 1) = 1 by omega]
theorem slc_from2 (l : List D) (k : Nat) (h : k + 1 ≤ l.length) : slcD (.tup l) (some (k + 2 : Int)) none = some (.tup (l.drop (k + 2))) := by
  show some (D.tup ((l.drop (sIx l.length 0 (some (k + 2 : Int)))).take (l.length - sIx l.length 0 (some (k + 2 : Int))))) = _
  rw [sIx_nat _ _ (k + 2) (by omega)]
  rcases Nat.lt_or_ge l.length (k + 2) with c | c
  · rw [Nat.min_eq_right (by omega), List.drop_of_length_le (Nat.le_refl _), List.drop_of_length_le (by omega)]; simp
  · rw [Nat.min_eq_left c, List.take_of_length_le (by simp)]
/-- an int that draws give -/
def GI (d : D) : Prop := ∃ i : Int, d = .int i ∧ i.natAbs < 2 ^ 200
/-- a tree of such ints -/
def Gd : Nat → D → Prop
  | 0, d => GI d
  | m + 1, d => GI d ∨ ∃ l, d = .tup l ∧ ∀ x ∈ l, Gd m x
def AllN (n : Nat) (l : List D) : Prop := ∀ x ∈ l, D.fit n x = true ∧ sml x = true
theorem AllN.nic {n k : Nat} {l : List D} (h : AllN n l) (hk : sizs l + 1 ≤ k) : Nic (n + 1) k (.tup l) :=
  ⟨by rw [fit_t]; exact fits_of fun d hd => (h d hd).1, by rw [sml_t]; exact smls_of fun d hd => (h d hd).2, by simpa using hk⟩
theorem AllN.nicl {n k : Nat} {l : List D} (h : AllN n l) (hk : sizs l + 1 ≤ k) : Nic (n + 1) k (.lst l) :=
  ⟨by rw [fit_l]; exact fits_of fun d hd => (h d hd).1, by rw [sml_l]; exact smls_of fun d hd => (h d hd).2, by simpa using hk⟩
theorem pow200 : (2 : Nat) ^ 200 * 4 < 2 ^ 250 := by decide
theorem GI.ok {d : D} (h : GI d) (n : Nat) : D.fit n d = true ∧ sml d = true := by
  obtain ⟨i, rfl, hi⟩ := h
  have := pow200
  exact ⟨by simp, decide_eq_true (by omega)⟩
theorem Gd.ok : ∀ {m : Nat} {d : D}, Gd m d → ∀ n, m ≤ n → D.fit n d = true ∧ sml d = true
  | 0, d, h, n, _ => GI.ok h n
  | m + 1, d, h, n, hn => by
    rcases h with h | ⟨l, rfl, h⟩
    · exact GI.ok h n
    · obtain ⟨n, rfl⟩ : ∃ k, n = k + 1 := ⟨n - 1, by omega⟩
      exact ⟨by rw [fit_t]; exact fits_of fun d hd => (Gd.ok (h d hd) n (by omega)).1, by rw [sml_t]; exact smls_of fun d hd => (Gd.ok (h d hd) n (by omega)).2⟩
theorem take_drop_siz (l : List D) (k : Nat) (h : k < l.length) : sizs (l.take k) + siz l[k] + sizs (l.drop (k + 1)) = sizs l := by
  have e : l = l.take k ++ l[k] :: l.drop (k + 1) := by rw [← List.drop_eq_getElem_cons h, List.take_append_drop]
  have := congrArg sizs e
  rw [sizs_app, sizs_c] at this
  omega
theorem lenL {a b : List D} (h : sizs a + sizs b ≤ 1000000) : a.length + b.length ≤ L := by
  have := sizs_len a; have := sizs_len b; unfold L; omega
theorem addD_t {a b : List D} (h : sizs a + sizs b ≤ 1000000) : addD (.tup a) (.tup b) = some (.tup (a ++ b)) := if_pos (lenL h)

end
section
/-! from K0j -/
structure Qn (k : Nat) (a b : Int) : Prop where
  b1 : 1 ≤ b
  bm : b.natAbs < 2 ^ k
  am : a.natAbs < 2 ^ k
  g : Nat.gcd a.natAbs b.natAbs = 1
theorem low_terms (t b : Int) (hb : 1 ≤ b) : 0 < Nat.gcd t.natAbs b.natAbs ∧ ∃ x y : Int, t = (Nat.gcd t.natAbs b.natAbs : Nat) * x ∧ b = (Nat.gcd t.natAbs b.natAbs : Nat) * y ∧ 1 ≤ y ∧ Nat.gcd x.natAbs y.natAbs = 1 ∧
    t / (Nat.gcd t.natAbs b.natAbs : Nat) = x ∧ b / (Nat.gcd t.natAbs b.natAbs : Nat) = y ∧ x.natAbs ≤ t.natAbs ∧ y.natAbs ≤ b.natAbs ∧ Nat.gcd t.natAbs b.natAbs ≤ b.natAbs := by
  have pg : 0 < Nat.gcd t.natAbs b.natAbs := Nat.gcd_pos_of_pos_right _ (by omega)
  have lg : Nat.gcd t.natAbs b.natAbs ≤ b.natAbs := Nat.le_of_dvd (by omega) (Nat.gcd_dvd_right _ _)
  obtain ⟨x, hx⟩ : ((Nat.gcd t.natAbs b.natAbs : Nat) : Int) ∣ t := Int.ofNat_dvd_left.mpr (Nat.gcd_dvd_left _ _)
  obtain ⟨y, hy⟩ : ((Nat.gcd t.natAbs b.natAbs : Nat) : Int) ∣ b := Int.ofNat_dvd_left.mpr (Nat.gcd_dvd_right _ _)
  refine ⟨pg, x, y, hx, hy, ?_⟩
  have e1 : t.natAbs = Nat.gcd t.natAbs b.natAbs * x.natAbs := by
    have := congrArg Int.natAbs hx
    rwa [Int.natAbs_mul, Int.natAbs_natCast] at this
  have e2 : b.natAbs = Nat.gcd t.natAbs b.natAbs * y.natAbs := by
    have := congrArg Int.natAbs hy
    rwa [Int.natAbs_mul, Int.natAbs_natCast] at this
  have eg : Nat.gcd t.natAbs b.natAbs = Nat.gcd t.natAbs b.natAbs * Nat.gcd x.natAbs y.natAbs := by
    have : Nat.gcd t.natAbs b.natAbs = Nat.gcd (Nat.gcd t.natAbs b.natAbs * x.natAbs) (Nat.gcd t.natAbs b.natAbs * y.natAbs) := by rw [← e1, ← e2]
    rwa [Nat.gcd_mul_left] at this
  generalize Nat.gcd t.natAbs b.natAbs = g at *
  have pg' : (g : Int) ≠ 0 := by omega
  have dx : t / g = x := by rw [hx, Int.mul_ediv_cancel_left _ pg']
  have dy : b / g = y := by rw [hy, Int.mul_ediv_cancel_left _ pg']
  have y1 : 1 ≤ y := by
    rcases Int.lt_or_le y 1 with c | c
    · exfalso
      have : (g : Int) * y ≤ g * 0 := Int.mul_le_mul_of_nonneg_left (by omega) (by omega)
      omega
    · exact c
  refine ⟨y1, ?_, dx, dy, ?_, ?_, lg⟩
  · have : g * Nat.gcd x.natAbs y.natAbs = g * 1 := by omega
    exact Nat.eq_of_mul_eq_mul_left pg this
  · rw [e1]; exact Nat.le_mul_of_pos_left _ pg
  · rw [e2]; exact Nat.le_mul_of_pos_left _ pg

end
section
/-! from K0k -/
@[simp] theorem bs_tup (s : SL) (l : List D) : bltS s .tuple [.lst l] = some (.tup l) := (rfl)
@[simp] theorem bs_tupt (s : SL) (l : List D) : bltS s .tuple [.tup l] = some (.tup l) := (rfl)
theorem sizs_le {c : Nat} : ∀ {l : List D}, (∀ x ∈ l, siz x ≤ c) → sizs l ≤ c * l.length
  | [], _ => by simp
  | d :: l, h => by
    have h1 := h d (by simp)
    have h2 := sizs_le (c := c) (l := l) fun x hx => h x (by simp [hx])
    rw [sizs_c, List.length_cons, Nat.mul_add, Nat.mul_one]; omega
theorem slcl_to (l : List D) (k : Nat) (h : k ≤ l.length) : slcD (.lst l) none (some (k : Int)) = some (.lst (l.take k)) := by
  show some (D.lst ((l.drop 0).take (sIx l.length l.length (some (k : Int)) - 0))) = _
  rw [sIx_nat _ _ k rfl, List.drop_zero, Nat.sub_zero, Nat.min_eq_left h]
def Kd (x : D) : Prop := ∃ a b : Int, x = .tup [.int a, .int b] ∧ (0 ≤ a ∧ a < 1000) ∧ (0 ≤ b ∧ b < 1000)
theorem GI_i {i : Int} (h : i.natAbs < 2 ^ 100) : GI (.int i) := ⟨i, rfl, Nat.lt_trans h (Nat.pow_lt_pow_right (by decide) (by decide))⟩
theorem Kd.g {x : D} (h : Kd x) : Gd 1 x ∧ siz x = 3 := by
  obtain ⟨a, b, rfl, h1, h2⟩ := h
  refine ⟨.inr ⟨_, rfl, ?_⟩, rfl⟩
  intro y hy
  rcases List.mem_cons.mp hy with rfl | hy
  · exact GI_i (by omega)
  · rw [List.mem_singleton.mp hy]; exact GI_i (by omega)
def K3 (x : D) : Prop := ∃ a b c : Int, x = .tup [.int a, .int b, .int c] ∧ (0 ≤ a ∧ a < 1000) ∧ (0 ≤ b ∧ b < 1000) ∧ (0 ≤ c ∧ c < 1000)
theorem K3.g {x : D} (h : K3 x) : Gd 1 x ∧ siz x = 4 := by
  obtain ⟨a, b, c, rfl, h1, h2, h3⟩ := h
  refine ⟨.inr ⟨_, rfl, ?_⟩, rfl⟩
  intro y hy
  rcases List.mem_cons.mp hy with rfl | hy
  · exact GI_i (by omega)
  rcases List.mem_cons.mp hy with rfl | hy
  · exact GI_i (by omega)
  · rw [List.mem_singleton.mp hy]; exact GI_i (by omega)

@[simp] theorem bopD_pow : bopD .pow = powD := (rfl)
theorem pow40 : powD (.int 10) (.int 40) = some (.int 10000000000000000000000000000000000000000) := by
  have h : powOk 10 40 = true := by decide
  show (if powOk 10 40 = true then some (D.int (10 ^ 40)) else none) = _
  rw [if_pos h]; rfl
theorem pow20 : powD (.int 10) (.int 20) = some (.int 100000000000000000000) := by
  have h : powOk 10 20 = true := by decide
  show (if powOk 10 20 = true then some (D.int (10 ^ 20)) else none) = _
  rw [if_pos h]; rfl

end
section
/-! from K0l -/
theorem Nic.mono {n k m j : Nat} {d : D} (h : Nic n k d) (hn : n ≤ m) (hk : k ≤ j) : Nic m j d := ⟨fit_le hn h.f, h.m, Nat.le_trans h.z hk⟩

end
section
/-! from K0m -/
theorem bt {i j : Int} (hi : i.natAbs < 2 ^ 400) (hj : j.natAbs < 2 ^ 400) : bitsOk i j = true := by
  have one : ∀ n : Nat, n < 2 ^ 400 → n.log2 < 401 := fun n h => by
    rcases Nat.eq_zero_or_pos n with z | p
    · rw [z]; decide
    · exact (Nat.log2_lt (by omega)).mpr (Nat.lt_trans h (Nat.pow_lt_pow_right (by decide) (by decide)))
  have := one _ hi
  have := one _ hj
  exact decide_eq_true (.inr (.inr (by omega)))
theorem mulB {i j : Int} (p q : Nat) (hi : i.natAbs < 2 ^ p) (hj : j.natAbs < 2 ^ q) : (i * j).natAbs < 2 ^ (p + q) := by
  rw [Int.natAbs_mul, Nat.pow_add]
  exact Nat.mul_lt_mul'' hi hj
theorem addB {i j : Int} (p : Nat) (hi : i.natAbs < 2 ^ p) (hj : j.natAbs < 2 ^ p) : (i + j).natAbs < 2 ^ (p + 1) := by
  rw [Nat.pow_succ]; omega
theorem subB {i j : Int} (p : Nat) (hi : i.natAbs < 2 ^ p) (hj : j.natAbs < 2 ^ p) : (i - j).natAbs < 2 ^ (p + 1) := by
  rw [Nat.pow_succ]; omega
theorem upB {i : Int} {p : Nat} (q : Nat) (h : i.natAbs < 2 ^ p) (hq : p ≤ q := by decide) : i.natAbs < 2 ^ q := Nat.lt_of_lt_of_le h (Nat.pow_le_pow_right (by decide) hq)
theorem divB {j : Int} (h : 1 ≤ j) (k : j.natAbs < 2 ^ 400) : divOk j = true := by
  refine decide_eq_true ⟨by omega, ?_⟩
  have : j.natAbs.log2 < 401 := (Nat.log2_lt (by omega)).mpr (Nat.lt_trans k (Nat.pow_lt_pow_right (by decide) (by decide)))
  omega
theorem cmp_bl (x y : Bool) : cmpD .eq (.bl x) (.bl y) = some (x == y) := by cases x <;> cases y <;> rfl
def qd (a b : Int) : D := .tup [.int a, .int b]
theorem Qn.nic {k : Nat} {a b : Int} (q : Qn k a b) (hk : k ≤ 250) : Nic 4 300 (qd a b) := by
  have h1 := upB 250 q.am hk
  have h2 := upB 250 q.bm hk
  exact ⟨by simp [qd], by simp [qd, sml, smls, h1, h2], by simp [qd]⟩

end
section
/-! from K0n -/
/-! ### shown -/
mutual
theorem wt_le : ∀ (d : D), sml d = true → D.wt d + 2 ≤ 260 * siz d
  | .int i, h => by
    have h1 : i.natAbs < 2 ^ 250 := of_decide_eq_true h
    have : i.natAbs.log2 < 250 := by
      rcases Nat.eq_zero_or_pos i.natAbs with z | p
      · rw [z]; decide
      · exact (Nat.log2_lt (by omega)).mpr h1
    show i.natAbs.log2 + 4 + 2 ≤ 260 * 1
    omega
  | .str x, h => by
    have h1 : x.length ≤ 20 := of_decide_eq_true h
    show 10 * x.length + 2 + 2 ≤ 260 * 1
    omega
  | .tup l, h => by
    have := wts_le l h
    show wts l + 4 + 2 ≤ 260 * (sizs l + 1)
    omega
  | .lst l, h => by
    have := wts_le l h
    show wts l + 4 + 2 ≤ 260 * (sizs l + 1)
    omega
  | .non, _ => by decide
  | .bl _, _ => by show 6 + 2 ≤ 260 * 1; decide
  | .st _, _ => by show 6 + 2 ≤ 260 * 1; decide
  | .dct _ _ _, _ => by show 6 + 2 ≤ 260 * 1; decide
  | .ins _ _, _ => by show 6 + 2 ≤ 260 * 1; decide
  | .rep _, _ => by show 6 + 2 ≤ 260 * 1; decide
theorem wts_le : ∀ (l : List D), smls l = true → wts l ≤ 260 * sizs l
  | [], _ => Nat.zero_le _
  | d :: r, h => by
    have h' : sml d = true ∧ smls r = true := by simpa using h
    have h1 := wt_le d h'.1
    have h2 := wts_le r h'.2
    show D.wt d + 2 + wts r ≤ 260 * (siz d + sizs r)
    omega
end
mutual
theorem shw_of : ∀ (d : D), sml d = true → D.shw d = true
  | .int i, h => by
    have h1 : i.natAbs < 2 ^ 250 := of_decide_eq_true h
    refine decide_eq_true ?_
    rcases Nat.eq_zero_or_pos i.natAbs with z | p
    · rw [z]; decide
    · exact Nat.lt_trans ((Nat.log2_lt (by omega)).mpr h1) (by decide)
  | .str x, h => rfl
  | .tup l, h => shws_of l h
  | .lst l, h => shws_of l h
  | .non, _ => rfl
  | .bl _, _ => rfl
  | .st _, _ => rfl
  | .dct _ _ _, _ => rfl
  | .ins _ _, _ => rfl
  | .rep _, _ => rfl
theorem shws_of : ∀ (l : List D), smls l = true → shws l = true
  | [], _ => rfl
  | d :: r, h => by
    have h' : sml d = true ∧ smls r = true := by simpa using h
    show (D.shw d && shws r) = true
    rw [shw_of d h'.1, shws_of r h'.2]; rfl
end
mutual
theorem same_refl : ∀ (d : D) (n : Nat), D.fit n d = true → D.same d d = true
  | .non, _, _ => rfl
  | .bl b, _, _ => by simp [D.same]
  | .int i, _, _ => by simp [D.same]
  | .str x, _, _ => by simp [D.same]
  | .tup l, 0, h => by simp [D.fit] at h
  | .tup l, n + 1, h => by rw [D.same]; exact sames_refl l n (by simpa using h)
  | .lst l, 0, h => by simp [D.fit] at h
  | .lst l, n + 1, h => by rw [D.same]; exact sames_refl l n (by simpa using h)
  | .st _, n, h => by cases n <;> simp [D.fit] at h
  | .dct _ _ _, n, h => by cases n <;> simp [D.fit] at h
  | .ins _ _, n, h => by cases n <;> simp [D.fit] at h
  | .rep _, n, h => by cases n <;> simp [D.fit] at h
theorem sames_refl : ∀ (l : List D) (n : Nat), fits n l = true → sames l l = true
  | [], _, _ => rfl
  | d :: r, n, h => by
    have h' : D.fit n d = true ∧ fits n r = true := by simpa using h
    rw [sames, same_refl d n h'.1, sames_refl r n h'.2]; rfl
end
theorem rep_ok (s : SL) {d : D} (f : D.fit 40 d = true) (m : sml d = true) (z : siz d ≤ 60000) : bltS s .repr [d] = some (.rep d) := by
  have w := wt_le d m
  have : (D.fit 40 d && D.shw d && decide (D.wt d ≤ L)) = true := by
    rw [f, shw_of d m, decide_eq_true (show D.wt d ≤ L by unfold L; omega)]; rfl
  show (if (D.fit 40 d && D.shw d && decide (D.wt d ≤ L)) = true then some (D.rep d) else none) = _
  rw [if_pos this]
theorem rep_eq {d : D} (f : D.fit 40 d = true) : cmpD .eq (.rep d) (.rep d) = some true := by
  show (if D.same d d = true then some true else none) = _
  rw [if_pos (same_refl d 40 f)]
theorem rng5 : rngD 0 5 = some [.int 0, .int 1, .int 2, .int 3, .int 4] := (rfl)
theorem Qn.neg {k : Nat} {a b : Int} (q : Qn k a b) : Qn k (-a) b := ⟨q.b1, q.bm, by rw [Int.natAbs_neg]; exact q.am, by rw [Int.natAbs_neg]; exact q.g⟩

end
theorem two_of {l : List D} (h : l.length = 2) : ∃ x y, l = [x, y] := by
  match l, h with
  | [x, y], _ => exact ⟨x, y, rfl⟩
theorem three_of {l : List D} (h : l.length = 3) : ∃ x y z, l = [x, y, z] := by
  match l, h with
  | [x, y, z], _ => exact ⟨x, y, z, rfl⟩
theorem rt_tup {f : D → Env → SL → R SL Fl} {x : D} {ρ : Env} {s : SL} {t : List D} (e : f x ρ s = .ok (.rt (.tup t)) s) : ∃ r, f x ρ s = .ok (.rt r) s ∧ ∃ t, r = .tup t := ⟨_, e, _, rfl⟩
theorem rt_false {f : D → Env → SL → R SL Fl} {x : D} {ρ : Env} {s : SL} (e : f x ρ s = .ok (.rt (.bl false)) s) : ∃ r, f x ρ s = .ok (.rt r) s ∧ r = .bl false := ⟨_, e, rfl⟩
theorem both {P : Prop} {a b : R SL D} {s : SL} (h1 : (P ∧ a = .ok (.bl true) s) ∨ (¬ P ∧ a = .ok (.bl false) s)) (h2 : (P ∧ b = .ok (.bl true) s) ∨ (¬ P ∧ b = .ok (.bl false) s)) : ∃ c : Bool, a = .ok (.bl c) s ∧ b = .ok (.bl c) s := by
  rcases h1 with ⟨p, e⟩ | ⟨p, e⟩ <;> rcases h2 with ⟨q, e2⟩ | ⟨q, e2⟩
  · exact ⟨true, e, e2⟩
  · exact absurd p q
  · exact absurd q p
  · exact ⟨false, e, e2⟩
section
variable (s : SL)
@[simp] theorem s20 (x y : D) : subS s (.tup [x, y]) (.int 0) = some x := (rfl)
@[simp] theorem s21 (x y : D) : subS s (.tup [x, y]) (.int 1) = some y := (rfl)
@[simp] theorem s30 (x y z : D) : subS s (.tup [x, y, z]) (.int 0) = some x := (rfl)
@[simp] theorem s31 (x y z : D) : subS s (.tup [x, y, z]) (.int 1) = some y := (rfl)
@[simp] theorem s32 (x y z : D) : subS s (.tup [x, y, z]) (.int 2) = some z := (rfl)
end
end Ev
end
section
set_option linter.all false
set_option maxHeartbeats 4000000
/-! Gen6: loops that hand back at the first place where something is told. Pure. -/
namespace Ev
open PySem (Str)
/-- what is told first, from s on, of n places -/
def fo {β : Type} (f : Nat → Option β) : Nat → Nat → Option β
  | 0, _ => none
  | n + 1, s => match f s with
    | some b => some b
    | none => fo f n (s + 1)
theorem fo_none {β : Type} {f : Nat → Option β} : ∀ {n s : Nat}, fo f n s = none → ∀ j, s ≤ j → j < s + n → f j = none
  | 0, s, _, j, h1, h2 => by omega
  | n + 1, s, h, j, h1, h2 => by
    unfold fo at h
    split at h
    · cases h
    · rename_i e
      rcases Nat.eq_or_lt_of_le h1 with z | z
      · rw [← z]; exact e
      · exact fo_none h j z (by omega)
theorem fo_some {β : Type} {f : Nat → Option β} : ∀ {n s : Nat} {b : β}, fo f n s = some b → ∃ j, s ≤ j ∧ j < s + n ∧ f j = some b
  | 0, s, b, h => by cases h
  | n + 1, s, b, h => by
    unfold fo at h
    split at h
    · rename_i e
      cases h
      exact ⟨s, Nat.le_refl _, by omega, e⟩
    · obtain ⟨j, h1, h2, h3⟩ := fo_some h
      exact ⟨j, by omega, by omega, h3⟩
theorem fo_congr {β : Type} {f g : Nat → Option β} : ∀ {n s : Nat}, (∀ j, s ≤ j → j < s + n → f j = g j) → fo f n s = fo g n s
  | 0, s, _ => rfl
  | n + 1, s, h => by
    unfold fo
    rw [h s (Nat.le_refl _) (by omega), fo_congr (f := f) (g := g) (n := n) (s := s + 1) fun j h1 h2 => h j (by omega) (by omega)]
section
variable {S β : Type} {f : D → Env → S → R S Fl} {fk : Nat → Option β} (g : β → D) (I : Nat → Env → Prop) (s : S)
theorem forS_fo : ∀ (items : List D) (k : Nat) (ρ : Env), I k ρ →
    (∀ j d ρ, items[j]? = some d → I (k + j) ρ → (fk (k + j) = none ∧ ∃ ρ', f d ρ s = .ok (.nx ρ') s ∧ I (k + j + 1) ρ') ∨ (∃ w, fk (k + j) = some w ∧ f d ρ s = .ok (.rt (g w)) s)) →
    (fo fk items.length k = none ∧ ∃ ρ', forS f items ρ s = .ok (.nx ρ') s ∧ I (k + items.length) ρ') ∨ (∃ w, fo fk items.length k = some w ∧ forS f items ρ s = .ok (.rt (g w)) s)
  | [], k, ρ, i, st => .inl ⟨rfl, ρ, rfl, i⟩
  | d :: items, k, ρ, i, st => by
    rcases st 0 d ρ rfl i with ⟨p, ρ1, e, i1⟩ | ⟨w, p, e⟩
    · have p' : fk k = none := p
      have := forS_fo items (k + 1) ρ1 i1 (fun j d' ρ' hd i' => by
        have e1 : k + 1 + j = k + (j + 1) := by omega
        rw [e1] at i' ⊢
        exact st (j + 1) d' ρ' (by simpa using hd) i')
      have e2 : k + 1 + items.length = k + (d :: items).length := by simp; omega
      have e3 : fo fk (d :: items).length k = fo fk items.length (k + 1) := by rw [List.length_cons, fo, p']
      rw [e2] at this
      rw [e3]
      rcases this with ⟨h1, ρ', h2, h3⟩ | ⟨w, h1, h2⟩
      · refine .inl ⟨h1, ρ', ?_, h3⟩
        rw [forS, e]; exact h2
      · refine .inr ⟨w, h1, ?_⟩
        rw [forS, e]; exact h2
    · have p' : fk k = some w := p
      refine .inr ⟨w, by rw [List.length_cons, fo, p'], ?_⟩
      rw [forS, e]; rfl
theorem enum_fo (l : List D) (ρ : Env) (hi : I 0 ρ) (st : ∀ j d ρ, l[j]? = some d → I j ρ → (fk j = none ∧ ∃ ρ', f (.tup [.int (j : Int), d]) ρ s = .ok (.nx ρ') s ∧ I (j + 1) ρ') ∨ (∃ w, fk j = some w ∧ f (.tup [.int (j : Int), d]) ρ s = .ok (.rt (g w)) s)) :
    (fo fk l.length 0 = none ∧ ∃ ρ', forS f (l.mapIdx fun k d => D.tup [.int (k : Int), d]) ρ s = .ok (.nx ρ') s ∧ I l.length ρ') ∨ (∃ w, fo fk l.length 0 = some w ∧ forS f (l.mapIdx fun k d => D.tup [.int (k : Int), d]) ρ s = .ok (.rt (g w)) s) := by
  have := forS_fo (f := f) (fk := fk) g I s (l.mapIdx fun k d => D.tup [.int (k : Int), d]) 0 ρ hi (fun j d ρ h1 h2 => by
    rw [Nat.zero_add] at h2 ⊢
    rw [List.getElem?_mapIdx] at h1
    cases e : l[j]? with
    | none => rw [e] at h1; cases h1
    | some y =>
      rw [e] at h1
      rw [← Option.some.inj h1]
      exact st j y ρ e h2)
  simpa using this
theorem rng_fo (n : Nat) (ρ : Env) (hi : I 0 ρ) (st : ∀ j ρ, j < n → I j ρ → (fk j = none ∧ ∃ ρ', f (.int (j : Int)) ρ s = .ok (.nx ρ') s ∧ I (j + 1) ρ') ∨ (∃ w, fk j = some w ∧ f (.int (j : Int)) ρ s = .ok (.rt (g w)) s)) :
    (fo fk n 0 = none ∧ ∃ ρ', forS f ((List.range n).map fun k : Nat => D.int k) ρ s = .ok (.nx ρ') s ∧ I n ρ') ∨ (∃ w, fo fk n 0 = some w ∧ forS f ((List.range n).map fun k : Nat => D.int k) ρ s = .ok (.rt (g w)) s) := by
  have := forS_fo (f := f) (fk := fk) g I s ((List.range n).map fun k : Nat => D.int k) 0 ρ hi (fun j d ρ h1 h2 => by
    rw [Nat.zero_add] at h2 ⊢
    rw [List.getElem?_map] at h1
    by_cases c : j < n
    · rw [List.getElem?_range c] at h1
      rw [← Option.some.inj h1]
      exact st j ρ c h2
    · rw [List.getElem?_eq_none (by simpa using c)] at h1
      cases h1)
  simpa using this
end
end Ev
end
section
set_option linter.all false
namespace Ev
namespace K20
open PySem (Str)
/-- names: [fault, word, at] -/
def ir_let : ISs :=
  ISs.cons (IS.ite (IE.notN (IE.var 0)) (ISs.cons (IS.asgT [1, 2] (IE.var 0)) (ISs.cons (IS.rse 0 [("word" : Str), ("at" : Str)] (IEs.cons (IE.var 1) (IEs.cons (IE.var 2) (IEs.nil)))) (ISs.nil))) (ISs.nil)) (ISs.nil)
def b_merged_1 : ISs := ISs.cons (IS.setix 1 (IE.tup (IEs.cons (IE.var 2) (IEs.cons (IE.var 3) (IEs.nil)))) (IE.bop (Bop.add) (IE.dget (IE.var 1) (IE.tup (IEs.cons (IE.var 2) (IEs.cons (IE.var 3) (IEs.nil)))) (IE.c (D.int 0))) (IE.var 4))) (ISs.nil)
def e_merged_1 : IE := IE.tup (IEs.star (IE.var 6) (IEs.cons (IE.sub (IE.var 1) (IE.var 6)) (IEs.nil)))
def i_merged_1 : IEs := IEs.cons (IE.cmp (Cop.ne) (IE.sub (IE.var 1) (IE.var 6)) (IE.c (D.int 0))) (IEs.nil)
/-- names: [triples, counts, first, second, many, .0, pair] -/
def ir_merged : ISs :=
  ISs.cons (IS.asg 1 (IE.dnew true)) (ISs.cons (IS.for_ (Tg.tup [2, 3, 4]) [] (ISrc.seq (IE.var 0)) b_merged_1) (ISs.cons (IS.ret (IE.blt (Blt.tuple) (IEs.cons (IE.lc e_merged_1 (Tg.name 6) [5, 6] (ISrc.seq (IE.blt (Blt.sorted) (IEs.cons (IE.var 1) (IEs.nil)))) i_merged_1) (IEs.nil)))) (ISs.nil)))
/-- names: [thing] -/
def ir_is_integer : ISs :=
  ISs.cons (IS.ret (IE.and (IE.isi (IE.var 0) (Ty.int)) (IE.not (IE.isi (IE.var 0) (Ty.bool))))) (ISs.nil)
/-- names: [thing] -/
def ir_is_number : ISs :=
  ISs.cons (IS.ret (IE.and (IE.call 2 (IEs.cons (IE.var 0) (IEs.nil))) (IE.cmp (Cop.ge) (IE.var 0) (IE.c (D.int 0))))) (ISs.nil)
/-- names: [thing] -/
def ir_is_count : ISs :=
  ISs.cons (IS.ret (IE.and (IE.call 2 (IEs.cons (IE.var 0) (IEs.nil))) (IE.cmp (Cop.ge) (IE.var 0) (IE.c (D.int 1))))) (ISs.nil)
/-- names: [thing, many] -/
def ir_is_index : ISs :=
  ISs.cons (IS.ret (IE.and (IE.call 3 (IEs.cons (IE.var 0) (IEs.nil))) (IE.cmp (Cop.lt) (IE.var 0) (IE.var 1)))) (ISs.nil)
/-- names: [thing, many] -/
def ir_is_tuple_of : ISs :=
  ISs.cons (IS.ret (IE.and (IE.isi (IE.var 0) (Ty.tuple)) (IE.cmp (Cop.eq) (IE.blt (Blt.len) (IEs.cons (IE.var 0) (IEs.nil))) (IE.var 1)))) (ISs.nil)
/-- names: [thing] -/
def ir_is_span : ISs :=
  ISs.cons (IS.ret (IE.and (IE.call 6 (IEs.cons (IE.var 0) (IEs.cons (IE.c (D.int 2)) (IEs.nil)))) (IE.and (IE.call 3 (IEs.cons (IE.sub (IE.var 0) (IE.c (D.int 0))) (IEs.nil))) (IE.call 4 (IEs.cons (IE.sub (IE.var 0) (IE.c (D.int 1))) (IEs.nil)))))) (ISs.nil)
/-- names: [lists, thing] -/
def ir_is_kind : ISs :=
  ISs.cons (IS.ite (IE.not (IE.call 6 (IEs.cons (IE.var 1) (IEs.cons (IE.c (D.int 2)) (IEs.nil))))) (ISs.cons (IS.ret (IE.c (D.bl false))) (ISs.nil)) (ISs.nil)) (ISs.cons (IS.ret (IE.and (IE.call 5 (IEs.cons (IE.sub (IE.var 1) (IE.c (D.int 0))) (IEs.cons (IE.blt (Blt.len) (IEs.cons (IE.sub (IE.var 0) (IE.c (D.int 0))) (IEs.nil))) (IEs.nil)))) (IE.call 5 (IEs.cons (IE.sub (IE.var 1) (IE.c (D.int 1))) (IEs.cons (IE.blt (Blt.len) (IEs.cons (IE.sub (IE.var 0) (IE.c (D.int 1))) (IEs.nil))) (IEs.nil)))))) (ISs.nil))
/-- names: [thing, many] -/
def ir_is_span_within : ISs :=
  ISs.cons (IS.ret (IE.and (IE.call 7 (IEs.cons (IE.var 0) (IEs.nil))) (IE.cmp (Cop.le) (IE.bop (Bop.add) (IE.sub (IE.var 0) (IE.c (D.int 0))) (IE.sub (IE.var 0) (IE.c (D.int 1)))) (IE.var 1)))) (ISs.nil)
/-- names: [lists, stock, thing, a, b, sort, sheets, columns, rows, width, height, many] -/
def ir_is_box : ISs :=
  ISs.cons (IS.ite (IE.or (IE.not (IE.call 6 (IEs.cons (IE.var 2) (IEs.cons (IE.c (D.int 6)) (IEs.nil))))) (IE.or (IE.not (IE.call 8 (IEs.cons (IE.var 0) (IEs.cons (IE.slc (IE.var 2) (IEo.none) (IEo.some (IE.c (D.int 2)))) (IEs.nil))))) (IE.not (IE.call 5 (IEs.cons (IE.sub (IE.var 2) (IE.c (D.int 2))) (IEs.cons (IE.blt (Blt.len) (IEs.cons (IE.var 1) (IEs.nil))) (IEs.nil))))))) (ISs.cons (IS.ret (IE.c (D.bl false))) (ISs.nil)) (ISs.nil)) (ISs.cons (IS.asgT [3, 4, 5, 6, 7, 8] (IE.var 2)) (ISs.cons (IS.asgT [9, 10, 11] (IE.sub (IE.var 1) (IE.var 5))) (ISs.cons (IS.ite (IE.or (IE.not (IE.call 9 (IEs.cons (IE.var 6) (IEs.cons (IE.var 11) (IEs.nil))))) (IE.not (IE.call 9 (IEs.cons (IE.var 7) (IEs.cons (IE.bop (Bop.fdiv) (IE.var 9) (IE.sub (IE.sub (IE.var 0) (IE.c (D.int 0))) (IE.var 3))) (IEs.nil)))))) (ISs.cons (IS.ret (IE.c (D.bl false))) (ISs.nil)) (ISs.nil)) (ISs.cons (IS.ret (IE.call 9 (IEs.cons (IE.var 8) (IEs.cons (IE.bop (Bop.fdiv) (IE.var 10) (IE.sub (IE.sub (IE.var 0) (IE.c (D.int 1))) (IE.var 4))) (IEs.nil))))) (ISs.nil)))))
/-- names: [box, _, sheets, columns, rows] -/
def ir_shares_of : ISs :=
  ISs.cons (IS.asgT [1, 1, 1, 2, 3, 4] (IE.var 0)) (ISs.cons (IS.ret (IE.bop (Bop.mul) (IE.bop (Bop.mul) (IE.sub (IE.var 2) (IE.c (D.int 1))) (IE.sub (IE.var 3) (IE.c (D.int 1)))) (IE.sub (IE.var 4) (IE.c (D.int 1))))) (ISs.nil))
/-- names: [span, size] -/
def ir_span_ground : ISs :=
  ISs.cons (IS.ret (IE.tup (IEs.cons (IE.bop (Bop.mul) (IE.sub (IE.var 0) (IE.c (D.int 0))) (IE.var 1)) (IEs.cons (IE.bop (Bop.mul) (IE.bop (Bop.add) (IE.sub (IE.var 0) (IE.c (D.int 0))) (IE.sub (IE.var 0) (IE.c (D.int 1)))) (IE.var 1)) (IEs.nil))))) (ISs.nil)
/-- names: [lists, box, a, b, sort, sheets, columns, rows, left, right, bottom, top] -/
def ir_ground_in : ISs :=
  ISs.cons (IS.asgT [2, 3, 4, 5, 6, 7] (IE.var 1)) (ISs.cons (IS.asgT [8, 9] (IE.call 12 (IEs.cons (IE.var 6) (IEs.cons (IE.sub (IE.sub (IE.var 0) (IE.c (D.int 0))) (IE.var 2)) (IEs.nil))))) (ISs.cons (IS.asgT [10, 11] (IE.call 12 (IEs.cons (IE.var 7) (IEs.cons (IE.sub (IE.sub (IE.var 0) (IE.c (D.int 1))) (IE.var 3)) (IEs.nil))))) (ISs.cons (IS.ret (IE.tup (IEs.cons (IE.var 4) (IEs.cons (IE.sub (IE.var 5) (IE.c (D.int 0))) (IEs.cons (IE.bop (Bop.sub) (IE.bop (Bop.add) (IE.sub (IE.var 5) (IE.c (D.int 0))) (IE.sub (IE.var 5) (IE.c (D.int 1)))) (IE.c (D.int 1))) (IEs.cons (IE.var 8) (IEs.cons (IE.var 10) (IEs.cons (IE.var 9) (IEs.cons (IE.var 11) (IEs.nil)))))))))) (ISs.nil))))
/-- names: [ground, its_ground, sort, first, last, left, bottom, right, top, its_sort, its_first, its_last, its_left, its_bottom, its_right, its_top] -/
def ir_grounds_meet : ISs :=
  ISs.cons (IS.asgT [2, 3, 4, 5, 6, 7, 8] (IE.var 0)) (ISs.cons (IS.asgT [9, 10, 11, 12, 13, 14, 15] (IE.var 1)) (ISs.cons (IS.ite (IE.or (IE.cmp (Cop.ne) (IE.var 2) (IE.var 9)) (IE.or (IE.cmp (Cop.gt) (IE.var 3) (IE.var 11)) (IE.cmp (Cop.gt) (IE.var 10) (IE.var 4)))) (ISs.cons (IS.ret (IE.c (D.bl false))) (ISs.nil)) (ISs.nil)) (ISs.cons (IS.ret (IE.and (IE.cmp (Cop.lt) (IE.var 5) (IE.var 14)) (IE.and (IE.cmp (Cop.lt) (IE.var 12) (IE.var 7)) (IE.and (IE.cmp (Cop.lt) (IE.var 6) (IE.var 15)) (IE.cmp (Cop.lt) (IE.var 13) (IE.var 8)))))) (ISs.nil))))
def e_is_box_like_1 : IE := IE.call 7 (IEs.cons (IE.var 3) (IEs.nil))
/-- names: [lists, thing, .0, span] -/
def ir_is_box_like : ISs :=
  ISs.cons (IS.ite (IE.or (IE.not (IE.call 6 (IEs.cons (IE.var 1) (IEs.cons (IE.c (D.int 6)) (IEs.nil))))) (IE.or (IE.not (IE.call 8 (IEs.cons (IE.var 0) (IEs.cons (IE.slc (IE.var 1) (IEo.none) (IEo.some (IE.c (D.int 2)))) (IEs.nil))))) (IE.not (IE.call 3 (IEs.cons (IE.sub (IE.var 1) (IE.c (D.int 2))) (IEs.nil)))))) (ISs.cons (IS.ret (IE.c (D.bl false))) (ISs.nil)) (ISs.nil)) (ISs.cons (IS.ret (IE.blt (Blt.all) (IEs.cons (IE.lc e_is_box_like_1 (Tg.name 3) [2, 3] (ISrc.seq (IE.slc (IE.var 1) (IEo.some (IE.c (D.int 3))) (IEo.none))) (IEs.nil)) (IEs.nil)))) (ISs.nil))
def b_first_meeting_1 : ISs := ISs.cons (IS.ite (IE.call 14 (IEs.cons (IE.var 5) (IEs.cons (IE.var 7) (IEs.nil)))) (ISs.cons (IS.ret (IE.tup (IEs.cons (IE.var 3) (IEs.cons (IE.var 6) (IEs.nil))))) (ISs.nil)) (ISs.nil)) (ISs.nil)
def b_first_meeting_2 : ISs := ISs.cons (IS.asgN 5 (IE.call 13 (IEs.cons (IE.var 0) (IEs.cons (IE.var 4) (IEs.nil))))) (ISs.cons (IS.for_ (Tg.tup [6, 7]) [] (ISrc.enum (IE.var 2)) b_first_meeting_1) (ISs.cons (IS.app 2 (IE.var 5)) (ISs.nil)))
/-- names: [lists, boxes, grounds, i, box, ground, k, other] -/
def ir_first_meeting : ISs :=
  ISs.cons (IS.asg 2 (IE.lst (IEs.nil))) (ISs.cons (IS.for_ (Tg.tup [3, 4]) [] (ISrc.enum (IE.var 1)) b_first_meeting_2) (ISs.cons (IS.ret (IE.c (D.non))) (ISs.nil)))
def b_laying_fault_1 : ISs := ISs.cons (IS.ite (IE.not (IE.call 15 (IEs.cons (IE.var 0) (IEs.cons (IE.var 4) (IEs.nil))))) (ISs.cons (IS.ret (IE.tup (IEs.cons (IE.c (D.str ("box" : Str))) (IEs.cons (IE.var 3) (IEs.nil))))) (ISs.nil)) (ISs.nil)) (ISs.cons (IS.ite (IE.not (IE.call 10 (IEs.cons (IE.var 0) (IEs.cons (IE.var 1) (IEs.cons (IE.var 4) (IEs.nil)))))) (ISs.cons (IS.ret (IE.tup (IEs.cons (IE.c (D.str ("inside" : Str))) (IEs.cons (IE.var 3) (IEs.nil))))) (ISs.nil)) (ISs.nil)) (ISs.nil))
/-- names: [lists, stock, thing, i, entry, meeting] -/
def ir_laying_fault : ISs :=
  ISs.cons (IS.ite (IE.not (IE.isi (IE.var 2) (Ty.tuple))) (ISs.cons (IS.ret (IE.tup (IEs.cons (IE.c (D.str ("laying" : Str))) (IEs.cons (IE.neg (IE.c (D.int 1))) (IEs.nil))))) (ISs.nil)) (ISs.nil)) (ISs.cons (IS.for_ (Tg.tup [3, 4]) [] (ISrc.enum (IE.var 2)) b_laying_fault_1) (ISs.cons (IS.asgN 5 (IE.call 16 (IEs.cons (IE.var 0) (IEs.cons (IE.var 2) (IEs.nil))))) (ISs.cons (IS.ret (IE.ite (IE.isN (IE.var 5)) (IE.c (D.non)) (IE.tup (IEs.cons (IE.c (D.str ("overlap" : Str))) (IEs.cons (IE.var 5) (IEs.nil)))))) (ISs.nil))))
def e_lot_of_boxes_1 : IE := IE.tup (IEs.cons (IE.sub (IE.var 2) (IE.c (D.int 0))) (IEs.cons (IE.sub (IE.var 2) (IE.c (D.int 1))) (IEs.cons (IE.call 11 (IEs.cons (IE.var 2) (IEs.nil))) (IEs.nil))))
/-- names: [boxes, .0, box] -/
def ir_lot_of_boxes : ISs :=
  ISs.cons (IS.ret (IE.call 1 (IEs.cons (IE.lc e_lot_of_boxes_1 (Tg.name 2) [1, 2] (ISrc.seq (IE.var 0)) (IEs.nil)) (IEs.nil)))) (ISs.nil)
/-- names: [lists, stock, thing] -/
def ir_lets_laying : ISs :=
  ISs.cons (IS.expr (IE.call 0 (IEs.cons (IE.call 17 (IEs.cons (IE.var 0) (IEs.cons (IE.var 1) (IEs.cons (IE.var 2) (IEs.nil))))) (IEs.nil)))) (ISs.cons (IS.ret (IE.call 18 (IEs.cons (IE.var 2) (IEs.nil)))) (ISs.nil))
/-- names: [_law_script, _law_feed, _law_many, _law_cell, _law_got] -/
def ir__law_pick : ISs :=
  ISs.cons (IS.ite (IE.and (IE.cmp (Cop.le) (IE.sub (IE.var 1) (IE.c (D.int 1))) (IE.c (D.int 1))) (IE.cmp (Cop.lt) (IE.sub (IE.var 1) (IE.c (D.int 0))) (IE.blt (Blt.len) (IEs.cons (IE.var 0) (IEs.nil))))) (ISs.cons (IS.asgN 3 (IE.blt (Blt.int1) (IEs.cons (IE.sub (IE.var 0) (IE.sub (IE.var 1) (IE.c (D.int 0)))) (IEs.nil)))) (ISs.cons (IS.setix 1 (IE.c (D.int 0)) (IE.bop (Bop.add) (IE.sub (IE.var 1) (IE.c (D.int 0))) (IE.c (D.int 1)))) (ISs.cons (IS.ite (IE.cmp (Cop.ge) (IE.blt (Blt.abs) (IEs.cons (IE.var 3) (IEs.nil))) (IE.bop (Bop.pow) (IE.c (D.int 10)) (IE.c (D.int 18)))) (ISs.cons (IS.setix 1 (IE.c (D.int 1)) (IE.bop (Bop.add) (IE.bop (Bop.sub) (IE.blt (Blt.abs) (IEs.cons (IE.var 3) (IEs.nil))) (IE.bop (Bop.pow) (IE.c (D.int 10)) (IE.c (D.int 18)))) (IE.c (D.int 1)))) (ISs.nil)) (ISs.cons (IS.setix 1 (IE.c (D.int 2)) (IE.bop (Bop.mod) (IE.blt (Blt.int1) (IEs.cons (IE.bop (Bop.add) (IE.bop (Bop.add) (IE.bop (Bop.mul) (IE.sub (IE.var 1) (IE.c (D.int 2))) (IE.c (D.int 39373))) (IE.bop (Bop.mul) (IE.var 3) (IE.c (D.int 61417)))) (IE.c (D.int 41))) (IEs.nil))) (IE.c (D.int 2147483629)))) (ISs.nil))) (ISs.nil)))) (ISs.nil)) (ISs.cons (IS.ite (IE.cmp (Cop.gt) (IE.sub (IE.var 1) (IE.c (D.int 1))) (IE.c (D.int 1))) (ISs.cons (IS.asg 4 (IE.bop (Bop.mod) (IE.blt (Blt.int1) (IEs.cons (IE.sub (IE.var 1) (IE.c (D.int 1))) (IEs.nil))) (IE.var 2))) (ISs.cons (IS.setix 1 (IE.c (D.int 1)) (IE.bop (Bop.fdiv) (IE.sub (IE.var 1) (IE.c (D.int 1))) (IE.var 2))) (ISs.cons (IS.ret (IE.var 4)) (ISs.nil)))) (ISs.nil)) (ISs.cons (IS.setix 1 (IE.c (D.int 2)) (IE.bop (Bop.mod) (IE.blt (Blt.int1) (IEs.cons (IE.bop (Bop.add) (IE.bop (Bop.mul) (IE.sub (IE.var 1) (IE.c (D.int 2))) (IE.c (D.int 48271))) (IE.c (D.int 3571))) (IEs.nil))) (IE.c (D.int 2147483629)))) (ISs.cons (IS.ret (IE.bop (Bop.mod) (IE.blt (Blt.int1) (IEs.cons (IE.bop (Bop.fdiv) (IE.sub (IE.var 1) (IE.c (D.int 2))) (IE.c (D.int 2027))) (IEs.nil))) (IE.var 2))) (ISs.nil))))
def b__law_big_1 : ISs := ISs.cons (IS.asg 4 (IE.bop (Bop.add) (IE.bop (Bop.mul) (IE.var 4) (IE.c (D.int 1000))) (IE.call 20 (IEs.cons (IE.var 0) (IEs.cons (IE.var 1) (IEs.cons (IE.c (D.int 1000)) (IEs.nil))))))) (ISs.nil)
/-- names: [_law_script, _law_feed, _law_top, _law_way, _law_got, _law_k] -/
def ir__law_big : ISs :=
  ISs.cons (IS.ite (IE.cmp (Cop.lt) (IE.var 2) (IE.c (D.int 1000))) (ISs.cons (IS.ret (IE.call 20 (IEs.cons (IE.var 0) (IEs.cons (IE.var 1) (IEs.cons (IE.bop (Bop.add) (IE.var 2) (IE.c (D.int 1))) (IEs.nil)))))) (ISs.nil)) (ISs.nil)) (ISs.cons (IS.asgN 3 (IE.call 20 (IEs.cons (IE.var 0) (IEs.cons (IE.var 1) (IEs.cons (IE.c (D.int 4)) (IEs.nil)))))) (ISs.cons (IS.ite (IE.cmp (Cop.eq) (IE.var 3) (IE.c (D.int 0))) (ISs.cons (IS.ret (IE.call 20 (IEs.cons (IE.var 0) (IEs.cons (IE.var 1) (IEs.cons (IE.c (D.int 6)) (IEs.nil)))))) (ISs.nil)) (ISs.nil)) (ISs.cons (IS.ite (IE.cmp (Cop.eq) (IE.var 3) (IE.c (D.int 1))) (ISs.cons (IS.ret (IE.bop (Bop.sub) (IE.var 2) (IE.call 20 (IEs.cons (IE.var 0) (IEs.cons (IE.var 1) (IEs.cons (IE.c (D.int 6)) (IEs.nil))))))) (ISs.nil)) (ISs.nil)) (ISs.cons (IS.asg 4 (IE.c (D.int 0))) (ISs.cons (IS.for_ (Tg.name 5) [] (ISrc.rng1 (IE.c (D.int 11))) b__law_big_1) (ISs.cons (IS.ret (IE.bop (Bop.mod) (IE.blt (Blt.int1) (IEs.cons (IE.var 4) (IEs.nil))) (IE.bop (Bop.add) (IE.var 2) (IE.c (D.int 1))))) (ISs.nil)))))))
def b__law_row_1 : ISs := ISs.cons (IS.app 3 (IE.bop (Bop.mul) (IE.sub (IE.var 3) (IE.var 4)) (IE.bop (Bop.add) (IE.c (D.int 2)) (IE.sub (IE.tup (IEs.cons (IE.c (D.int 0)) (IEs.cons (IE.c (D.int 1)) (IEs.cons (IE.c (D.int 0)) (IEs.nil))))) (IE.call 20 (IEs.cons (IE.var 0) (IEs.cons (IE.var 1) (IEs.cons (IE.c (D.int 3)) (IEs.nil))))))))) (ISs.nil)
/-- names: [_law_script, _law_feed, _law_scene, _law_row_here, _law_k] -/
def ir__law_row : ISs :=
  ISs.cons (IS.asg 3 (IE.lst (IEs.cons (IE.sub (IE.tup (IEs.cons (IE.c (D.int 1)) (IEs.cons (IE.c (D.int 2)) (IEs.cons (IE.c (D.int 1)) (IEs.cons (IE.c (D.int 1)) (IEs.cons (IE.c (D.int 3)) (IEs.cons (IE.c (D.int 1)) (IEs.cons (IE.c (D.int 7)) (IEs.cons (IE.c (D.int 1)) (IEs.nil)))))))))) (IE.call 20 (IEs.cons (IE.var 0) (IEs.cons (IE.var 1) (IEs.cons (IE.c (D.int 8)) (IEs.nil)))))) (IEs.nil)))) (ISs.cons (IS.ite (IE.cmp (Cop.eq) (IE.var 2) (IE.c (D.int 6))) (ISs.cons (IS.asg 3 (IE.lst (IEs.cons (IE.bop (Bop.add) (IE.c (D.int 1)) (IE.call 21 (IEs.cons (IE.var 0) (IEs.cons (IE.var 1) (IEs.cons (IE.bop (Bop.sub) (IE.bop (Bop.pow) (IE.c (D.int 10)) (IE.c (D.int 8))) (IE.c (D.int 1))) (IEs.nil)))))) (IEs.nil)))) (ISs.nil)) (ISs.nil)) (ISs.cons (IS.for_ (Tg.name 4) [] (ISrc.rng1 (IE.sub (IE.tup (IEs.cons (IE.c (D.int 1)) (IEs.cons (IE.c (D.int 2)) (IEs.cons (IE.c (D.int 0)) (IEs.cons (IE.c (D.int 1)) (IEs.nil)))))) (IE.call 20 (IEs.cons (IE.var 0) (IEs.cons (IE.var 1) (IEs.cons (IE.c (D.int 4)) (IEs.nil))))))) b__law_row_1) (ISs.cons (IS.ret (IE.blt (Blt.tuple) (IEs.cons (IE.var 3) (IEs.nil)))) (ISs.nil))))
def b__law_stock_1 : ISs := ISs.cons (IS.asgN 8 (IE.bop (Bop.add) (IE.bop (Bop.mul) (IE.sub (IE.var 7) (IE.call 20 (IEs.cons (IE.var 0) (IEs.cons (IE.var 1) (IEs.cons (IE.blt (Blt.len) (IEs.cons (IE.var 7) (IEs.nil))) (IEs.nil)))))) (IE.bop (Bop.add) (IE.c (D.int 1)) (IE.call 20 (IEs.cons (IE.var 0) (IEs.cons (IE.var 1) (IEs.cons (IE.c (D.int 4)) (IEs.nil))))))) (IE.call 20 (IEs.cons (IE.var 0) (IEs.cons (IE.var 1) (IEs.cons (IE.sub (IE.var 7) (IE.c (D.int 0))) (IEs.nil))))))) (ISs.cons (IS.ite (IE.cmp (Cop.ge) (IE.var 2) (IE.c (D.int 6))) (ISs.cons (IS.asgN 8 (IE.bop (Bop.add) (IE.c (D.int 1)) (IE.call 21 (IEs.cons (IE.var 0) (IEs.cons (IE.var 1) (IEs.cons (IE.bop (Bop.sub) (IE.bop (Bop.pow) (IE.c (D.int 10)) (IE.c (D.int 12))) (IE.c (D.int 2))) (IEs.nil))))))) (ISs.nil)) (ISs.nil)) (ISs.cons (IS.app 6 (IE.var 8)) (ISs.nil)))
def b__law_stock_2 : ISs := ISs.cons (IS.asg 6 (IE.lst (IEs.nil))) (ISs.cons (IS.for_ (Tg.name 7) [] (ISrc.seq (IE.var 3)) b__law_stock_1) (ISs.cons (IS.asgN 9 (IE.bop (Bop.add) (IE.c (D.int 1)) (IE.call 20 (IEs.cons (IE.var 0) (IEs.cons (IE.var 1) (IEs.cons (IE.c (D.int 5)) (IEs.nil))))))) (ISs.cons (IS.ite (IE.cmp (Cop.eq) (IE.var 2) (IE.c (D.int 5))) (ISs.cons (IS.asgN 9 (IE.bop (Bop.add) (IE.c (D.int 1)) (IE.call 21 (IEs.cons (IE.var 0) (IEs.cons (IE.var 1) (IEs.cons (IE.bop (Bop.pow) (IE.c (D.int 10)) (IE.c (D.int 29))) (IEs.nil))))))) (ISs.nil)) (ISs.nil)) (ISs.cons (IS.app 4 (IE.tup (IEs.cons (IE.sub (IE.var 6) (IE.c (D.int 0))) (IEs.cons (IE.sub (IE.var 6) (IE.c (D.int 1))) (IEs.cons (IE.var 9) (IEs.nil)))))) (ISs.nil)))))
/-- names: [_law_script, _law_feed, _law_scene, _law_lys, _law_out, _law_k, _law_sides, _law_row_here, _law_side, _law_many] -/
def ir__law_stock : ISs :=
  ISs.cons (IS.asg 4 (IE.lst (IEs.nil))) (ISs.cons (IS.for_ (Tg.name 5) [] (ISrc.rng1 (IE.sub (IE.tup (IEs.cons (IE.c (D.int 1)) (IEs.cons (IE.c (D.int 2)) (IEs.cons (IE.c (D.int 1)) (IEs.cons (IE.c (D.int 3)) (IEs.cons (IE.c (D.int 2)) (IEs.cons (IE.c (D.int 1)) (IEs.cons (IE.c (D.int 4)) (IEs.cons (IE.c (D.int 1)) (IEs.cons (IE.c (D.int 2)) (IEs.cons (IE.c (D.int 1)) (IEs.cons (IE.c (D.int 1)) (IEs.cons (IE.c (D.int 2)) (IEs.cons (IE.c (D.int 0)) (IEs.nil))))))))))))))) (IE.call 20 (IEs.cons (IE.var 0) (IEs.cons (IE.var 1) (IEs.cons (IE.c (D.int 13)) (IEs.nil))))))) b__law_stock_2) (ISs.cons (IS.ret (IE.blt (Blt.tuple) (IEs.cons (IE.var 4) (IEs.nil)))) (ISs.nil)))
/-- names: [_law_script, _law_feed, _law_top, _law_start, _law_many] -/
def ir__law_span : ISs :=
  ISs.cons (IS.asgN 3 (IE.call 21 (IEs.cons (IE.var 0) (IEs.cons (IE.var 1) (IEs.cons (IE.bop (Bop.sub) (IE.var 2) (IE.c (D.int 1))) (IEs.nil)))))) (ISs.cons (IS.asgN 4 (IE.c (D.int 1))) (ISs.cons (IS.ite (IE.cmp (Cop.eq) (IE.call 20 (IEs.cons (IE.var 0) (IEs.cons (IE.var 1) (IEs.cons (IE.c (D.int 2)) (IEs.nil))))) (IE.c (D.int 1))) (ISs.cons (IS.asgN 4 (IE.bop (Bop.add) (IE.c (D.int 1)) (IE.call 21 (IEs.cons (IE.var 0) (IEs.cons (IE.var 1) (IEs.cons (IE.bop (Bop.sub) (IE.bop (Bop.sub) (IE.var 2) (IE.var 3)) (IE.c (D.int 1))) (IEs.nil))))))) (ISs.nil)) (ISs.nil)) (ISs.cons (IS.ret (IE.tup (IEs.cons (IE.var 3) (IEs.cons (IE.var 4) (IEs.nil))))) (ISs.nil))))
/-- names: [_law_script, _law_feed, _law_lys, _law_stk, _law_i, _law_j, _law_s, _law_across, _law_up, _law_sheets] -/
def ir__law_box : ISs :=
  ISs.cons (IS.ite (IE.cmp (Cop.eq) (IE.var 3) (IE.tup (IEs.nil))) (ISs.cons (IS.ret (IE.c (D.non))) (ISs.nil)) (ISs.nil)) (ISs.cons (IS.asgN 4 (IE.call 20 (IEs.cons (IE.var 0) (IEs.cons (IE.var 1) (IEs.cons (IE.blt (Blt.len) (IEs.cons (IE.sub (IE.var 2) (IE.c (D.int 0))) (IEs.nil))) (IEs.nil)))))) (ISs.cons (IS.asgN 5 (IE.call 20 (IEs.cons (IE.var 0) (IEs.cons (IE.var 1) (IEs.cons (IE.blt (Blt.len) (IEs.cons (IE.sub (IE.var 2) (IE.c (D.int 1))) (IEs.nil))) (IEs.nil)))))) (ISs.cons (IS.asgN 6 (IE.call 20 (IEs.cons (IE.var 0) (IEs.cons (IE.var 1) (IEs.cons (IE.blt (Blt.len) (IEs.cons (IE.var 3) (IEs.nil))) (IEs.nil)))))) (ISs.cons (IS.asgN 7 (IE.bop (Bop.fdiv) (IE.sub (IE.sub (IE.var 3) (IE.var 6)) (IE.c (D.int 0))) (IE.sub (IE.sub (IE.var 2) (IE.c (D.int 0))) (IE.var 4)))) (ISs.cons (IS.asgN 8 (IE.bop (Bop.fdiv) (IE.sub (IE.sub (IE.var 3) (IE.var 6)) (IE.c (D.int 1))) (IE.sub (IE.sub (IE.var 2) (IE.c (D.int 1))) (IE.var 5)))) (ISs.cons (IS.ite (IE.or (IE.cmp (Cop.eq) (IE.var 7) (IE.c (D.int 0))) (IE.cmp (Cop.eq) (IE.var 8) (IE.c (D.int 0)))) (ISs.cons (IS.ret (IE.c (D.non))) (ISs.nil)) (ISs.nil)) (ISs.cons (IS.asgN 9 (IE.call 24 (IEs.cons (IE.var 0) (IEs.cons (IE.var 1) (IEs.cons (IE.sub (IE.sub (IE.var 3) (IE.var 6)) (IE.c (D.int 2))) (IEs.nil)))))) (ISs.cons (IS.ret (IE.tup (IEs.cons (IE.var 4) (IEs.cons (IE.var 5) (IEs.cons (IE.var 6) (IEs.cons (IE.var 9) (IEs.cons (IE.call 24 (IEs.cons (IE.var 0) (IEs.cons (IE.var 1) (IEs.cons (IE.var 7) (IEs.nil))))) (IEs.cons (IE.call 24 (IEs.cons (IE.var 0) (IEs.cons (IE.var 1) (IEs.cons (IE.var 8) (IEs.nil))))) (IEs.nil))))))))) (ISs.nil)))))))))
/-- names: [_law_item] -/
def ir__law_number : ISs :=
  ISs.cons (IS.ret (IE.and (IE.isi (IE.var 0) (Ty.int)) (IE.and (IE.not (IE.isi (IE.var 0) (Ty.bool))) (IE.cmp (Cop.ge) (IE.var 0) (IE.c (D.int 0)))))) (ISs.nil)
def b__law_formed_1 : ISs := ISs.cons (IS.ite (IE.or (IE.not (IE.isi (IE.sub (IE.var 1) (IE.var 2)) (Ty.tuple))) (IE.or (IE.cmp (Cop.ne) (IE.blt (Blt.len) (IEs.cons (IE.sub (IE.var 1) (IE.var 2)) (IEs.nil))) (IE.c (D.int 2))) (IE.or (IE.not (IE.call 26 (IEs.cons (IE.sub (IE.sub (IE.var 1) (IE.var 2)) (IE.c (D.int 0))) (IEs.nil)))) (IE.not (IE.call 26 (IEs.cons (IE.sub (IE.sub (IE.var 1) (IE.var 2)) (IE.c (D.int 1))) (IEs.nil))))))) (ISs.cons (IS.ret (IE.c (D.bl false))) (ISs.nil)) (ISs.nil)) (ISs.cons (IS.ite (IE.cmp (Cop.eq) (IE.sub (IE.sub (IE.var 1) (IE.var 2)) (IE.c (D.int 1))) (IE.c (D.int 0))) (ISs.cons (IS.ret (IE.c (D.bl false))) (ISs.nil)) (ISs.nil)) (ISs.nil))
/-- names: [_law_lys, _law_box_here, _law_k] -/
def ir__law_formed : ISs :=
  ISs.cons (IS.ite (IE.or (IE.not (IE.isi (IE.var 1) (Ty.tuple))) (IE.cmp (Cop.ne) (IE.blt (Blt.len) (IEs.cons (IE.var 1) (IEs.nil))) (IE.c (D.int 6)))) (ISs.cons (IS.ret (IE.c (D.bl false))) (ISs.nil)) (ISs.nil)) (ISs.cons (IS.ite (IE.or (IE.not (IE.call 26 (IEs.cons (IE.sub (IE.var 1) (IE.c (D.int 0))) (IEs.nil)))) (IE.or (IE.not (IE.call 26 (IEs.cons (IE.sub (IE.var 1) (IE.c (D.int 1))) (IEs.nil)))) (IE.not (IE.call 26 (IEs.cons (IE.sub (IE.var 1) (IE.c (D.int 2))) (IEs.nil)))))) (ISs.cons (IS.ret (IE.c (D.bl false))) (ISs.nil)) (ISs.nil)) (ISs.cons (IS.ite (IE.or (IE.cmp (Cop.ge) (IE.sub (IE.var 1) (IE.c (D.int 0))) (IE.blt (Blt.len) (IEs.cons (IE.sub (IE.var 0) (IE.c (D.int 0))) (IEs.nil)))) (IE.cmp (Cop.ge) (IE.sub (IE.var 1) (IE.c (D.int 1))) (IE.blt (Blt.len) (IEs.cons (IE.sub (IE.var 0) (IE.c (D.int 1))) (IEs.nil))))) (ISs.cons (IS.ret (IE.c (D.bl false))) (ISs.nil)) (ISs.nil)) (ISs.cons (IS.for_ (Tg.name 2) [] (ISrc.rng2 (IE.c (D.int 3)) (IE.c (D.int 6))) b__law_formed_1) (ISs.cons (IS.ret (IE.c (D.bl true))) (ISs.nil)))))
/-- names: [_law_lys, _law_stk, _law_box_here, _law_row_here] -/
def ir__law_within : ISs :=
  ISs.cons (IS.ite (IE.cmp (Cop.ge) (IE.sub (IE.var 2) (IE.c (D.int 2))) (IE.blt (Blt.len) (IEs.cons (IE.var 1) (IEs.nil)))) (ISs.cons (IS.ret (IE.c (D.bl false))) (ISs.nil)) (ISs.nil)) (ISs.cons (IS.asg 3 (IE.sub (IE.var 1) (IE.sub (IE.var 2) (IE.c (D.int 2))))) (ISs.cons (IS.ite (IE.cmp (Cop.gt) (IE.bop (Bop.add) (IE.sub (IE.sub (IE.var 2) (IE.c (D.int 3))) (IE.c (D.int 0))) (IE.sub (IE.sub (IE.var 2) (IE.c (D.int 3))) (IE.c (D.int 1)))) (IE.sub (IE.var 3) (IE.c (D.int 2)))) (ISs.cons (IS.ret (IE.c (D.bl false))) (ISs.nil)) (ISs.nil)) (ISs.cons (IS.ret (IE.and (IE.cmp (Cop.le) (IE.bop (Bop.mul) (IE.bop (Bop.add) (IE.sub (IE.sub (IE.var 2) (IE.c (D.int 4))) (IE.c (D.int 0))) (IE.sub (IE.sub (IE.var 2) (IE.c (D.int 4))) (IE.c (D.int 1)))) (IE.sub (IE.sub (IE.var 0) (IE.c (D.int 0))) (IE.sub (IE.var 2) (IE.c (D.int 0))))) (IE.sub (IE.var 3) (IE.c (D.int 0)))) (IE.cmp (Cop.le) (IE.bop (Bop.mul) (IE.bop (Bop.add) (IE.sub (IE.sub (IE.var 2) (IE.c (D.int 5))) (IE.c (D.int 0))) (IE.sub (IE.sub (IE.var 2) (IE.c (D.int 5))) (IE.c (D.int 1)))) (IE.sub (IE.sub (IE.var 0) (IE.c (D.int 1))) (IE.sub (IE.var 2) (IE.c (D.int 1))))) (IE.sub (IE.var 3) (IE.c (D.int 1)))))) (ISs.nil))))
/-- names: [_law_low, _law_top, _law_low2, _law_top2] -/
def ir__law_common : ISs :=
  ISs.cons (IS.ret (IE.cmp (Cop.lt) (IE.blt (Blt.max2) (IEs.cons (IE.var 0) (IEs.cons (IE.var 2) (IEs.nil)))) (IE.blt (Blt.min2) (IEs.cons (IE.var 1) (IEs.cons (IE.var 3) (IEs.nil)))))) (ISs.nil)
/-- names: [_law_lys, _law_p, _law_q, _law_w1, _law_w2, _law_h1, _law_h2] -/
def ir__law_meet : ISs :=
  ISs.cons (IS.ite (IE.or (IE.cmp (Cop.ne) (IE.sub (IE.var 1) (IE.c (D.int 2))) (IE.sub (IE.var 2) (IE.c (D.int 2)))) (IE.not (IE.call 29 (IEs.cons (IE.sub (IE.sub (IE.var 1) (IE.c (D.int 3))) (IE.c (D.int 0))) (IEs.cons (IE.bop (Bop.add) (IE.sub (IE.sub (IE.var 1) (IE.c (D.int 3))) (IE.c (D.int 0))) (IE.sub (IE.sub (IE.var 1) (IE.c (D.int 3))) (IE.c (D.int 1)))) (IEs.cons (IE.sub (IE.sub (IE.var 2) (IE.c (D.int 3))) (IE.c (D.int 0))) (IEs.cons (IE.bop (Bop.add) (IE.sub (IE.sub (IE.var 2) (IE.c (D.int 3))) (IE.c (D.int 0))) (IE.sub (IE.sub (IE.var 2) (IE.c (D.int 3))) (IE.c (D.int 1)))) (IEs.nil)))))))) (ISs.cons (IS.ret (IE.c (D.bl false))) (ISs.nil)) (ISs.nil)) (ISs.cons (IS.asgN 3 (IE.sub (IE.sub (IE.var 0) (IE.c (D.int 0))) (IE.sub (IE.var 1) (IE.c (D.int 0))))) (ISs.cons (IS.asgN 4 (IE.sub (IE.sub (IE.var 0) (IE.c (D.int 0))) (IE.sub (IE.var 2) (IE.c (D.int 0))))) (ISs.cons (IS.asgN 5 (IE.sub (IE.sub (IE.var 0) (IE.c (D.int 1))) (IE.sub (IE.var 1) (IE.c (D.int 1))))) (ISs.cons (IS.asgN 6 (IE.sub (IE.sub (IE.var 0) (IE.c (D.int 1))) (IE.sub (IE.var 2) (IE.c (D.int 1))))) (ISs.cons (IS.ite (IE.not (IE.call 29 (IEs.cons (IE.bop (Bop.mul) (IE.sub (IE.sub (IE.var 1) (IE.c (D.int 4))) (IE.c (D.int 0))) (IE.var 3)) (IEs.cons (IE.bop (Bop.mul) (IE.bop (Bop.add) (IE.sub (IE.sub (IE.var 1) (IE.c (D.int 4))) (IE.c (D.int 0))) (IE.sub (IE.sub (IE.var 1) (IE.c (D.int 4))) (IE.c (D.int 1)))) (IE.var 3)) (IEs.cons (IE.bop (Bop.mul) (IE.sub (IE.sub (IE.var 2) (IE.c (D.int 4))) (IE.c (D.int 0))) (IE.var 4)) (IEs.cons (IE.bop (Bop.mul) (IE.bop (Bop.add) (IE.sub (IE.sub (IE.var 2) (IE.c (D.int 4))) (IE.c (D.int 0))) (IE.sub (IE.sub (IE.var 2) (IE.c (D.int 4))) (IE.c (D.int 1)))) (IE.var 4)) (IEs.nil))))))) (ISs.cons (IS.ret (IE.c (D.bl false))) (ISs.nil)) (ISs.nil)) (ISs.cons (IS.ret (IE.call 29 (IEs.cons (IE.bop (Bop.mul) (IE.sub (IE.sub (IE.var 1) (IE.c (D.int 5))) (IE.c (D.int 0))) (IE.var 5)) (IEs.cons (IE.bop (Bop.mul) (IE.bop (Bop.add) (IE.sub (IE.sub (IE.var 1) (IE.c (D.int 5))) (IE.c (D.int 0))) (IE.sub (IE.sub (IE.var 1) (IE.c (D.int 5))) (IE.c (D.int 1)))) (IE.var 5)) (IEs.cons (IE.bop (Bop.mul) (IE.sub (IE.sub (IE.var 2) (IE.c (D.int 5))) (IE.c (D.int 0))) (IE.var 6)) (IEs.cons (IE.bop (Bop.mul) (IE.bop (Bop.add) (IE.sub (IE.sub (IE.var 2) (IE.c (D.int 5))) (IE.c (D.int 0))) (IE.sub (IE.sub (IE.var 2) (IE.c (D.int 5))) (IE.c (D.int 1)))) (IE.var 6)) (IEs.nil))))))) (ISs.nil)))))))
def e__law_counts_1 : IE := IE.tup (IEs.cons (IE.sub (IE.var 4) (IE.c (D.int 0))) (IEs.cons (IE.sub (IE.var 4) (IE.c (D.int 1))) (IEs.nil)))
def e__law_counts_2 : IE := IE.bop (Bop.mul) (IE.bop (Bop.mul) (IE.sub (IE.sub (IE.var 4) (IE.c (D.int 3))) (IE.c (D.int 1))) (IE.sub (IE.sub (IE.var 4) (IE.c (D.int 4))) (IE.c (D.int 1)))) (IE.sub (IE.sub (IE.var 4) (IE.c (D.int 5))) (IE.c (D.int 1)))
def i__law_counts_1 : IEs := IEs.cons (IE.cmp (Cop.eq) (IE.tup (IEs.cons (IE.sub (IE.var 4) (IE.c (D.int 0))) (IEs.cons (IE.sub (IE.var 4) (IE.c (D.int 1))) (IEs.nil)))) (IE.var 2)) (IEs.nil)
def b__law_counts_1 : ISs := ISs.cons (IS.app 1 (IE.tup (IEs.cons (IE.sub (IE.var 2) (IE.c (D.int 0))) (IEs.cons (IE.sub (IE.var 2) (IE.c (D.int 1))) (IEs.cons (IE.blt (Blt.sum) (IEs.cons (IE.lc e__law_counts_2 (Tg.name 4) [3, 4] (ISrc.seq (IE.var 0)) i__law_counts_1) (IEs.nil))) (IEs.nil)))))) (ISs.nil)
/-- names: [_law_boxes, _law_out, _law_kind, .0, _law_p] -/
def ir__law_counts : ISs :=
  ISs.cons (IS.asg 1 (IE.lst (IEs.nil))) (ISs.cons (IS.for_ (Tg.name 2) [] (ISrc.seq (IE.blt (Blt.sset) (IEs.cons (IE.lc e__law_counts_1 (Tg.name 4) [3, 4] (ISrc.seq (IE.var 0)) (IEs.nil)) (IEs.nil)))) b__law_counts_1) (ISs.cons (IS.ret (IE.blt (Blt.tuple) (IEs.cons (IE.var 1) (IEs.nil)))) (ISs.nil)))
def b__law_due_1 : ISs := ISs.cons (IS.ite (IE.not (IE.call 27 (IEs.cons (IE.var 0) (IEs.cons (IE.sub (IE.var 2) (IE.var 3)) (IEs.nil))))) (ISs.cons (IS.ret (IE.tup (IEs.cons (IE.c (D.str ("raised" : Str))) (IEs.cons (IE.c (D.str ("box" : Str))) (IEs.cons (IE.var 3) (IEs.nil)))))) (ISs.nil)) (ISs.nil)) (ISs.cons (IS.ite (IE.not (IE.call 28 (IEs.cons (IE.var 0) (IEs.cons (IE.var 1) (IEs.cons (IE.sub (IE.var 2) (IE.var 3)) (IEs.nil)))))) (ISs.cons (IS.ret (IE.tup (IEs.cons (IE.c (D.str ("raised" : Str))) (IEs.cons (IE.c (D.str ("inside" : Str))) (IEs.cons (IE.var 3) (IEs.nil)))))) (ISs.nil)) (ISs.nil)) (ISs.nil))
def b__law_due_2 : ISs := ISs.cons (IS.ite (IE.call 30 (IEs.cons (IE.var 0) (IEs.cons (IE.sub (IE.var 2) (IE.var 3)) (IEs.cons (IE.sub (IE.var 2) (IE.var 4)) (IEs.nil))))) (ISs.cons (IS.ret (IE.tup (IEs.cons (IE.c (D.str ("raised" : Str))) (IEs.cons (IE.c (D.str ("overlap" : Str))) (IEs.cons (IE.tup (IEs.cons (IE.var 3) (IEs.cons (IE.var 4) (IEs.nil)))) (IEs.nil)))))) (ISs.nil)) (ISs.nil)) (ISs.nil)
def b__law_due_3 : ISs := ISs.cons (IS.for_ (Tg.name 4) [] (ISrc.rng1 (IE.var 3)) b__law_due_2) (ISs.nil)
/-- names: [_law_lys, _law_stk, _law_told, _law_k, _law_j] -/
def ir__law_due : ISs :=
  ISs.cons (IS.ite (IE.not (IE.isi (IE.var 2) (Ty.tuple))) (ISs.cons (IS.ret (IE.tup (IEs.cons (IE.c (D.str ("raised" : Str))) (IEs.cons (IE.c (D.str ("laying" : Str))) (IEs.cons (IE.neg (IE.c (D.int 1))) (IEs.nil)))))) (ISs.nil)) (ISs.nil)) (ISs.cons (IS.for_ (Tg.name 3) [] (ISrc.rng1 (IE.blt (Blt.len) (IEs.cons (IE.var 2) (IEs.nil)))) b__law_due_1) (ISs.cons (IS.for_ (Tg.name 3) [] (ISrc.rng1 (IE.blt (Blt.len) (IEs.cons (IE.var 2) (IEs.nil)))) b__law_due_3) (ISs.cons (IS.ret (IE.tup (IEs.cons (IE.c (D.str ("lot" : Str))) (IEs.cons (IE.call 31 (IEs.cons (IE.var 2) (IEs.nil))) (IEs.nil))))) (ISs.nil))))
def b__law_answer_1 : ISs := ISs.cons (IS.ite (IE.var 3) (ISs.cons (IS.ret (IE.tup (IEs.cons (IE.c (D.str ("lot" : Str))) (IEs.cons (IE.callp 19 (IEs.nil) (IEs.cons (IE.var 2) (IEs.cons (IE.var 0) (IEs.cons (IE.var 1) (IEs.nil)))) [1, 2, 0]) (IEs.nil))))) (ISs.nil)) (ISs.nil)) (ISs.cons (IS.ret (IE.tup (IEs.cons (IE.c (D.str ("lot" : Str))) (IEs.cons (IE.call 19 (IEs.cons (IE.var 0) (IEs.cons (IE.var 1) (IEs.cons (IE.var 2) (IEs.nil))))) (IEs.nil))))) (ISs.nil))
/-- names: [_law_lys, _law_stk, _law_told, _law_named, e] -/
def ir__law_answer : ISs :=
  ISs.cons (IS.tryR b__law_answer_1 [0] 4 (IXp.ret (IXr.tup (IXs.c (D.str ("raised" : Str)) (IXs.fld ("word" : Str) (IXs.fld ("at" : Str) (IXs.nil))))))) (ISs.nil)
def e__law_laying_1 : IE := IE.var 9
def i__law_laying_1 : IEs := IEs.cons (IE.call 30 (IEs.cons (IE.var 2) (IEs.cons (IE.var 9) (IEs.cons (IE.var 7) (IEs.nil))))) (IEs.nil)
def b__law_laying_1 : ISs := ISs.cons (IS.asgN 7 (IE.call 25 (IEs.cons (IE.var 0) (IEs.cons (IE.var 1) (IEs.cons (IE.var 2) (IEs.cons (IE.var 3) (IEs.nil))))))) (ISs.cons (IS.ite (IE.and (IE.notN (IE.var 7)) (IE.cmp (Cop.eq) (IE.lc e__law_laying_1 (Tg.name 9) [8, 9] (ISrc.seq (IE.var 5)) i__law_laying_1) (IE.lst (IEs.nil)))) (ISs.cons (IS.app 5 (IE.var 7)) (ISs.nil)) (ISs.nil)) (ISs.nil))
/-- names: [_law_script, _law_feed, _law_lys, _law_stk, _law_many, _law_out, _law_k, _law_box_here, .0, _law_p] -/
def ir__law_laying : ISs :=
  ISs.cons (IS.asg 5 (IE.lst (IEs.nil))) (ISs.cons (IS.for_ (Tg.name 6) [] (ISrc.rng1 (IE.var 4)) b__law_laying_1) (ISs.cons (IS.ret (IE.blt (Blt.tuple) (IEs.cons (IE.var 5) (IEs.nil)))) (ISs.nil)))
/-- names: [_law_script, _law_feed, _law_lys, _law_stk, _law_box_here, _law_i, _law_j, _law_column, _law_row_here] -/
def ir__law_over : ISs :=
  ISs.cons (IS.asgN 5 (IE.call 20 (IEs.cons (IE.var 0) (IEs.cons (IE.var 1) (IEs.cons (IE.blt (Blt.len) (IEs.cons (IE.sub (IE.var 2) (IE.c (D.int 0))) (IEs.nil))) (IEs.nil)))))) (ISs.cons (IS.asgN 6 (IE.call 20 (IEs.cons (IE.var 0) (IEs.cons (IE.var 1) (IEs.cons (IE.blt (Blt.len) (IEs.cons (IE.sub (IE.var 2) (IE.c (D.int 1))) (IEs.nil))) (IEs.nil)))))) (ISs.cons (IS.asgN 7 (IE.bop (Bop.fdiv) (IE.bop (Bop.mul) (IE.bop (Bop.add) (IE.sub (IE.sub (IE.var 4) (IE.c (D.int 4))) (IE.c (D.int 0))) (IE.call 21 (IEs.cons (IE.var 0) (IEs.cons (IE.var 1) (IEs.cons (IE.bop (Bop.sub) (IE.sub (IE.sub (IE.var 4) (IE.c (D.int 4))) (IE.c (D.int 1))) (IE.c (D.int 1))) (IEs.nil)))))) (IE.sub (IE.sub (IE.var 2) (IE.c (D.int 0))) (IE.sub (IE.var 4) (IE.c (D.int 0))))) (IE.sub (IE.sub (IE.var 2) (IE.c (D.int 0))) (IE.var 5)))) (ISs.cons (IS.asg 8 (IE.bop (Bop.fdiv) (IE.bop (Bop.mul) (IE.bop (Bop.add) (IE.sub (IE.sub (IE.var 4) (IE.c (D.int 5))) (IE.c (D.int 0))) (IE.call 21 (IEs.cons (IE.var 0) (IEs.cons (IE.var 1) (IEs.cons (IE.bop (Bop.sub) (IE.sub (IE.sub (IE.var 4) (IE.c (D.int 5))) (IE.c (D.int 1))) (IE.c (D.int 1))) (IEs.nil)))))) (IE.sub (IE.sub (IE.var 2) (IE.c (D.int 1))) (IE.sub (IE.var 4) (IE.c (D.int 1))))) (IE.sub (IE.sub (IE.var 2) (IE.c (D.int 1))) (IE.var 6)))) (ISs.cons (IS.ret (IE.tup (IEs.cons (IE.var 5) (IEs.cons (IE.var 6) (IEs.cons (IE.sub (IE.var 4) (IE.c (D.int 2))) (IEs.cons (IE.tup (IEs.cons (IE.bop (Bop.add) (IE.sub (IE.sub (IE.var 4) (IE.c (D.int 3))) (IE.c (D.int 0))) (IE.call 21 (IEs.cons (IE.var 0) (IEs.cons (IE.var 1) (IEs.cons (IE.bop (Bop.sub) (IE.sub (IE.sub (IE.var 4) (IE.c (D.int 3))) (IE.c (D.int 1))) (IE.c (D.int 1))) (IEs.nil)))))) (IEs.cons (IE.c (D.int 1)) (IEs.nil)))) (IEs.cons (IE.tup (IEs.cons (IE.var 7) (IEs.cons (IE.c (D.int 1)) (IEs.nil)))) (IEs.cons (IE.tup (IEs.cons (IE.var 8) (IEs.cons (IE.c (D.int 1)) (IEs.nil)))) (IEs.nil))))))))) (ISs.nil)))))
/-- names: [_law_script, _law_feed, _law_box_here, _law_k, _law_start] -/
def ir__law_beside : ISs :=
  ISs.cons (IS.asgN 3 (IE.bop (Bop.add) (IE.c (D.int 3)) (IE.call 20 (IEs.cons (IE.var 0) (IEs.cons (IE.var 1) (IEs.cons (IE.c (D.int 3)) (IEs.nil))))))) (ISs.cons (IS.asgN 4 (IE.bop (Bop.add) (IE.sub (IE.sub (IE.var 2) (IE.var 3)) (IE.c (D.int 0))) (IE.sub (IE.sub (IE.var 2) (IE.var 3)) (IE.c (D.int 1))))) (ISs.cons (IS.ite (IE.cmp (Cop.eq) (IE.call 20 (IEs.cons (IE.var 0) (IEs.cons (IE.var 1) (IEs.cons (IE.c (D.int 2)) (IEs.nil))))) (IE.c (D.int 1))) (ISs.cons (IS.asgN 4 (IE.blt (Blt.max2) (IEs.cons (IE.c (D.int 0)) (IEs.cons (IE.bop (Bop.sub) (IE.sub (IE.sub (IE.var 2) (IE.var 3)) (IE.c (D.int 0))) (IE.c (D.int 1))) (IEs.nil))))) (ISs.nil)) (ISs.nil)) (ISs.cons (IS.ret (IE.bop (Bop.add) (IE.bop (Bop.add) (IE.slc (IE.var 2) (IEo.none) (IEo.some (IE.var 3))) (IE.tup (IEs.cons (IE.tup (IEs.cons (IE.var 4) (IEs.cons (IE.c (D.int 1)) (IEs.nil)))) (IEs.nil)))) (IE.slc (IE.var 2) (IEo.some (IE.bop (Bop.add) (IE.var 3) (IE.c (D.int 1)))) (IEo.none)))) (ISs.nil))))
/-- names: [_law_script, _law_feed, _law_lys, _law_stk, _law_box_here, _law_i, _law_j, _law_s, _law_sheets, _law_columns, _law_rows, _law_far, _law_row_here, _law_across, _law_up, _law_forms, _law_firsts, _law_spans, _law_beyond, _law_way, _law_k, _law_spot] -/
def ir__law_strange : ISs :=
  ISs.cons (IS.asgT [5, 6, 7, 8, 9, 10] (IE.var 4)) (ISs.cons (IS.asgN 11 (IE.bop (Bop.add) (IE.bop (Bop.pow) (IE.c (D.int 10)) (IE.c (D.int 59))) (IE.c (D.int 7)))) (ISs.cons (IS.asg 12 (IE.tup (IEs.cons (IE.c (D.int 1)) (IEs.cons (IE.c (D.int 1)) (IEs.cons (IE.c (D.int 1)) (IEs.nil)))))) (ISs.cons (IS.ite (IE.cmp (Cop.lt) (IE.var 7) (IE.blt (Blt.len) (IEs.cons (IE.var 3) (IEs.nil)))) (ISs.cons (IS.asg 12 (IE.sub (IE.var 3) (IE.var 7))) (ISs.nil)) (ISs.nil)) (ISs.cons (IS.asgN 13 (IE.bop (Bop.fdiv) (IE.sub (IE.var 12) (IE.c (D.int 0))) (IE.sub (IE.sub (IE.var 2) (IE.c (D.int 0))) (IE.var 5)))) (ISs.cons (IS.asgN 14 (IE.bop (Bop.fdiv) (IE.sub (IE.var 12) (IE.c (D.int 1))) (IE.sub (IE.sub (IE.var 2) (IE.c (D.int 1))) (IE.var 6)))) (ISs.cons (IS.asgN 15 (IE.tup (IEs.cons (IE.blt (Blt.list) (IEs.cons (IE.var 4) (IEs.nil))) (IEs.cons (IE.c (D.non)) (IEs.cons (IE.slc (IE.var 4) (IEo.none) (IEo.some (IE.c (D.int 5)))) (IEs.cons (IE.bop (Bop.add) (IE.var 4) (IE.tup (IEs.cons (IE.c (D.int 0)) (IEs.nil)))) (IEs.cons (IE.tup (IEs.cons (IE.var 5) (IEs.cons (IE.var 6) (IEs.cons (IE.var 7) (IEs.cons (IE.var 8) (IEs.cons (IE.tup (IEs.cons (IE.var 9) (IEs.cons (IE.var 10) (IEs.nil)))) (IEs.nil))))))) (IEs.cons (IE.c (D.str ("0,0:0:0*1:0*1:0*1" : Str))) (IEs.cons (IE.tup (IEs.nil)) (IEs.cons (IE.bop (Bop.add) (IE.tup (IEs.cons (IE.tup (IEs.cons (IE.var 5) (IEs.cons (IE.var 6) (IEs.nil)))) (IEs.nil))) (IE.slc (IE.var 4) (IEo.some (IE.c (D.int 2))) (IEo.none))) (IEs.nil))))))))))) (ISs.cons (IS.asgN 16 (IE.tup (IEs.cons (IE.tup (IEs.cons (IE.blt (Blt.len) (IEs.cons (IE.sub (IE.var 2) (IE.c (D.int 0))) (IEs.nil))) (IEs.cons (IE.var 6) (IEs.cons (IE.var 7) (IEs.nil))))) (IEs.cons (IE.tup (IEs.cons (IE.neg (IE.c (D.int 1))) (IEs.cons (IE.var 6) (IEs.cons (IE.var 7) (IEs.nil))))) (IEs.cons (IE.tup (IEs.cons (IE.c (D.bl true)) (IEs.cons (IE.var 6) (IEs.cons (IE.var 7) (IEs.nil))))) (IEs.cons (IE.tup (IEs.cons (IE.c (D.bl false)) (IEs.cons (IE.var 6) (IEs.cons (IE.var 7) (IEs.nil))))) (IEs.cons (IE.tup (IEs.cons (IE.c (D.non)) (IEs.cons (IE.var 6) (IEs.cons (IE.var 7) (IEs.nil))))) (IEs.cons (IE.tup (IEs.cons (IE.var 5) (IEs.cons (IE.blt (Blt.len) (IEs.cons (IE.sub (IE.var 2) (IE.c (D.int 1))) (IEs.nil))) (IEs.cons (IE.var 7) (IEs.nil))))) (IEs.cons (IE.tup (IEs.cons (IE.var 5) (IEs.cons (IE.neg (IE.c (D.int 1))) (IEs.cons (IE.var 7) (IEs.nil))))) (IEs.cons (IE.tup (IEs.cons (IE.var 5) (IEs.cons (IE.c (D.bl false)) (IEs.cons (IE.var 7) (IEs.nil))))) (IEs.cons (IE.tup (IEs.cons (IE.var 5) (IEs.cons (IE.c (D.str ("0" : Str))) (IEs.cons (IE.var 7) (IEs.nil))))) (IEs.cons (IE.tup (IEs.cons (IE.var 5) (IEs.cons (IE.var 6) (IEs.cons (IE.neg (IE.c (D.int 1))) (IEs.nil))))) (IEs.cons (IE.tup (IEs.cons (IE.var 5) (IEs.cons (IE.var 6) (IEs.cons (IE.c (D.bl true)) (IEs.nil))))) (IEs.cons (IE.tup (IEs.cons (IE.var 5) (IEs.cons (IE.var 6) (IEs.cons (IE.c (D.bl false)) (IEs.nil))))) (IEs.cons (IE.tup (IEs.cons (IE.var 5) (IEs.cons (IE.var 6) (IEs.cons (IE.blt (Blt.len) (IEs.cons (IE.var 3) (IEs.nil))) (IEs.nil))))) (IEs.cons (IE.tup (IEs.cons (IE.var 5) (IEs.cons (IE.var 6) (IEs.cons (IE.var 11) (IEs.nil))))) (IEs.cons (IE.tup (IEs.cons (IE.var 5) (IEs.cons (IE.var 6) (IEs.cons (IE.c (D.non)) (IEs.nil))))) (IEs.cons (IE.tup (IEs.cons (IE.var 11) (IEs.cons (IE.var 6) (IEs.cons (IE.var 7) (IEs.nil))))) (IEs.cons (IE.tup (IEs.cons (IE.var 5) (IEs.cons (IE.var 11) (IEs.cons (IE.var 7) (IEs.nil))))) (IEs.nil)))))))))))))))))))) (ISs.cons (IS.asgN 17 (IE.tup (IEs.cons (IE.tup (IEs.cons (IE.c (D.int 0)) (IEs.cons (IE.c (D.int 0)) (IEs.nil)))) (IEs.cons (IE.lst (IEs.cons (IE.c (D.int 0)) (IEs.cons (IE.c (D.int 1)) (IEs.nil)))) (IEs.cons (IE.tup (IEs.cons (IE.c (D.int 0)) (IEs.cons (IE.c (D.int 1)) (IEs.cons (IE.c (D.int 1)) (IEs.nil))))) (IEs.cons (IE.tup (IEs.cons (IE.c (D.int 0)) (IEs.nil))) (IEs.cons (IE.tup (IEs.cons (IE.neg (IE.c (D.int 1))) (IEs.cons (IE.c (D.int 1)) (IEs.nil)))) (IEs.cons (IE.tup (IEs.cons (IE.c (D.int 0)) (IEs.cons (IE.c (D.non)) (IEs.nil)))) (IEs.cons (IE.tup (IEs.cons (IE.c (D.non)) (IEs.cons (IE.c (D.int 1)) (IEs.nil)))) (IEs.cons (IE.tup (IEs.cons (IE.c (D.int 0)) (IEs.cons (IE.c (D.bl true)) (IEs.nil)))) (IEs.cons (IE.tup (IEs.cons (IE.c (D.bl false)) (IEs.cons (IE.c (D.int 1)) (IEs.nil)))) (IEs.cons (IE.c (D.int 0)) (IEs.cons (IE.tup (IEs.cons (IE.var 11) (IEs.cons (IE.c (D.int 1)) (IEs.nil)))) (IEs.cons (IE.tup (IEs.cons (IE.c (D.int 0)) (IEs.cons (IE.var 11) (IEs.nil)))) (IEs.cons (IE.tup (IEs.cons (IE.c (D.int 0)) (IEs.cons (IE.neg (IE.c (D.int 1))) (IEs.nil)))) (IEs.cons (IE.c (D.str ("0*1" : Str))) (IEs.cons (IE.tup (IEs.nil)) (IEs.nil)))))))))))))))))) (ISs.cons (IS.asgN 18 (IE.tup (IEs.cons (IE.tup (IEs.cons (IE.sub (IE.var 12) (IE.c (D.int 2))) (IEs.cons (IE.c (D.int 1)) (IEs.nil)))) (IEs.cons (IE.tup (IEs.cons (IE.c (D.int 0)) (IEs.cons (IE.bop (Bop.add) (IE.sub (IE.var 12) (IE.c (D.int 2))) (IE.c (D.int 1))) (IEs.nil)))) (IEs.cons (IE.tup (IEs.cons (IE.var 13) (IEs.cons (IE.c (D.int 1)) (IEs.nil)))) (IEs.cons (IE.tup (IEs.cons (IE.c (D.int 0)) (IEs.cons (IE.bop (Bop.add) (IE.var 13) (IE.c (D.int 1))) (IEs.nil)))) (IEs.cons (IE.tup (IEs.cons (IE.var 14) (IEs.cons (IE.c (D.int 1)) (IEs.nil)))) (IEs.cons (IE.tup (IEs.cons (IE.c (D.int 0)) (IEs.cons (IE.bop (Bop.add) (IE.var 14) (IE.c (D.int 1))) (IEs.nil)))) (IEs.nil))))))))) (ISs.cons (IS.asgN 19 (IE.call 20 (IEs.cons (IE.var 0) (IEs.cons (IE.var 1) (IEs.cons (IE.c (D.int 4)) (IEs.nil)))))) (ISs.cons (IS.ite (IE.cmp (Cop.eq) (IE.var 19) (IE.c (D.int 0))) (ISs.cons (IS.ret (IE.sub (IE.var 15) (IE.call 20 (IEs.cons (IE.var 0) (IEs.cons (IE.var 1) (IEs.cons (IE.c (D.int 8)) (IEs.nil))))))) (ISs.nil)) (ISs.nil)) (ISs.cons (IS.ite (IE.cmp (Cop.eq) (IE.var 19) (IE.c (D.int 1))) (ISs.cons (IS.ret (IE.bop (Bop.add) (IE.sub (IE.var 16) (IE.call 20 (IEs.cons (IE.var 0) (IEs.cons (IE.var 1) (IEs.cons (IE.c (D.int 17)) (IEs.nil)))))) (IE.slc (IE.var 4) (IEo.some (IE.c (D.int 3))) (IEo.none)))) (ISs.nil)) (ISs.nil)) (ISs.cons (IS.ite (IE.cmp (Cop.eq) (IE.var 19) (IE.c (D.int 2))) (ISs.cons (IS.asgN 20 (IE.bop (Bop.add) (IE.c (D.int 3)) (IE.call 20 (IEs.cons (IE.var 0) (IEs.cons (IE.var 1) (IEs.cons (IE.c (D.int 3)) (IEs.nil))))))) (ISs.cons (IS.ret (IE.bop (Bop.add) (IE.bop (Bop.add) (IE.slc (IE.var 4) (IEo.none) (IEo.some (IE.var 20))) (IE.tup (IEs.cons (IE.sub (IE.var 17) (IE.call 20 (IEs.cons (IE.var 0) (IEs.cons (IE.var 1) (IEs.cons (IE.c (D.int 15)) (IEs.nil)))))) (IEs.nil)))) (IE.slc (IE.var 4) (IEo.some (IE.bop (Bop.add) (IE.var 20) (IE.c (D.int 1)))) (IEo.none)))) (ISs.nil))) (ISs.nil)) (ISs.cons (IS.asgN 21 (IE.call 20 (IEs.cons (IE.var 0) (IEs.cons (IE.var 1) (IEs.cons (IE.c (D.int 6)) (IEs.nil)))))) (ISs.cons (IS.asgN 20 (IE.bop (Bop.add) (IE.c (D.int 3)) (IE.bop (Bop.fdiv) (IE.var 21) (IE.c (D.int 2))))) (ISs.cons (IS.ret (IE.bop (Bop.add) (IE.bop (Bop.add) (IE.slc (IE.var 4) (IEo.none) (IEo.some (IE.var 20))) (IE.tup (IEs.cons (IE.sub (IE.var 18) (IE.var 21)) (IEs.nil)))) (IE.slc (IE.var 4) (IEo.some (IE.bop (Bop.add) (IE.var 20) (IE.c (D.int 1)))) (IEo.none)))) (ISs.nil)))))))))))))))))
def b__law_bent_1 : ISs := ISs.cons (IS.asgN 7 (IE.tup (IEs.cons (IE.c (D.int 0)) (IEs.cons (IE.c (D.int 0)) (IEs.cons (IE.c (D.int 0)) (IEs.cons (IE.tup (IEs.cons (IE.c (D.int 0)) (IEs.cons (IE.c (D.int 1)) (IEs.nil)))) (IEs.cons (IE.tup (IEs.cons (IE.c (D.int 0)) (IEs.cons (IE.c (D.int 1)) (IEs.nil)))) (IEs.cons (IE.tup (IEs.cons (IE.c (D.int 0)) (IEs.cons (IE.c (D.int 1)) (IEs.nil)))) (IEs.nil))))))))) (ISs.cons (IS.ite (IE.cmp (Cop.gt) (IE.blt (Blt.len) (IEs.cons (IE.var 4) (IEs.nil))) (IE.c (D.int 0))) (ISs.cons (IS.asgN 7 (IE.sub (IE.var 4) (IE.call 20 (IEs.cons (IE.var 0) (IEs.cons (IE.var 1) (IEs.cons (IE.blt (Blt.len) (IEs.cons (IE.var 4) (IEs.nil))) (IEs.nil))))))) (ISs.nil)) (ISs.nil)) (ISs.cons (IS.asgN 8 (IE.call 20 (IEs.cons (IE.var 0) (IEs.cons (IE.var 1) (IEs.cons (IE.c (D.int 4)) (IEs.nil)))))) (ISs.cons (IS.ite (IE.and (IE.cmp (Cop.eq) (IE.var 8) (IE.c (D.int 0))) (IE.cmp (Cop.gt) (IE.blt (Blt.len) (IEs.cons (IE.var 4) (IEs.nil))) (IE.c (D.int 0)))) (ISs.cons (IS.asgN 9 (IE.call 35 (IEs.cons (IE.var 0) (IEs.cons (IE.var 1) (IEs.cons (IE.var 2) (IEs.cons (IE.var 3) (IEs.cons (IE.var 7) (IEs.nil)))))))) (ISs.nil)) (ISs.cons (IS.ite (IE.cmp (Cop.eq) (IE.var 8) (IE.c (D.int 1))) (ISs.cons (IS.asgN 9 (IE.call 36 (IEs.cons (IE.var 0) (IEs.cons (IE.var 1) (IEs.cons (IE.var 7) (IEs.nil)))))) (ISs.nil)) (ISs.cons (IS.ite (IE.and (IE.cmp (Cop.eq) (IE.var 8) (IE.c (D.int 2))) (IE.cmp (Cop.eq) (IE.call 20 (IEs.cons (IE.var 0) (IEs.cons (IE.var 1) (IEs.cons (IE.c (D.int 3)) (IEs.nil))))) (IE.c (D.int 0)))) (ISs.cons (IS.asgN 9 (IE.var 7)) (ISs.nil)) (ISs.cons (IS.asgN 9 (IE.call 37 (IEs.cons (IE.var 0) (IEs.cons (IE.var 1) (IEs.cons (IE.var 2) (IEs.cons (IE.var 3) (IEs.cons (IE.var 7) (IEs.nil)))))))) (ISs.nil))) (ISs.nil))) (ISs.nil))) (ISs.cons (IS.asgN 10 (IE.call 20 (IEs.cons (IE.var 0) (IEs.cons (IE.var 1) (IEs.cons (IE.bop (Bop.add) (IE.blt (Blt.len) (IEs.cons (IE.var 5) (IEs.nil))) (IE.c (D.int 1))) (IEs.nil)))))) (ISs.cons (IS.asg 5 (IE.bop (Bop.add) (IE.bop (Bop.add) (IE.slc (IE.var 5) (IEo.none) (IEo.some (IE.var 10))) (IE.tup (IEs.cons (IE.var 9) (IEs.nil)))) (IE.slc (IE.var 5) (IEo.some (IE.bop (Bop.add) (IE.var 10) (IE.call 20 (IEs.cons (IE.var 0) (IEs.cons (IE.var 1) (IEs.cons (IE.c (D.int 2)) (IEs.nil))))))) (IEo.none)))) (ISs.nil))))))
/-- names: [_law_script, _law_feed, _law_lys, _law_stk, _law_good, _law_told, _law_turn, _law_box_here, _law_way, _law_entry, _law_spot] -/
def ir__law_bent : ISs :=
  ISs.cons (IS.asg 5 (IE.var 4)) (ISs.cons (IS.for_ (Tg.name 6) [] (ISrc.rng1 (IE.bop (Bop.add) (IE.c (D.int 1)) (IE.sub (IE.tup (IEs.cons (IE.c (D.int 0)) (IEs.cons (IE.c (D.int 1)) (IEs.cons (IE.c (D.int 0)) (IEs.cons (IE.c (D.int 2)) (IEs.nil)))))) (IE.call 20 (IEs.cons (IE.var 0) (IEs.cons (IE.var 1) (IEs.cons (IE.c (D.int 4)) (IEs.nil)))))))) b__law_bent_1) (ISs.cons (IS.ret (IE.var 5)) (ISs.nil)))
def b_law_1 : ISs := ISs.cons (IS.app 7 (IE.call 38 (IEs.cons (IE.var 0) (IEs.cons (IE.var 1) (IEs.cons (IE.var 3) (IEs.cons (IE.var 4) (IEs.cons (IE.var 6) (IEs.nil)))))))) (ISs.nil)
def e_law_1 : IE := IE.blt (Blt.list) (IEs.cons (IE.var 13) (IEs.nil))
def b_law_2 : ISs := ISs.cons (IS.asgN 11 (IE.blt (Blt.repr) (IEs.cons (IE.call 32 (IEs.cons (IE.var 3) (IEs.cons (IE.var 4) (IEs.cons (IE.var 10) (IEs.nil))))) (IEs.nil)))) (ISs.cons (IS.ite (IE.or (IE.cmp (Cop.ne) (IE.blt (Blt.repr) (IEs.cons (IE.call 33 (IEs.cons (IE.var 3) (IEs.cons (IE.var 4) (IEs.cons (IE.var 10) (IEs.cons (IE.c (D.bl false)) (IEs.nil)))))) (IEs.nil))) (IE.var 11)) (IE.cmp (Cop.ne) (IE.blt (Blt.repr) (IEs.cons (IE.call 33 (IEs.cons (IE.var 3) (IEs.cons (IE.var 4) (IEs.cons (IE.var 10) (IEs.cons (IE.c (D.bl true)) (IEs.nil)))))) (IEs.nil))) (IE.var 11))) (ISs.cons (IS.ret (IE.c (D.bl false))) (ISs.nil)) (ISs.nil)) (ISs.nil))
/-- names: [_law_script, _law_feed, _law_scene, _law_lys, _law_stk, _law_many, _law_good, _law_things, _law_turn, _law_odd, _law_told, _law_due_here, .0, _law_p] -/
def ir_law : ISs :=
  ISs.cons (IS.asg 1 (IE.lst (IEs.cons (IE.c (D.int 0)) (IEs.cons (IE.c (D.int 0)) (IEs.cons (IE.c (D.int 60013)) (IEs.nil)))))) (ISs.cons (IS.asgN 2 (IE.call 20 (IEs.cons (IE.var 0) (IEs.cons (IE.var 1) (IEs.cons (IE.c (D.int 8)) (IEs.nil)))))) (ISs.cons (IS.asgN 3 (IE.tup (IEs.cons (IE.call 22 (IEs.cons (IE.var 0) (IEs.cons (IE.var 1) (IEs.cons (IE.var 2) (IEs.nil))))) (IEs.cons (IE.call 22 (IEs.cons (IE.var 0) (IEs.cons (IE.var 1) (IEs.cons (IE.var 2) (IEs.nil))))) (IEs.nil))))) (ISs.cons (IS.asgN 4 (IE.call 23 (IEs.cons (IE.var 0) (IEs.cons (IE.var 1) (IEs.cons (IE.var 2) (IEs.cons (IE.var 3) (IEs.nil))))))) (ISs.cons (IS.asgN 5 (IE.bop (Bop.add) (IE.c (D.int 2)) (IE.call 20 (IEs.cons (IE.var 0) (IEs.cons (IE.var 1) (IEs.cons (IE.c (D.int 9)) (IEs.nil))))))) (ISs.cons (IS.ite (IE.cmp (Cop.eq) (IE.call 20 (IEs.cons (IE.var 0) (IEs.cons (IE.var 1) (IEs.cons (IE.c (D.int 8)) (IEs.nil))))) (IE.c (D.int 0))) (ISs.cons (IS.asgN 5 (IE.bop (Bop.mul) (IE.var 5) (IE.c (D.int 3)))) (ISs.nil)) (ISs.nil)) (ISs.cons (IS.asgN 6 (IE.call 34 (IEs.cons (IE.var 0) (IEs.cons (IE.var 1) (IEs.cons (IE.var 3) (IEs.cons (IE.var 4) (IEs.cons (IE.var 5) (IEs.nil)))))))) (ISs.cons (IS.asg 7 (IE.lst (IEs.cons (IE.var 6) (IEs.nil)))) (ISs.cons (IS.for_ (Tg.name 8) [] (ISrc.rng1 (IE.c (D.int 4))) b_law_1) (ISs.cons (IS.asgN 9 (IE.tup (IEs.cons (IE.blt (Blt.list) (IEs.cons (IE.var 6) (IEs.nil))) (IEs.cons (IE.c (D.non)) (IEs.cons (IE.c (D.str ("" : Str))) (IEs.cons (IE.neg (IE.c (D.int 1))) (IEs.cons (IE.c (D.bl true)) (IEs.cons (IE.lc e_law_1 (Tg.name 13) [12, 13] (ISrc.seq (IE.var 6)) (IEs.nil)) (IEs.cons (IE.c (D.int 0)) (IEs.cons (IE.c (D.str ("()" : Str))) (IEs.nil))))))))))) (ISs.cons (IS.app 7 (IE.sub (IE.var 9) (IE.call 20 (IEs.cons (IE.var 0) (IEs.cons (IE.var 1) (IEs.cons (IE.c (D.int 8)) (IEs.nil))))))) (ISs.cons (IS.for_ (Tg.name 10) [] (ISrc.seq (IE.var 7)) b_law_2) (ISs.cons (IS.ret (IE.c (D.bl true))) (ISs.nil)))))))))))))
end K20
end Ev
end
section
set_option linter.all false
namespace Ev
namespace K20
open PySem (Str)
instance : StOps SL := slOps
def g0 : List (Fn SL) := []
def f_let : Fn SL := evD g0 1 3 ir_let
def g1 : List (Fn SL) := [f_let]
def f_merged : Fn SL := evD g1 1 7 ir_merged
def g2 : List (Fn SL) := [f_let, f_merged]
def f_is_integer : Fn SL := evD g2 1 1 ir_is_integer
def g3 : List (Fn SL) := [f_let, f_merged, f_is_integer]
def f_is_number : Fn SL := evD g3 1 1 ir_is_number
@[simp] theorem g3_2 : g3[2]? = some f_is_integer := rfl
def g4 : List (Fn SL) := [f_let, f_merged, f_is_integer, f_is_number]
def f_is_count : Fn SL := evD g4 1 1 ir_is_count
@[simp] theorem g4_2 : g4[2]? = some f_is_integer := rfl
def g5 : List (Fn SL) := [f_let, f_merged, f_is_integer, f_is_number, f_is_count]
def f_is_index : Fn SL := evD g5 2 2 ir_is_index
@[simp] theorem g5_3 : g5[3]? = some f_is_number := rfl
def g6 : List (Fn SL) := [f_let, f_merged, f_is_integer, f_is_number, f_is_count, f_is_index]
def f_is_tuple_of : Fn SL := evD g6 2 2 ir_is_tuple_of
def g7 : List (Fn SL) := [f_let, f_merged, f_is_integer, f_is_number, f_is_count, f_is_index, f_is_tuple_of]
def f_is_span : Fn SL := evD g7 1 1 ir_is_span
@[simp] theorem g7_3 : g7[3]? = some f_is_number := rfl
@[simp] theorem g7_4 : g7[4]? = some f_is_count := rfl
@[simp] theorem g7_6 : g7[6]? = some f_is_tuple_of := rfl
def g8 : List (Fn SL) := [f_let, f_merged, f_is_integer, f_is_number, f_is_count, f_is_index, f_is_tuple_of, f_is_span]
def f_is_kind : Fn SL := evD g8 2 2 ir_is_kind
@[simp] theorem g8_5 : g8[5]? = some f_is_index := rfl
@[simp] theorem g8_6 : g8[6]? = some f_is_tuple_of := rfl
def g9 : List (Fn SL) := [f_let, f_merged, f_is_integer, f_is_number, f_is_count, f_is_index, f_is_tuple_of, f_is_span, f_is_kind]
def f_is_span_within : Fn SL := evD g9 2 2 ir_is_span_within
@[simp] theorem g9_7 : g9[7]? = some f_is_span := rfl
def g10 : List (Fn SL) := [f_let, f_merged, f_is_integer, f_is_number, f_is_count, f_is_index, f_is_tuple_of, f_is_span, f_is_kind, f_is_span_within]
def f_is_box : Fn SL := evD g10 3 12 ir_is_box
@[simp] theorem g10_5 : g10[5]? = some f_is_index := rfl
@[simp] theorem g10_6 : g10[6]? = some f_is_tuple_of := rfl
@[simp] theorem g10_8 : g10[8]? = some f_is_kind := rfl
@[simp] theorem g10_9 : g10[9]? = some f_is_span_within := rfl
def g11 : List (Fn SL) := [f_let, f_merged, f_is_integer, f_is_number, f_is_count, f_is_index, f_is_tuple_of, f_is_span, f_is_kind, f_is_span_within, f_is_box]
def f_shares_of : Fn SL := evD g11 1 5 ir_shares_of
def g12 : List (Fn SL) := [f_let, f_merged, f_is_integer, f_is_number, f_is_count, f_is_index, f_is_tuple_of, f_is_span, f_is_kind, f_is_span_within, f_is_box, f_shares_of]
def f_span_ground : Fn SL := evD g12 2 2 ir_span_ground
def g13 : List (Fn SL) := [f_let, f_merged, f_is_integer, f_is_number, f_is_count, f_is_index, f_is_tuple_of, f_is_span, f_is_kind, f_is_span_within, f_is_box, f_shares_of, f_span_ground]
def f_ground_in : Fn SL := evD g13 2 12 ir_ground_in
@[simp] theorem g13_12 : g13[12]? = some f_span_ground := rfl
def g14 : List (Fn SL) := [f_let, f_merged, f_is_integer, f_is_number, f_is_count, f_is_index, f_is_tuple_of, f_is_span, f_is_kind, f_is_span_within, f_is_box, f_shares_of, f_span_ground, f_ground_in]
def f_grounds_meet : Fn SL := evD g14 2 16 ir_grounds_meet
def g15 : List (Fn SL) := [f_let, f_merged, f_is_integer, f_is_number, f_is_count, f_is_index, f_is_tuple_of, f_is_span, f_is_kind, f_is_span_within, f_is_box, f_shares_of, f_span_ground, f_ground_in, f_grounds_meet]
def f_is_box_like : Fn SL := evD g15 2 4 ir_is_box_like
@[simp] theorem g15_3 : g15[3]? = some f_is_number := rfl
@[simp] theorem g15_6 : g15[6]? = some f_is_tuple_of := rfl
@[simp] theorem g15_7 : g15[7]? = some f_is_span := rfl
@[simp] theorem g15_8 : g15[8]? = some f_is_kind := rfl
def g16 : List (Fn SL) := [f_let, f_merged, f_is_integer, f_is_number, f_is_count, f_is_index, f_is_tuple_of, f_is_span, f_is_kind, f_is_span_within, f_is_box, f_shares_of, f_span_ground, f_ground_in, f_grounds_meet, f_is_box_like]
def f_first_meeting : Fn SL := evD g16 2 8 ir_first_meeting
@[simp] theorem g16_13 : g16[13]? = some f_ground_in := rfl
@[simp] theorem g16_14 : g16[14]? = some f_grounds_meet := rfl
def g17 : List (Fn SL) := [f_let, f_merged, f_is_integer, f_is_number, f_is_count, f_is_index, f_is_tuple_of, f_is_span, f_is_kind, f_is_span_within, f_is_box, f_shares_of, f_span_ground, f_ground_in, f_grounds_meet, f_is_box_like, f_first_meeting]
def f_laying_fault : Fn SL := evD g17 3 6 ir_laying_fault
@[simp] theorem g17_10 : g17[10]? = some f_is_box := rfl
@[simp] theorem g17_15 : g17[15]? = some f_is_box_like := rfl
@[simp] theorem g17_16 : g17[16]? = some f_first_meeting := rfl
def g18 : List (Fn SL) := [f_let, f_merged, f_is_integer, f_is_number, f_is_count, f_is_index, f_is_tuple_of, f_is_span, f_is_kind, f_is_span_within, f_is_box, f_shares_of, f_span_ground, f_ground_in, f_grounds_meet, f_is_box_like, f_first_meeting, f_laying_fault]
def f_lot_of_boxes : Fn SL := evD g18 1 3 ir_lot_of_boxes
@[simp] theorem g18_1 : g18[1]? = some f_merged := rfl
@[simp] theorem g18_11 : g18[11]? = some f_shares_of := rfl
def g19 : List (Fn SL) := [f_let, f_merged, f_is_integer, f_is_number, f_is_count, f_is_index, f_is_tuple_of, f_is_span, f_is_kind, f_is_span_within, f_is_box, f_shares_of, f_span_ground, f_ground_in, f_grounds_meet, f_is_box_like, f_first_meeting, f_laying_fault, f_lot_of_boxes]
def f_lets_laying : Fn SL := evD g19 3 3 ir_lets_laying
@[simp] theorem g19_0 : g19[0]? = some f_let := rfl
@[simp] theorem g19_17 : g19[17]? = some f_laying_fault := rfl
@[simp] theorem g19_18 : g19[18]? = some f_lot_of_boxes := rfl
def g20 : List (Fn SL) := [f_let, f_merged, f_is_integer, f_is_number, f_is_count, f_is_index, f_is_tuple_of, f_is_span, f_is_kind, f_is_span_within, f_is_box, f_shares_of, f_span_ground, f_ground_in, f_grounds_meet, f_is_box_like, f_first_meeting, f_laying_fault, f_lot_of_boxes, f_lets_laying]
def f__law_pick : Fn SL := evD g20 3 5 ir__law_pick
def g21 : List (Fn SL) := [f_let, f_merged, f_is_integer, f_is_number, f_is_count, f_is_index, f_is_tuple_of, f_is_span, f_is_kind, f_is_span_within, f_is_box, f_shares_of, f_span_ground, f_ground_in, f_grounds_meet, f_is_box_like, f_first_meeting, f_laying_fault, f_lot_of_boxes, f_lets_laying, f__law_pick]
def f__law_big : Fn SL := evD g21 3 6 ir__law_big
@[simp] theorem g21_20 : g21[20]? = some f__law_pick := rfl
def g22 : List (Fn SL) := [f_let, f_merged, f_is_integer, f_is_number, f_is_count, f_is_index, f_is_tuple_of, f_is_span, f_is_kind, f_is_span_within, f_is_box, f_shares_of, f_span_ground, f_ground_in, f_grounds_meet, f_is_box_like, f_first_meeting, f_laying_fault, f_lot_of_boxes, f_lets_laying, f__law_pick, f__law_big]
def f__law_row : Fn SL := evD g22 3 5 ir__law_row
@[simp] theorem g22_20 : g22[20]? = some f__law_pick := rfl
@[simp] theorem g22_21 : g22[21]? = some f__law_big := rfl
def g23 : List (Fn SL) := [f_let, f_merged, f_is_integer, f_is_number, f_is_count, f_is_index, f_is_tuple_of, f_is_span, f_is_kind, f_is_span_within, f_is_box, f_shares_of, f_span_ground, f_ground_in, f_grounds_meet, f_is_box_like, f_first_meeting, f_laying_fault, f_lot_of_boxes, f_lets_laying, f__law_pick, f__law_big, f__law_row]
def f__law_stock : Fn SL := evD g23 4 10 ir__law_stock
@[simp] theorem g23_20 : g23[20]? = some f__law_pick := rfl
@[simp] theorem g23_21 : g23[21]? = some f__law_big := rfl
def g24 : List (Fn SL) := [f_let, f_merged, f_is_integer, f_is_number, f_is_count, f_is_index, f_is_tuple_of, f_is_span, f_is_kind, f_is_span_within, f_is_box, f_shares_of, f_span_ground, f_ground_in, f_grounds_meet, f_is_box_like, f_first_meeting, f_laying_fault, f_lot_of_boxes, f_lets_laying, f__law_pick, f__law_big, f__law_row, f__law_stock]
def f__law_span : Fn SL := evD g24 3 5 ir__law_span
@[simp] theorem g24_20 : g24[20]? = some f__law_pick := rfl
@[simp] theorem g24_21 : g24[21]? = some f__law_big := rfl
def g25 : List (Fn SL) := [f_let, f_merged, f_is_integer, f_is_number, f_is_count, f_is_index, f_is_tuple_of, f_is_span, f_is_kind, f_is_span_within, f_is_box, f_shares_of, f_span_ground, f_ground_in, f_grounds_meet, f_is_box_like, f_first_meeting, f_laying_fault, f_lot_of_boxes, f_lets_laying, f__law_pick, f__law_big, f__law_row, f__law_stock, f__law_span]
def f__law_box : Fn SL := evD g25 4 10 ir__law_box
@[simp] theorem g25_20 : g25[20]? = some f__law_pick := rfl
@[simp] theorem g25_24 : g25[24]? = some f__law_span := rfl
def g26 : List (Fn SL) := [f_let, f_merged, f_is_integer, f_is_number, f_is_count, f_is_index, f_is_tuple_of, f_is_span, f_is_kind, f_is_span_within, f_is_box, f_shares_of, f_span_ground, f_ground_in, f_grounds_meet, f_is_box_like, f_first_meeting, f_laying_fault, f_lot_of_boxes, f_lets_laying, f__law_pick, f__law_big, f__law_row, f__law_stock, f__law_span, f__law_box]
def f__law_number : Fn SL := evD g26 1 1 ir__law_number
def g27 : List (Fn SL) := [f_let, f_merged, f_is_integer, f_is_number, f_is_count, f_is_index, f_is_tuple_of, f_is_span, f_is_kind, f_is_span_within, f_is_box, f_shares_of, f_span_ground, f_ground_in, f_grounds_meet, f_is_box_like, f_first_meeting, f_laying_fault, f_lot_of_boxes, f_lets_laying, f__law_pick, f__law_big, f__law_row, f__law_stock, f__law_span, f__law_box, f__law_number]
def f__law_formed : Fn SL := evD g27 2 3 ir__law_formed
@[simp] theorem g27_26 : g27[26]? = some f__law_number := rfl
def g28 : List (Fn SL) := [f_let, f_merged, f_is_integer, f_is_number, f_is_count, f_is_index, f_is_tuple_of, f_is_span, f_is_kind, f_is_span_within, f_is_box, f_shares_of, f_span_ground, f_ground_in, f_grounds_meet, f_is_box_like, f_first_meeting, f_laying_fault, f_lot_of_boxes, f_lets_laying, f__law_pick, f__law_big, f__law_row, f__law_stock, f__law_span, f__law_box, f__law_number, f__law_formed]
def f__law_within : Fn SL := evD g28 3 4 ir__law_within
def g29 : List (Fn SL) := [f_let, f_merged, f_is_integer, f_is_number, f_is_count, f_is_index, f_is_tuple_of, f_is_span, f_is_kind, f_is_span_within, f_is_box, f_shares_of, f_span_ground, f_ground_in, f_grounds_meet, f_is_box_like, f_first_meeting, f_laying_fault, f_lot_of_boxes, f_lets_laying, f__law_pick, f__law_big, f__law_row, f__law_stock, f__law_span, f__law_box, f__law_number, f__law_formed, f__law_within]
def f__law_common : Fn SL := evD g29 4 4 ir__law_common
def g30 : List (Fn SL) := [f_let, f_merged, f_is_integer, f_is_number, f_is_count, f_is_index, f_is_tuple_of, f_is_span, f_is_kind, f_is_span_within, f_is_box, f_shares_of, f_span_ground, f_ground_in, f_grounds_meet, f_is_box_like, f_first_meeting, f_laying_fault, f_lot_of_boxes, f_lets_laying, f__law_pick, f__law_big, f__law_row, f__law_stock, f__law_span, f__law_box, f__law_number, f__law_formed, f__law_within, f__law_common]
def f__law_meet : Fn SL := evD g30 3 7 ir__law_meet
@[simp] theorem g30_29 : g30[29]? = some f__law_common := rfl
def g31 : List (Fn SL) := [f_let, f_merged, f_is_integer, f_is_number, f_is_count, f_is_index, f_is_tuple_of, f_is_span, f_is_kind, f_is_span_within, f_is_box, f_shares_of, f_span_ground, f_ground_in, f_grounds_meet, f_is_box_like, f_first_meeting, f_laying_fault, f_lot_of_boxes, f_lets_laying, f__law_pick, f__law_big, f__law_row, f__law_stock, f__law_span, f__law_box, f__law_number, f__law_formed, f__law_within, f__law_common, f__law_meet]
def f__law_counts : Fn SL := evD g31 1 5 ir__law_counts
def g32 : List (Fn SL) := [f_let, f_merged, f_is_integer, f_is_number, f_is_count, f_is_index, f_is_tuple_of, f_is_span, f_is_kind, f_is_span_within, f_is_box, f_shares_of, f_span_ground, f_ground_in, f_grounds_meet, f_is_box_like, f_first_meeting, f_laying_fault, f_lot_of_boxes, f_lets_laying, f__law_pick, f__law_big, f__law_row, f__law_stock, f__law_span, f__law_box, f__law_number, f__law_formed, f__law_within, f__law_common, f__law_meet, f__law_counts]
def f__law_due : Fn SL := evD g32 3 5 ir__law_due
@[simp] theorem g32_27 : g32[27]? = some f__law_formed := rfl
@[simp] theorem g32_28 : g32[28]? = some f__law_within := rfl
@[simp] theorem g32_30 : g32[30]? = some f__law_meet := rfl
@[simp] theorem g32_31 : g32[31]? = some f__law_counts := rfl
def g33 : List (Fn SL) := [f_let, f_merged, f_is_integer, f_is_number, f_is_count, f_is_index, f_is_tuple_of, f_is_span, f_is_kind, f_is_span_within, f_is_box, f_shares_of, f_span_ground, f_ground_in, f_grounds_meet, f_is_box_like, f_first_meeting, f_laying_fault, f_lot_of_boxes, f_lets_laying, f__law_pick, f__law_big, f__law_row, f__law_stock, f__law_span, f__law_box, f__law_number, f__law_formed, f__law_within, f__law_common, f__law_meet, f__law_counts, f__law_due]
def f__law_answer : Fn SL := evD g33 4 5 ir__law_answer
@[simp] theorem g33_19 : g33[19]? = some f_lets_laying := rfl
def g34 : List (Fn SL) := [f_let, f_merged, f_is_integer, f_is_number, f_is_count, f_is_index, f_is_tuple_of, f_is_span, f_is_kind, f_is_span_within, f_is_box, f_shares_of, f_span_ground, f_ground_in, f_grounds_meet, f_is_box_like, f_first_meeting, f_laying_fault, f_lot_of_boxes, f_lets_laying, f__law_pick, f__law_big, f__law_row, f__law_stock, f__law_span, f__law_box, f__law_number, f__law_formed, f__law_within, f__law_common, f__law_meet, f__law_counts, f__law_due, f__law_answer]
def f__law_laying : Fn SL := evD g34 5 10 ir__law_laying
@[simp] theorem g34_25 : g34[25]? = some f__law_box := rfl
@[simp] theorem g34_30 : g34[30]? = some f__law_meet := rfl
def g35 : List (Fn SL) := [f_let, f_merged, f_is_integer, f_is_number, f_is_count, f_is_index, f_is_tuple_of, f_is_span, f_is_kind, f_is_span_within, f_is_box, f_shares_of, f_span_ground, f_ground_in, f_grounds_meet, f_is_box_like, f_first_meeting, f_laying_fault, f_lot_of_boxes, f_lets_laying, f__law_pick, f__law_big, f__law_row, f__law_stock, f__law_span, f__law_box, f__law_number, f__law_formed, f__law_within, f__law_common, f__law_meet, f__law_counts, f__law_due, f__law_answer, f__law_laying]
def f__law_over : Fn SL := evD g35 5 9 ir__law_over
@[simp] theorem g35_20 : g35[20]? = some f__law_pick := rfl
@[simp] theorem g35_21 : g35[21]? = some f__law_big := rfl
def g36 : List (Fn SL) := [f_let, f_merged, f_is_integer, f_is_number, f_is_count, f_is_index, f_is_tuple_of, f_is_span, f_is_kind, f_is_span_within, f_is_box, f_shares_of, f_span_ground, f_ground_in, f_grounds_meet, f_is_box_like, f_first_meeting, f_laying_fault, f_lot_of_boxes, f_lets_laying, f__law_pick, f__law_big, f__law_row, f__law_stock, f__law_span, f__law_box, f__law_number, f__law_formed, f__law_within, f__law_common, f__law_meet, f__law_counts, f__law_due, f__law_answer, f__law_laying, f__law_over]
def f__law_beside : Fn SL := evD g36 3 5 ir__law_beside
@[simp] theorem g36_20 : g36[20]? = some f__law_pick := rfl
def g37 : List (Fn SL) := [f_let, f_merged, f_is_integer, f_is_number, f_is_count, f_is_index, f_is_tuple_of, f_is_span, f_is_kind, f_is_span_within, f_is_box, f_shares_of, f_span_ground, f_ground_in, f_grounds_meet, f_is_box_like, f_first_meeting, f_laying_fault, f_lot_of_boxes, f_lets_laying, f__law_pick, f__law_big, f__law_row, f__law_stock, f__law_span, f__law_box, f__law_number, f__law_formed, f__law_within, f__law_common, f__law_meet, f__law_counts, f__law_due, f__law_answer, f__law_laying, f__law_over, f__law_beside]
def f__law_strange : Fn SL := evD g37 5 22 ir__law_strange
@[simp] theorem g37_20 : g37[20]? = some f__law_pick := rfl
def g38 : List (Fn SL) := [f_let, f_merged, f_is_integer, f_is_number, f_is_count, f_is_index, f_is_tuple_of, f_is_span, f_is_kind, f_is_span_within, f_is_box, f_shares_of, f_span_ground, f_ground_in, f_grounds_meet, f_is_box_like, f_first_meeting, f_laying_fault, f_lot_of_boxes, f_lets_laying, f__law_pick, f__law_big, f__law_row, f__law_stock, f__law_span, f__law_box, f__law_number, f__law_formed, f__law_within, f__law_common, f__law_meet, f__law_counts, f__law_due, f__law_answer, f__law_laying, f__law_over, f__law_beside, f__law_strange]
def f__law_bent : Fn SL := evD g38 5 11 ir__law_bent
@[simp] theorem g38_20 : g38[20]? = some f__law_pick := rfl
@[simp] theorem g38_35 : g38[35]? = some f__law_over := rfl
@[simp] theorem g38_36 : g38[36]? = some f__law_beside := rfl
@[simp] theorem g38_37 : g38[37]? = some f__law_strange := rfl
def g39 : List (Fn SL) := [f_let, f_merged, f_is_integer, f_is_number, f_is_count, f_is_index, f_is_tuple_of, f_is_span, f_is_kind, f_is_span_within, f_is_box, f_shares_of, f_span_ground, f_ground_in, f_grounds_meet, f_is_box_like, f_first_meeting, f_laying_fault, f_lot_of_boxes, f_lets_laying, f__law_pick, f__law_big, f__law_row, f__law_stock, f__law_span, f__law_box, f__law_number, f__law_formed, f__law_within, f__law_common, f__law_meet, f__law_counts, f__law_due, f__law_answer, f__law_laying, f__law_over, f__law_beside, f__law_strange, f__law_bent]
def f_law : Fn SL := fun _ _ => .bad
@[simp] theorem g39_20 : g39[20]? = some f__law_pick := rfl
@[simp] theorem g39_22 : g39[22]? = some f__law_row := rfl
@[simp] theorem g39_23 : g39[23]? = some f__law_stock := rfl
@[simp] theorem g39_32 : g39[32]? = some f__law_due := rfl
@[simp] theorem g39_33 : g39[33]? = some f__law_answer := rfl
@[simp] theorem g39_34 : g39[34]? = some f__law_laying := rfl
@[simp] theorem g39_38 : g39[38]? = some f__law_bent := rfl
end K20
end Ev
end
section
set_option linter.all false
set_option maxHeartbeats 2000000
namespace Ev
open PySem (Str)
namespace K20
open PySem (Str)
/-- the state of the draws -/
def Gp (s : SL) : Prop := ∃ a b c : Int, s = [[.int a, .int b, .int c]] ∧ 0 ≤ a
/-- the script -/
def scr (ns : List Int) : D := .lst (ns.map .int)
theorem pow18 : powD (.int 10) (.int 18) = some (.int 1000000000000000000) := by
  have h : powOk 10 18 = true := by decide
  show (if powOk 10 18 = true then some (D.int (10 ^ 18)) else none) = _
  rw [if_pos h]; rfl
def Tail : ISs := match ir__law_pick with
  | .cons _ r => r
  | r => r
theorem pick_tail (ns : List Int) (a b c m : Int) (x : Slot) (ha : 0 ≤ a) (hm : 0 < m ∧ m < 10000000000000000000000000000000000000000) :
    ∃ v s', bd (evSs g20 Tail [some (false, scr ns), some (false, .st 0), some (false, .int m), x, none] [[.int a, .int b, .int c]]) (fun w s1 => fin w s1) .mk = .ok (.int v) s' ∧ (0 ≤ v ∧ v < m) ∧ Gp s' := by
  have h1 : bitsOk c 48271 = true := bits_of (by decide)
  have d1 : divOk m = true := divOk_of hm.1 hm.2
  have d2 : divOk 2027 = true := by decide
  by_cases hb : 1 < b
  · refine ⟨b % m, _, ?_, ⟨Int.emod_nonneg _ (by omega), Int.emod_lt_of_pos _ hm.1⟩, a, b / m, c, rfl, ha⟩
    simp [Tail, ir__law_pick, subS, atD, ixN, hb, bltS, bltD, int1F, modD_i, hm.1, fdivD_i, d1, putS, stOk]
  · refine ⟨(c * 48271 + 3571) % 2147483629 / 2027 % m, _, ?_, ⟨Int.emod_nonneg _ (by omega), Int.emod_lt_of_pos _ hm.1⟩, a, b, (c * 48271 + 3571) % 2147483629, rfl, ha⟩
    simp [Tail, ir__law_pick, subS, atD, ixN, hb, bltS, bltD, int1F, modD_i, mulD_i, h1, hm.1, fdivD_i, d2, putS, stOk]
theorem pick_ok {s : SL} (g : Gp s) (ns : List Int) (m : Int) (hm : 0 < m ∧ m < 10000000000000000000000000000000000000000) : ∃ v s', f__law_pick [scr ns, .st 0, .int m] s = .ok (.int v) s' ∧ (0 ≤ v ∧ v < m) ∧ Gp s' := by
  obtain ⟨a, b, c, rfl, ha⟩ := g
  by_cases h1 : b ≤ 1 ∧ a < ns.length
  · obtain ⟨k, rfl⟩ : ∃ k : Nat, a = k := ⟨a.toNat, by omega⟩
    have hk : k < ns.length := by omega
    obtain ⟨cell, hc⟩ : ∃ c, ns[k] = c := ⟨_, rfl⟩
    have hx : ns[k]? = some cell := by rw [← hc]; exact List.getElem?_eq_getElem hk
    have hI : ixN ns.length (k : Int) = some k := by rw [ixN_of ⟨by omega, by omega⟩]; rfl
    have m1 : bitsOk c 39373 = true := bits_of (by decide)
    have m2 : bitsOk cell 61417 = true := bits_of (by decide)
    by_cases big : (1000000000000000000 : Int) ≤ (if cell < 0 then -cell else cell)
    · obtain ⟨v, s', e, hv, g'⟩ := pick_tail ns (k + 1) ((if cell < 0 then -cell else cell) - 1000000000000000000 + 1) c m (some (false, .int cell)) (by omega) hm
      refine ⟨v, s', Eq.trans ?_ e, hv, g'⟩
      simp [f__law_pick, ir__law_pick, Tail, scr, subS, subD, atD, ixN, h1.1, hk, hI, hx, hc, bltS, bltD, lenF, int1F, absF, pow18, big, putS, stOk]
    · obtain ⟨v, s', e, hv, g'⟩ := pick_tail ns (k + 1) b ((c * 39373 + cell * 61417 + 41) % 2147483629) m (some (false, .int cell)) (by omega) hm
      refine ⟨v, s', Eq.trans ?_ e, hv, g'⟩
      simp [f__law_pick, ir__law_pick, Tail, scr, subS, subD, atD, ixN, h1.1, hk, hI, hx, hc, bltS, bltD, lenF, int1F, absF, pow18, big, putS, stOk, mulD_i, m1, m2, modD_i]
  · obtain ⟨v, s', e, hv, g'⟩ := pick_tail ns a b c m none ha hm
    refine ⟨v, s', Eq.trans ?_ e, hv, g'⟩
    by_cases h2 : b ≤ 1
    · have h3 : ¬ a < ns.length := fun q => h1 ⟨h2, q⟩
      simp [f__law_pick, ir__law_pick, Tail, scr, subS, subD, atD, ixN, h2, h3, bltS, bltD, lenF]
    · simp [f__law_pick, ir__law_pick, Tail, scr, subS, subD, atD, ixN, h2, bltS, bltD, lenF]
/-- a pick of few -/
theorem pick_few {s : SL} (g : Gp s) (ns : List Int) (m : Int) (hm : 0 < m ∧ m < 10000000000) : ∃ v s', f__law_pick [scr ns, .st 0, .int m] s = .ok (.int v) s' ∧ (0 ≤ v ∧ v < m) ∧ Gp s' := pick_ok g ns m ⟨hm.1, by omega⟩
theorem big_ok {s : SL} (g : Gp s) (ns : List Int) (m : Int) (hm : 0 ≤ m) : ∃ v s', f__law_big [scr ns, .st 0, .int m] s = .ok (.int v) s' ∧ (0 ≤ v ∧ v ≤ m) ∧ Gp s' := by
  by_cases h : m < 1000
  · obtain ⟨v, s', e, hv, g'⟩ := pick_ok g ns (m + 1) ⟨by omega, by omega⟩
    refine ⟨v, s', ?_, by omega, g'⟩
    simp [f__law_big, ir__law_big, h, e]
  · obtain ⟨w, s1, e1, hw, g1⟩ := pick_ok g ns 4 ⟨by omega, by omega⟩
    by_cases w0 : w = 0
    · subst w0
      obtain ⟨v, s', e, hv, g'⟩ := pick_ok g1 ns 6 ⟨by omega, by omega⟩
      refine ⟨v, s', ?_, by omega, g'⟩
      simp [f__law_big, ir__law_big, h, e1, e]
    · by_cases w1 : w = 1
      · subst w1
        obtain ⟨v, s', e, hv, g'⟩ := pick_ok g1 ns 6 ⟨by omega, by omega⟩
        refine ⟨m - v, s', ?_, by omega, g'⟩
        simp [f__law_big, ir__law_big, h, e1, e]
      · have er : rngD 0 11 = some ((List.range 11).map fun k : Nat => D.int k) := rngD_0 11 (by decide)
        obtain ⟨ρ', s2, f, g2, v, x, rfl⟩ := forS_inv (f := foF g21 (Tg.name 5) b__law_big_1) (enc := fun k : Nat => D.int k) (fun pre ρ (s' : SL) => Gp s' ∧ ∃ (v : Int) (x : Slot), ρ = [some (false, scr ns), some (false, .st 0), some (false, .int m), some (false, .int w), some (false, .int v), x]) (List.range 11) [] [some (false, scr ns), some (false, .st 0), some (false, .int m), some (false, .int w), some (false, .int 0), none] s1
          ⟨g1, _, _, rfl⟩ (by
            rintro p x q ρ s5 ee ⟨g, v, x5, rfl⟩
            obtain ⟨u, s6, e6, hu, g6⟩ := pick_ok g ns 1000 ⟨by omega, by omega⟩
            have b : bitsOk v 1000 = true := bits_of (by decide)
            refine ⟨_, s6, ?_, g6, v * 1000 + u, some (false, .int x), rfl⟩
            simp [foF, bindTg, b__law_big_1, mulD_i, b, e6])
        refine ⟨v % (m + 1), s2, ?_, ⟨Int.emod_nonneg _ (by omega), by have := Int.emod_lt_of_pos v (show 0 < m + 1 by omega); omega⟩, g2⟩
        have md : modD (.int v) (.int (m + 1)) = some (.int (v % (m + 1))) := modD_i (by omega)
        simp [f__law_big, ir__law_big, h, e1, w0, w1, er, f, bltS, bltD, int1F, md]
end K20
end Ev
end
section
set_option linter.all false
set_option maxHeartbeats 4000000
namespace Ev
open PySem (Str)
theorem rg {n : Nat} {p q : List Nat} {x : Nat} (e : List.range n = p ++ x :: q) : x = p.length ∧ p.length < n := by
  have l := congrArg List.length e
  simp at l
  have h : (List.range n)[p.length]? = some x := by rw [e]; simp
  rw [List.getElem?_range (by omega)] at h
  exact ⟨(Option.some.inj h).symm, by omega⟩
theorem rg0 {n : Nat} {p q : List Nat} {x : Nat} (e : [] ++ List.range n = p ++ x :: q) : x = p.length ∧ p.length < n := rg e
/-- one of a row's ints -/
theorem atR (s : SL) (l : List Int) {v : Int} (h : 0 ≤ v ∧ v < l.length) : ∃ c ∈ l, subS s (.tup (l.map .int)) (.int v) = some (.int c) := by
  obtain ⟨k, rfl⟩ : ∃ k : Nat, v = k := ⟨v.toNat, by omega⟩
  have hk : k < l.length := by omega
  refine ⟨l[k], List.getElem_mem hk, ?_⟩
  show atD (l.map .int) (k : Int) = _
  rw [atD_nat _ _ (by simpa using hk), List.getElem?_map, List.getElem?_eq_getElem hk]; rfl
/-- the one at a place -/
def wA (l : List Int) (i : Int) : Int := l.getD i.toNat 0
theorem wA_mem {l : List Int} {i : Int} (h : 0 ≤ i ∧ i < l.length) : wA l i ∈ l := by
  have hk : i.toNat < l.length := by omega
  unfold wA
  rw [List.getD_eq_getElem?_getD, List.getElem?_eq_getElem hk]
  exact List.getElem_mem hk
theorem sub_row (s : SL) {l : List Int} {i : Int} (h : 0 ≤ i ∧ i < l.length) : subS s (.tup (l.map .int)) (.int i) = some (.int (wA l i)) := by
  obtain ⟨k, rfl⟩ : ∃ k : Nat, i = k := ⟨i.toNat, by omega⟩
  have hk : k < l.length := by omega
  show atD (l.map .int) (k : Int) = _
  unfold wA
  rw [atD_nat _ _ (by simpa using hk), List.getElem?_map, List.getElem?_eq_getElem hk, List.getD_eq_getElem?_getD]
  simp [hk]
def tA (l : List T3) (i : Int) : T3 := l.getD i.toNat (0, 0, 0)
theorem tA_mem {l : List T3} {i : Int} (h : 0 ≤ i ∧ i < l.length) : tA l i ∈ l := by
  have hk : i.toNat < l.length := by omega
  unfold tA
  rw [List.getD_eq_getElem?_getD, List.getElem?_eq_getElem hk]
  exact List.getElem_mem hk
theorem sub_st (s : SL) {l : List T3} {i : Int} (h : 0 ≤ i ∧ i < l.length) : subS s (.tup (l.map tD)) (.int i) = some (tD (tA l i)) := by
  obtain ⟨k, rfl⟩ : ∃ k : Nat, i = k := ⟨i.toNat, by omega⟩
  have hk : k < l.length := by omega
  show atD (l.map tD) (k : Int) = _
  unfold tA
  rw [atD_nat _ _ (by simpa using hk), List.getElem?_map, List.getElem?_eq_getElem hk, List.getD_eq_getElem?_getD]
  simp [hk]
@[simp] theorem tD0 (s : SL) (t : T3) : subS s (tD t) (.int 0) = some (.int t.1) := (rfl)
@[simp] theorem tD1 (s : SL) (t : T3) : subS s (tD t) (.int 1) = some (.int t.2.1) := (rfl)
@[simp] theorem tD2 (s : SL) (t : T3) : subS s (tD t) (.int 2) = some (.int t.2.2) := (rfl)
theorem pow8 : powD (.int 10) (.int 8) = some (.int 100000000) := by
  have h : powOk 10 8 = true := by decide
  show (if powOk 10 8 = true then some (D.int (10 ^ 8)) else none) = _
  rw [if_pos h]; rfl
theorem pow12 : powD (.int 10) (.int 12) = some (.int 1000000000000) := by
  have h : powOk 10 12 = true := by decide
  show (if powOk 10 12 = true then some (D.int (10 ^ 12)) else none) = _
  rw [if_pos h]; rfl
theorem pow29 : powD (.int 10) (.int 29) = some (.int 100000000000000000000000000000) := by
  have h : powOk 10 29 = true := by decide
  show (if powOk 10 29 = true then some (D.int (10 ^ 29)) else none) = _
  rw [if_pos h]; rfl
theorem pow59 : powD (.int 10) (.int 59) = some (.int (10 ^ 59)) := by
  have h : powOk 10 59 = true := by decide
  show (if powOk 10 59 = true then some (D.int (10 ^ 59)) else none) = _
  rw [if_pos h]
def rowD (l : List Int) : D := .tup (l.map .int)
def lsD (w h : List Int) : D := .tup [rowD w, rowD h]
def stD (l : List T3) : D := .tup (l.map tD)
namespace K20
open PySem (Str)
section
variable (s : SL) (w h : List Int) (st : List T3)
@[simp] theorem ls0 : subS s (lsD w h) (.int 0) = some (rowD w) := (rfl)
@[simp] theorem ls1 : subS s (lsD w h) (.int 1) = some (rowD h) := (rfl)
@[simp] theorem rowD_len : bltS s .len [rowD w] = some (.int w.length) := by simp [rowD, bltS, bltD, lenF]
@[simp] theorem stD_len : bltS s .len [stD st] = some (.int st.length) := by simp [stD, bltS, bltD, lenF]
end
theorem pow3 : ∀ k : Nat, k < 3 → (1 : Int) ≤ 3 ^ k ∧ (3 : Int) ^ k ≤ 9 := by decide
/-- a row of sizes -/
structure Rw (l : List Int) : Prop where
  len : 1 ≤ l.length ∧ l.length ≤ 3
  pos : ∀ x ∈ l, 1 ≤ x ∧ x < 10000000000
theorem row_ok {s : SL} (g : Gp s) (ns : List Int) (sc : Int) : ∃ l s', f__law_row [scr ns, .st 0, .int sc] s = .ok (rowD l) s' ∧ Rw l ∧ Gp s' := by
  obtain ⟨v, s1, e1, hv, g1⟩ := pick_few g ns 8 (by decide)
  obtain ⟨c0, m0, q0⟩ := atR s1 [1, 2, 1, 1, 3, 1, 7, 1] (v := v) (by simpa using hv)
  have b0 : 1 ≤ c0 ∧ c0 ≤ 100000000 := by
    have : ∀ c ∈ ([1, 2, 1, 1, 3, 1, 7, 1] : List Int), 1 ≤ c ∧ c ≤ 100000000 := by decide
    exact this c0 m0
  simp only [List.map_cons, List.map_nil] at q0
  -- the loop
  have key : ∀ (c : Int) (s2 : SL), Gp s2 → (1 ≤ c ∧ c ≤ 100000000) → ∃ (u n : Int) (s3 : SL) (l : List Int) (s4 : SL) (x4 : Slot), f__law_pick [scr ns, .st 0, .int 4] s2 = .ok (.int u) s3 ∧ subS s3 (.tup [.int 1, .int 2, .int 0, .int 1]) (.int u) = some (.int n) ∧ rngD 0 n = some ((List.range n.toNat).map fun k : Nat => D.int k) ∧
      forS (foF g22 (Tg.name 4) b__law_row_1) ((List.range n.toNat).map fun k : Nat => D.int k) [some (false, scr ns), some (false, .st 0), some (false, .int sc), some (true, .lst [.int c]), none] s3 = .ok (.nx [some (false, scr ns), some (false, .st 0), some (false, .int sc), some (true, .lst (l.map .int)), x4]) s4 ∧ Rw l ∧ Gp s4 := by
    intro c s2 g2 hc
    obtain ⟨u, s3, e3, hu, g3⟩ := pick_few g2 ns 4 (by decide)
    obtain ⟨n, mn, qn⟩ := atR s3 [1, 2, 0, 1] (v := u) (by simpa using hu)
    simp only [List.map_cons, List.map_nil] at qn
    have bn : 0 ≤ n ∧ n ≤ 2 := by
      have : ∀ c ∈ ([1, 2, 0, 1] : List Int), 0 ≤ c ∧ c ≤ 2 := by decide
      exact this n mn
    obtain ⟨ρ', s4, f, g4, l, x4, h1, h2, rfl⟩ := forS_inv (f := foF g22 (Tg.name 4) b__law_row_1) (enc := fun k : Nat => D.int k) (fun pre ρ (s' : SL) => Gp s' ∧ ∃ (l : List Int) (x4 : Slot), l.length = 1 + pre.length ∧ (∀ x ∈ l, 1 ≤ x ∧ x ≤ 100000000 * 3 ^ pre.length) ∧ ρ = [some (false, scr ns), some (false, .st 0), some (false, .int sc), some (true, .lst (l.map .int)), x4]) (List.range n.toNat) [] [some (false, scr ns), some (false, .st 0), some (false, .int sc), some (true, .lst [.int c]), none] s3
      ⟨g3, [c], none, rfl, by intro x hx; rw [List.mem_singleton.mp hx]; simpa using hc, rfl⟩ (by
        rintro p x q ρ s5 ee ⟨g, l, x4, h1, h2, rfl⟩
        obtain ⟨ex, hx⟩ := rg0 ee
        obtain ⟨u, s6, e6, hu, g6⟩ := pick_few g ns 3 (by decide)
        obtain ⟨f, mf, qf⟩ := atR s6 [0, 1, 0] (v := u) (by simpa using hu)
        simp only [List.map_cons, List.map_nil] at qf
        have bf : 0 ≤ f ∧ f ≤ 1 := by
          have : ∀ c ∈ ([0, 1, 0] : List Int), 0 ≤ c ∧ c ≤ 1 := by decide
          exact this f mf
        obtain ⟨y, my, qy⟩ := atR s5 l (v := x) ⟨by omega, by omega⟩
        have qy' : subS s5 (.lst (l.map .int)) (.int x) = some (.int y) := qy
        have by_ := h2 y my
        have hp := pow3 p.length (by omega)
        have mb : bitsOk y (2 + f) = true := bits_of (by omega)
        have hl : l.length < L := by unfold L; omega
        refine ⟨_, s6, ?_, g6, l ++ [y * (2 + f)], some (false, .int x), by simp [h1]; omega, ?_, rfl⟩
        · simp [foF, bindTg, b__law_row_1, qy', e6, qf, mulD_i, mb, hl]
        · intro z hz
          rw [List.length_append, List.length_singleton, Int.pow_succ]
          rcases List.mem_append.mp hz with hz | hz
          · have := h2 z hz
            omega
          · rw [List.mem_singleton.mp hz]
            have f2 : f = 0 ∨ f = 1 := by omega
            rcases f2 with rfl | rfl <;> omega)
    refine ⟨u, n, s3, l, s4, x4, e3, qn, rngD_i ⟨by omega, by omega⟩, f, ⟨?_, fun x hx => ?_⟩, g4⟩
    · rw [List.nil_append, List.length_range] at h1; omega
    · have := h2 x hx
      rw [List.nil_append, List.length_range] at this
      have hp := pow3 n.toNat (by omega)
      omega
  by_cases h6 : sc = 6
  · subst h6
    obtain ⟨b, s2, e2, hb, g2⟩ := big_ok g1 ns 99999999 (by decide)
    obtain ⟨u, n, s3, l, s4, x4, e3, qn, er, f, hr, g4⟩ := key (1 + b) s2 g2 (by omega)
    refine ⟨l, s4, ?_, hr, g4⟩
    simp [f__law_row, ir__law_row, e1, q0, pow8, e2, e3, qn, er, f, bltS, bltD, tupleF, rowD]
  · obtain ⟨u, n, s3, l, s4, x4, e3, qn, er, f, hr, g4⟩ := key c0 s1 g1 b0
    refine ⟨l, s4, ?_, hr, g4⟩
    simp [f__law_row, ir__law_row, e1, q0, h6, e3, qn, er, f, bltS, bltD, tupleF, rowD]
theorem span_ok {s : SL} (g : Gp s) (ns : List Int) (m : Int) (hm : 1 ≤ m) : ∃ x y s', f__law_span [scr ns, .st 0, .int m] s = .ok (.tup [.int x, .int y]) s' ∧ (0 ≤ x ∧ 1 ≤ y ∧ x + y ≤ m) ∧ Gp s' := by
  obtain ⟨x, s1, e1, hx, g1⟩ := big_ok g ns (m - 1) (by omega)
  obtain ⟨u, s2, e2, hu, g2⟩ := pick_few g1 ns 2 (by decide)
  by_cases c : u = 1
  · subst c
    obtain ⟨y, s3, e3, hy, g3⟩ := big_ok g2 ns (m - x - 1) (by omega)
    refine ⟨x, 1 + y, s3, ?_, by omega, g3⟩
    simp [f__law_span, ir__law_span, e1, e2, e3]
  · refine ⟨x, 1, s2, ?_, by omega, g2⟩
    simp [f__law_span, ir__law_span, e1, e2, c]
/-- a stock -/
structure Sk (l : List T3) : Prop where
  len : l.length ≤ 4
  pos : ∀ t ∈ l, (1 ≤ t.1 ∧ t.1 < 10000000000000) ∧ (1 ≤ t.2.1 ∧ t.2.1 < 10000000000000) ∧ (1 ≤ t.2.2 ∧ t.2.2 < 1000000000000000000000000000000)
theorem side_ok {s : SL} (g : Gp s) (ns : List Int) (sc : Int) {l : List Int} (r : Rw l) (x3 x4 x5 x8 x9 : Slot) (xs : List D) (hx : xs.length < 10) : ∃ v s', evSs g23 b__law_stock_1 [some (false, scr ns), some (false, .st 0), some (false, .int sc), x3, x4, x5, some (true, .lst xs), some (false, rowD l), x8, x9] s =
    .ok (.nx [some (false, scr ns), some (false, .st 0), some (false, .int sc), x3, x4, x5, some (true, .lst (xs ++ [.int v])), some (false, rowD l), some (false, .int v), x9]) s' ∧ (1 ≤ v ∧ v < 10000000000000) ∧ Gp s' := by
  have rl := r.len
  obtain ⟨u, s1, e1, hu, g1⟩ := pick_few g ns l.length (by omega)
  obtain ⟨c, mc, qc⟩ := atR s1 l hu
  have qc' : subS s1 (rowD l) (.int u) = some (.int c) := qc
  have bc := r.pos c mc
  obtain ⟨u2, s2, e2, hu2, g2⟩ := pick_few g1 ns 4 (by decide)
  obtain ⟨c0, mc0, qc0⟩ := atR s2 l (v := 0) (by omega)
  have qc0' : subS s2 (rowD l) (.int 0) = some (.int c0) := qc0
  have bc0 := r.pos c0 mc0
  obtain ⟨u3, s3, e3, hu3, g3⟩ := pick_few g2 ns c0 (by omega)
  have mb : bitsOk c (1 + u2) = true := bits_of (by omega)
  have hl : xs.length < L := by unfold L; omega
  have hm : c * (1 + u2) ≤ c * 4 := Int.mul_le_mul_of_nonneg_left (by omega) (by omega)
  have hm1 : c * 1 ≤ c * (1 + u2) := Int.mul_le_mul_of_nonneg_left (by omega) (by omega)
  by_cases h6 : 6 ≤ sc
  · obtain ⟨b, s4, e4, hb, g4⟩ := big_ok g3 ns 999999999998 (by decide)
    refine ⟨1 + b, s4, ?_, by omega, g4⟩
    simp [b__law_stock_1, e1, qc', e2, qc0', e3, mulD_i, mb, h6, pow12, e4, hl]
  · refine ⟨c * (1 + u2) + u3, s3, ?_, by omega, g3⟩
    simp [b__law_stock_1, e1, qc', e2, qc0', e3, mulD_i, mb, h6, hl]
theorem stock_ok {s : SL} (g : Gp s) (ns : List Int) (sc : Int) {w h : List Int} (rw_ : Rw w) (rh : Rw h) : ∃ l s', f__law_stock [scr ns, .st 0, .int sc, lsD w h] s = .ok (stD l) s' ∧ Sk l ∧ Gp s' := by
  obtain ⟨u, s1, e1, hu, g1⟩ := pick_few g ns 13 (by decide)
  obtain ⟨n, mn, qn⟩ := atR s1 [1, 2, 1, 3, 2, 1, 4, 1, 2, 1, 1, 2, 0] (v := u) (by simpa using hu)
  simp only [List.map_cons, List.map_nil] at qn
  have bn : 0 ≤ n ∧ n ≤ 4 := by
    have : ∀ c ∈ ([1, 2, 1, 3, 2, 1, 4, 1, 2, 1, 1, 2, 0] : List Int), 0 ≤ c ∧ c ≤ 4 := by decide
    exact this n mn
  have er := rngD_i (n := n) ⟨by omega, by omega⟩
  obtain ⟨ρ', s4, f, g4, l, x5, x6, x7, x8, x9, h1, h2, rfl⟩ := forS_inv (f := foF g23 (Tg.name 5) b__law_stock_2) (enc := fun k : Nat => D.int k) (fun pre ρ (s' : SL) => Gp s' ∧ ∃ (l : List T3) (x5 x6 x7 x8 x9 : Slot), l.length = pre.length ∧ (∀ t ∈ l, (1 ≤ t.1 ∧ t.1 < 10000000000000) ∧ (1 ≤ t.2.1 ∧ t.2.1 < 10000000000000) ∧ (1 ≤ t.2.2 ∧ t.2.2 < 1000000000000000000000000000000)) ∧ ρ = [some (false, scr ns), some (false, .st 0), some (false, .int sc), some (false, lsD w h), some (true, .lst (l.map tD)), x5, x6, x7, x8, x9]) (List.range n.toNat) [] [some (false, scr ns), some (false, .st 0), some (false, .int sc), some (false, lsD w h), some (true, .lst []), none, none, none, none, none] s1
    ⟨g1, [], none, none, none, none, none, rfl, by simp, rfl⟩ (by
      rintro p x q ρ s5 ee ⟨g, l, x5, x6, x7, x8, x9, h1, h2, rfl⟩
      obtain ⟨ex, hx⟩ := rg0 ee
      obtain ⟨v1, s6, e6, b1, g6⟩ := side_ok g ns sc rw_ (some (false, lsD w h)) (some (true, .lst (l.map tD))) (some (false, .int x)) x8 x9 [] (by decide)
      obtain ⟨v2, s7, e7, b2, g7⟩ := side_ok g6 ns sc rh (some (false, lsD w h)) (some (true, .lst (l.map tD))) (some (false, .int x)) (some (false, .int v1)) x9 ([] ++ [.int v1]) (by simp)
      obtain ⟨m, s8, e8, hm, g8⟩ := pick_few g7 ns 5 (by decide)
      have sq : seqD (lsD w h) = some [rowD w, rowD h] := rfl
      have hl : l.length < L := by unfold L; omega
      simp only [List.nil_append, List.cons_append] at e6 e7
      have a0 : ∀ s : SL, subS s (.lst [.int v1, .int v2]) (.int 0) = some (.int v1) := fun _ => rfl
      have a1 : ∀ s : SL, subS s (.lst [.int v1, .int v2]) (.int 1) = some (.int v2) := fun _ => rfl
      have fin : ∀ m : Int, (1 ≤ m ∧ m < 1000000000000000000000000000000) → ∀ t ∈ l ++ [(v1, v2, m)], (1 ≤ t.1 ∧ t.1 < 10000000000000) ∧ (1 ≤ t.2.1 ∧ t.2.1 < 10000000000000) ∧ (1 ≤ t.2.2 ∧ t.2.2 < 1000000000000000000000000000000) := by
        intro m hm t ht
        rcases List.mem_append.mp ht with ht | ht
        · exact h2 t ht
        · rw [List.mem_singleton.mp ht]; exact ⟨b1, b2, hm⟩
      by_cases h5 : sc = 5
      · obtain ⟨b, s9, e9, hb, g9⟩ := big_ok g8 ns 100000000000000000000000000000 (by decide)
        refine ⟨_, s9, ?_, g9, l ++ [(v1, v2, 1 + b)], some (false, .int x), some (true, .lst [.int v1, .int v2]), some (false, rowD h), some (false, .int v2), some (false, .int (1 + b)), by simp [h1], fin _ (by omega), rfl⟩
        subst h5
        simp [foF, bindTg, b__law_stock_2, sq, e6, e7, e8, pow29, e9, a0, a1, hl, tD]
      · refine ⟨_, s8, ?_, g8, l ++ [(v1, v2, 1 + m)], some (false, .int x), some (true, .lst [.int v1, .int v2]), some (false, rowD h), some (false, .int v2), some (false, .int (1 + m)), by simp [h1], fin _ (by omega), rfl⟩
        simp [foF, bindTg, b__law_stock_2, sq, e6, e7, e8, h5, a0, a1, hl, tD])
  refine ⟨l, s4, ?_, ⟨by rw [List.nil_append, List.length_range] at h1; omega, h2⟩, g4⟩
  simp [f__law_stock, ir__law_stock, e1, qn, er, f, bltS, bltD, tupleF, stD]
end K20
end Ev
end
section
set_option linter.all false
set_option maxHeartbeats 4000000
namespace Ev
open PySem (Str)
/-- a span -/
def PSp : D → Prop
  | .tup [.int x, .int y] => 0 ≤ x ∧ 1 ≤ y
  | _ => False
instance : DecidablePred PSp := fun d => by unfold PSp; split <;> infer_instance
theorem PSp_ex {d : D} (q : PSp d) : ∃ x y, d = .tup [.int x, .int y] ∧ 0 ≤ x ∧ 1 ≤ y := by
  unfold PSp at q
  split at q
  · exact ⟨_, _, rfl, q⟩
  · exact q.elim
theorem PSp_tup (x y : D) : PSp (.tup [x, y]) ↔ PN x ∧ PC 1 y := by
  constructor
  · intro q
    obtain ⟨a, b, e, h1, h2⟩ := PSp_ex q
    cases e
    exact ⟨h1, h2⟩
  · rintro ⟨h1, h2⟩
    obtain ⟨a, rfl, ha⟩ := PN_ex h1
    obtain ⟨b, rfl, hb⟩ := PC_ex h2
    exact ⟨ha, hb⟩
theorem not_PSp_of {d : D} (c : ¬ PT 2 d) : ¬ PSp d := fun q => by
  obtain ⟨a, b, rfl, _⟩ := PSp_ex q
  exact c rfl
/-- a box in form -/
def PB (w h : Nat) : D → Prop
  | .tup [x, y, z, p, q, r] => ((PN x ∧ ¬ PC w x) ∧ (PN y ∧ ¬ PC h y)) ∧ PN z ∧ PSp p ∧ PSp q ∧ PSp r
  | _ => False
theorem PB_6 {w h : Nat} {x y z p q r : D} : PB w h (.tup [x, y, z, p, q, r]) ↔ ((PN x ∧ ¬ PC w x) ∧ (PN y ∧ ¬ PC h y)) ∧ PN z ∧ PSp p ∧ PSp q ∧ PSp r := .rfl
theorem not_PB_of {w h : Nat} {d : D} (c : ¬ PT 6 d) : ¬ PB w h d := fun q => by
  unfold PB at q
  split at q
  · exact c rfl
  · exact q
theorem six_of {l : List D} (h : l.length = 6) : ∃ x y z p q r, l = [x, y, z, p, q, r] := by
  match l, h with
  | [x, y, z, p, q, r], _ => exact ⟨x, y, z, p, q, r, rfl⟩
instance (w h : Nat) : DecidablePred (PB w h) := fun d => by unfold PB; split <;> infer_instance
structure Bx where
  (a b s s0 s1 c0 c1 r0 r1 : Int)
def bxD (x : Bx) : D := .tup [.int x.a, .int x.b, .int x.s, .tup [.int x.s0, .int x.s1], .tup [.int x.c0, .int x.c1], .tup [.int x.r0, .int x.r1]]
structure Fm (w h : Nat) (x : Bx) : Prop where
  a : 0 ≤ x.a ∧ x.a < w
  b : 0 ≤ x.b ∧ x.b < h
  s : 0 ≤ x.s
  p : 0 ≤ x.s0 ∧ 1 ≤ x.s1
  q : 0 ≤ x.c0 ∧ 1 ≤ x.c1
  r : 0 ≤ x.r0 ∧ 1 ≤ x.r1
theorem PB_ex {w h : Nat} {d : D} (z : PB w h d) : ∃ x, d = bxD x ∧ Fm w h x := by
  unfold PB at z
  split at z
  · obtain ⟨⟨⟨h1, h2⟩, h3, h4⟩, h5, h6, h7, h8⟩ := z
    obtain ⟨a, rfl, h1⟩ := PN_ex h1
    obtain ⟨b, rfl, h3⟩ := PN_ex h3
    obtain ⟨c, rfl, h5⟩ := PN_ex h5
    obtain ⟨p0, p1, rfl, hp⟩ := PSp_ex h6
    obtain ⟨q0, q1, rfl, hq⟩ := PSp_ex h7
    obtain ⟨r0, r1, rfl, hr⟩ := PSp_ex h8
    exact ⟨⟨a, b, c, p0, p1, q0, q1, r0, r1⟩, rfl, ⟨h1, Int.not_le.mp h2⟩, ⟨h3, Int.not_le.mp h4⟩, h5, hp, hq, hr⟩
  · exact z.elim
theorem Fm.pb {w h : Nat} {x : Bx} (f : Fm w h x) : PB w h (bxD x) := ⟨⟨⟨f.a.1, Int.not_le.mpr f.a.2⟩, f.b.1, Int.not_le.mpr f.b.2⟩, f.s, f.p, f.q, f.r⟩
/-- a box within its stock -/
def Wn (w h : List Int) (st : List T3) (x : Bx) : Prop := x.s < st.length ∧ x.s0 + x.s1 ≤ (tA st x.s).2.2 ∧ (x.c0 + x.c1) * wA w x.a ≤ (tA st x.s).1 ∧ (x.r0 + x.r1) * wA h x.b ≤ (tA st x.s).2.1
instance (w h : List Int) (st : List T3) (x : Bx) : Decidable (Wn w h st x) := by unfold Wn; infer_instance
section
variable (s : SL) (x : Bx)
@[simp] theorem bx0 : subS s (bxD x) (.int 0) = some (.int x.a) := (rfl)
@[simp] theorem bx1 : subS s (bxD x) (.int 1) = some (.int x.b) := (rfl)
@[simp] theorem bx2 : subS s (bxD x) (.int 2) = some (.int x.s) := (rfl)
@[simp] theorem bx3 : subS s (bxD x) (.int 3) = some (.tup [.int x.s0, .int x.s1]) := (rfl)
@[simp] theorem bx4 : subS s (bxD x) (.int 4) = some (.tup [.int x.c0, .int x.c1]) := (rfl)
@[simp] theorem bx5 : subS s (bxD x) (.int 5) = some (.tup [.int x.r0, .int x.r1]) := (rfl)
@[simp] theorem bxs : slcD (bxD x) none (some 2) = some (.tup [.int x.a, .int x.b]) := (rfl)
end
/-- two boxes' ground in one span -/
def cm (a b c d : Int) : Prop := a < d ∧ c < b
instance (a b c d : Int) : Decidable (cm a b c d) := by unfold cm; infer_instance
/-- two boxes meet -/
def Mt (w h : List Int) (x y : Bx) : Prop := x.s = y.s ∧ cm x.s0 (x.s0 + x.s1) y.s0 (y.s0 + y.s1) ∧ cm (x.c0 * wA w x.a) ((x.c0 + x.c1) * wA w x.a) (y.c0 * wA w y.a) ((y.c0 + y.c1) * wA w y.a) ∧ cm (x.r0 * wA h x.b) ((x.r0 + x.r1) * wA h x.b) (y.r0 * wA h y.b) ((y.r0 + y.r1) * wA h y.b)
instance (w h : List Int) (x y : Bx) : Decidable (Mt w h x y) := by unfold Mt; infer_instance
namespace K20
open PySem (Str)
section
variable {n k : Nat} {d : D} (s : SL)
theorem is_integer_ok (h : Nic n k d) : f_is_integer [d] s = .ok (.bl (decide (PI d))) s := by
  rcases h.cases with ⟨i, rfl⟩ | ⟨i, rfl⟩ | rfl | ⟨i, rfl⟩ | ⟨i, rfl⟩ | ⟨i, rfl⟩ <;> simp [f_is_integer, ir_is_integer]
theorem is_number_ok (h : Nic n k d) : f_is_number [d] s = .ok (.bl (decide (PN d))) s := by
  have e := is_integer_ok s h
  rcases h.cases with ⟨i, rfl⟩ | ⟨i, rfl⟩ | rfl | ⟨i, rfl⟩ | ⟨i, rfl⟩ | ⟨i, rfl⟩ <;> simp [f_is_number, ir_is_number] at e ⊢ <;> simp [e]
theorem is_count_ok (h : Nic n k d) : f_is_count [d] s = .ok (.bl (decide (PC 1 d))) s := by
  have e := is_integer_ok s h
  rcases h.cases with ⟨i, rfl⟩ | ⟨i, rfl⟩ | rfl | ⟨i, rfl⟩ | ⟨i, rfl⟩ | ⟨i, rfl⟩ <;> simp [f_is_count, ir_is_count] at e ⊢ <;> simp [e]
theorem law_number_ok (h : Nic n k d) : f__law_number [d] s = .ok (.bl (decide (PN d))) s := by
  rcases h.cases with ⟨i, rfl⟩ | ⟨i, rfl⟩ | rfl | ⟨i, rfl⟩ | ⟨i, rfl⟩ | ⟨i, rfl⟩ <;> simp [f__law_number, ir__law_number]
theorem is_tuple_of_ok (h : Nic n k d) (m : Nat) : f_is_tuple_of [d, .int m] s = .ok (.bl (decide (PT m d))) s := by
  rcases h.cases with ⟨i, rfl⟩ | ⟨i, rfl⟩ | rfl | ⟨i, rfl⟩ | ⟨i, rfl⟩ | ⟨i, rfl⟩ <;> simp [f_is_tuple_of, ir_is_tuple_of, bltS, bltD, lenF]
  omega
theorem is_index_ok (h : Nic n k d) (m : Int) : f_is_index [d, .int m] s = .ok (.bl (decide (PN d ∧ ¬ PC m d))) s := by
  have e := is_number_ok s h
  rcases h.cases with ⟨i, rfl⟩ | ⟨i, rfl⟩ | rfl | ⟨i, rfl⟩ | ⟨i, rfl⟩ | ⟨i, rfl⟩ <;> simp [f_is_index, ir_is_index] at e ⊢ <;> simp [e]
  by_cases c : 0 ≤ i <;> simp [c]
variable (w h : List Int)
theorem is_kind_ok (hn : Nic (n + 1) k d) : f_is_kind [lsD w h, d] s = .ok (.bl (decide (PK w.length h.length d))) s := by
  have e : f_is_tuple_of [d, .int 2] s = .ok (.bl (decide (PT 2 d))) s := is_tuple_of_ok s hn 2
  by_cases c : PT 2 d
  · obtain ⟨l, rfl, hl⟩ := PT_ex c
    obtain ⟨x, y, rfl⟩ := two_of hl
    have e1 := is_index_ok s (hn.tup x (by simp)) w.length
    have e2 := is_index_ok s (hn.tup y (by simp)) h.length
    rw [decide_eq_true c] at e
    have q := PK_tup (w := w.length) (h := h.length) x y
    by_cases c1 : PN x ∧ ¬ PC w.length x
    · rw [decide_eq_true c1] at e1
      by_cases c2 : PN y ∧ ¬ PC h.length y
      · rw [decide_eq_true c2] at e2
        rw [decide_eq_true (q.mpr ⟨c1, c2⟩)]
        simp [f_is_kind, ir_is_kind, e, e1, e2]
      · rw [decide_eq_false c2] at e2
        rw [decide_eq_false fun z => c2 (q.mp z).2]
        simp [f_is_kind, ir_is_kind, e, e1, e2]
    · rw [decide_eq_false c1] at e1
      rw [decide_eq_false fun z => c1 (q.mp z).1]
      simp [f_is_kind, ir_is_kind, e, e1]
  · rw [decide_eq_false c] at e
    rw [decide_eq_false (not_PK_of c)]
    simp [f_is_kind, ir_is_kind, e]
theorem is_span_ok (hn : Nic (n + 1) k d) : f_is_span [d] s = .ok (.bl (decide (PSp d))) s := by
  have e : f_is_tuple_of [d, .int 2] s = .ok (.bl (decide (PT 2 d))) s := is_tuple_of_ok s hn 2
  by_cases c : PT 2 d
  · obtain ⟨l, rfl, hl⟩ := PT_ex c
    obtain ⟨x, y, rfl⟩ := two_of hl
    have e1 := is_number_ok s (hn.tup x (by simp))
    have e2 := is_count_ok s (hn.tup y (by simp))
    rw [decide_eq_true c] at e
    have q := PSp_tup x y
    by_cases c1 : PN x
    · rw [decide_eq_true c1] at e1
      by_cases c2 : PC 1 y
      · rw [decide_eq_true c2] at e2
        rw [decide_eq_true (q.mpr ⟨c1, c2⟩)]
        simp [f_is_span, ir_is_span, e, e1, e2]
      · rw [decide_eq_false c2] at e2
        rw [decide_eq_false fun z => c2 (q.mp z).2]
        simp [f_is_span, ir_is_span, e, e1, e2]
    · rw [decide_eq_false c1] at e1
      rw [decide_eq_false fun z => c1 (q.mp z).1]
      simp [f_is_span, ir_is_span, e, e1]
  · rw [decide_eq_false c] at e
    rw [decide_eq_false (not_PSp_of c)]
    simp [f_is_span, ir_is_span, e]
theorem is_box_like_ok (hn : Nic (n + 2) k d) : f_is_box_like [lsD w h, d] s = .ok (.bl (decide (PB w.length h.length d))) s := by
  have e : f_is_tuple_of [d, .int 6] s = .ok (.bl (decide (PT 6 d))) s := is_tuple_of_ok s hn 6
  by_cases c : PT 6 d
  · obtain ⟨l, rfl, hl⟩ := PT_ex c
    obtain ⟨x, y, z, p, q, r, rfl⟩ := six_of hl
    rw [decide_eq_true c] at e
    have nk : Nic (n + 2) k (.tup [x, y]) := by
      have f := hn.f
      have m := hn.m
      have z := hn.z
      simp at f m z
      exact ⟨by simp [f], by simp [m], by simp; omega⟩
    have e1 := is_kind_ok s w h nk
    have e2 := is_number_ok s (hn.tup z (by simp))
    have e3 := is_span_ok s (hn.tup p (by simp))
    have e4 := is_span_ok s (hn.tup q (by simp))
    have e5 := is_span_ok s (hn.tup r (by simp))
    have s1 : slcD (.tup [x, y, z, p, q, r]) none (some 2) = some (.tup [x, y]) := rfl
    have s2 : slcD (.tup [x, y, z, p, q, r]) (some 3) none = some (.tup [p, q, r]) := rfl
    have s3 : subS s (.tup [x, y, z, p, q, r]) (.int 2) = some z := rfl
    have pb := PB_6 (w := w.length) (h := h.length) (x := x) (y := y) (z := z) (p := p) (q := q) (r := r)
    have pk := PK_tup (w := w.length) (h := h.length) x y
    by_cases c1 : PK w.length h.length (.tup [x, y])
    · rw [decide_eq_true c1] at e1
      by_cases c2 : PN z
      · rw [decide_eq_true c2] at e2
        have t : turns (lcF g15 e_is_box_like_1 (Tg.name 3) [2, 3] .nil [some (false, lsD w h), some (false, .tup [x, y, z, p, q, r]), none, none]) [p, q, r] [] s = .ok [.bl (decide (PSp p)), .bl (decide (PSp q)), .bl (decide (PSp r))] s := by
          simp [lcF, bindTg, wipeE, e_is_box_like_1, e3, e4, e5]
        have a : bltS s .all [.lst [.bl (decide (PSp p)), .bl (decide (PSp q)), .bl (decide (PSp r))]] = some (.bl (decide (PSp p) && (decide (PSp q) && decide (PSp r)))) := by
          simp [bltS, bltD, allF, D.bls]
        have pe : decide (PB w.length h.length (.tup [x, y, z, p, q, r])) = (decide (PSp p) && (decide (PSp q) && decide (PSp r))) := by
          rw [← Bool.decide_and, ← Bool.decide_and]
          exact decide_eq_decide.mpr ⟨fun q => (pb.mp q).2.2, fun q => pb.mpr ⟨pk.mp c1, c2, q⟩⟩
        rw [pe]
        simp [f_is_box_like, ir_is_box_like, e, s1, e1, s3, e2, s2, t, a]
      · rw [decide_eq_false c2] at e2
        rw [decide_eq_false fun q => c2 (pb.mp q).2.1]
        simp [f_is_box_like, ir_is_box_like, e, s1, e1, s3, e2]
    · rw [decide_eq_false c1] at e1
      rw [decide_eq_false fun q => c1 (pk.mpr (pb.mp q).1)]
      simp [f_is_box_like, ir_is_box_like, e, s1, e1]
  · rw [decide_eq_false c] at e
    rw [decide_eq_false (not_PB_of c)]
    simp [f_is_box_like, ir_is_box_like, e]
/-- one of the three spans, as the law looks at it -/
theorem formed_1 (t d : D) (j : Int) (hj : subS s t (.int j) = some d) (hn : Nic (n + 1) k d) (x0 : Slot) :
    evSs g27 b__law_formed_1 [x0, some (false, t), some (false, .int j)] s = if PSp d then .ok (.nx [x0, some (false, t), some (false, .int j)]) s else .ok (.rt (.bl false)) s := by
  rcases hn.cases with ⟨i, rfl⟩ | ⟨i, rfl⟩ | rfl | ⟨i, rfl⟩ | ⟨l, rfl⟩ | ⟨i, rfl⟩
  · simp [b__law_formed_1, hj, PSp]
  · simp [b__law_formed_1, hj, PSp]
  · simp [b__law_formed_1, hj, PSp]
  · simp [b__law_formed_1, hj, PSp]
  · by_cases c : l.length = 2
    · obtain ⟨x, y, rfl⟩ := two_of c
      have e1 := law_number_ok s (hn.tup x (by simp))
      have e2 := law_number_ok s (hn.tup y (by simp))
      have q := PSp_tup x y
      have ln : bltS s .len [.tup [x, y]] = some (.int 2) := rfl
      by_cases c1 : PN x
      · rw [decide_eq_true c1] at e1
        by_cases c2 : PN y
        · rw [decide_eq_true c2] at e2
          obtain ⟨v, rfl, hv⟩ := PN_ex c2
          by_cases c3 : v = 0
          · subst c3
            rw [if_neg fun z => by have := (q.mp z).2; simp at this]
            simp [b__law_formed_1, hj, ln, e1, e2]
          · rw [if_pos (q.mpr ⟨c1, by simp; omega⟩)]
            simp [b__law_formed_1, hj, ln, e1, e2, c3]
        · rw [decide_eq_false c2] at e2
          rw [if_neg fun z => c2 (by
            obtain ⟨v, rfl, hv⟩ := PC_ex (q.mp z).2
            simp; omega)]
          simp [b__law_formed_1, hj, ln, e1, e2]
      · rw [decide_eq_false c1] at e1
        rw [if_neg fun z => c1 (q.mp z).1]
        simp [b__law_formed_1, hj, ln, e1]
    · have ln : bltS s .len [.tup l] = some (.int l.length) := by simp [bltS, bltD, lenF]
      have c' : ¬ ((l.length : Int) = 2) := by omega
      rw [if_neg (not_PSp_of (by simpa using c))]
      simp [b__law_formed_1, hj, ln, c']
  · simp [b__law_formed_1, hj, PSp]
theorem formed_ok (hn : Nic (n + 2) k d) : f__law_formed [lsD w h, d] s = .ok (.bl (decide (PB w.length h.length d))) s := by
  rcases hn.cases with ⟨i, rfl⟩ | ⟨i, rfl⟩ | rfl | ⟨i, rfl⟩ | ⟨l, rfl⟩ | ⟨i, rfl⟩
  · rw [decide_eq_false (not_PB_of (by simp))]; simp [f__law_formed, ir__law_formed]
  · rw [decide_eq_false (not_PB_of (by simp))]; simp [f__law_formed, ir__law_formed]
  · rw [decide_eq_false (not_PB_of (by simp))]; simp [f__law_formed, ir__law_formed]
  · rw [decide_eq_false (not_PB_of (by simp))]; simp [f__law_formed, ir__law_formed]
  · by_cases c : l.length = 6
    · obtain ⟨x, y, z, p, q, r, rfl⟩ := six_of c
      have e1 := law_number_ok s (hn.tup x (by simp))
      have e2 := law_number_ok s (hn.tup y (by simp))
      have e3 := law_number_ok s (hn.tup z (by simp))
      have ln : bltS s .len [.tup [x, y, z, p, q, r]] = some (.int 6) := rfl
      have s0 : subS s (.tup [x, y, z, p, q, r]) (.int 0) = some x := rfl
      have s1 : subS s (.tup [x, y, z, p, q, r]) (.int 1) = some y := rfl
      have s2 : subS s (.tup [x, y, z, p, q, r]) (.int 2) = some z := rfl
      have f3 := formed_1 s (.tup [x, y, z, p, q, r]) p 3 rfl (hn.tup p (by simp)) (some (false, lsD w h))
      have f4 := formed_1 s (.tup [x, y, z, p, q, r]) q 4 rfl (hn.tup q (by simp)) (some (false, lsD w h))
      have f5 := formed_1 s (.tup [x, y, z, p, q, r]) r 5 rfl (hn.tup r (by simp)) (some (false, lsD w h))
      have rn : rngD 3 6 = some [.int 3, .int 4, .int 5] := rfl
      have pb := PB_6 (w := w.length) (h := h.length) (x := x) (y := y) (z := z) (p := p) (q := q) (r := r)
      by_cases c1 : PN x
      · rw [decide_eq_true c1] at e1
        obtain ⟨a, rfl, ha⟩ := PN_ex c1
        by_cases c2 : PN y
        · rw [decide_eq_true c2] at e2
          obtain ⟨b, rfl, hb⟩ := PN_ex c2
          by_cases c3 : PN z
          · rw [decide_eq_true c3] at e3
            by_cases c4 : (w.length : Int) ≤ a
            · rw [decide_eq_false fun q => (pb.mp q).1.1.2 c4]
              simp [f__law_formed, ir__law_formed, ln, s0, s1, s2, e1, e2, e3, c4]
            · by_cases c5 : (h.length : Int) ≤ b
              · rw [decide_eq_false fun q => (pb.mp q).1.2.2 c5]
                simp [f__law_formed, ir__law_formed, ln, s0, s1, s2, e1, e2, e3, c4, c5]
              · by_cases c6 : PSp p
                · rw [if_pos c6] at f3
                  by_cases c7 : PSp q
                  · rw [if_pos c7] at f4
                    by_cases c8 : PSp r
                    · rw [if_pos c8] at f5
                      rw [decide_eq_true (pb.mpr ⟨⟨⟨c1, c4⟩, c2, c5⟩, c3, c6, c7, c8⟩)]
                      simp [f__law_formed, ir__law_formed, ln, s0, s1, s2, e1, e2, e3, c4, c5, rn, foF, bindTg, f3, f4, f5]
                    · rw [if_neg c8] at f5
                      rw [decide_eq_false fun q => c8 (pb.mp q).2.2.2.2]
                      simp [f__law_formed, ir__law_formed, ln, s0, s1, s2, e1, e2, e3, c4, c5, rn, foF, bindTg, f3, f4, f5]
                  · rw [if_neg c7] at f4
                    rw [decide_eq_false fun q => c7 (pb.mp q).2.2.2.1]
                    simp [f__law_formed, ir__law_formed, ln, s0, s1, s2, e1, e2, e3, c4, c5, rn, foF, bindTg, f3, f4]
                · rw [if_neg c6] at f3
                  rw [decide_eq_false fun q => c6 (pb.mp q).2.2.1]
                  simp [f__law_formed, ir__law_formed, ln, s0, s1, s2, e1, e2, e3, c4, c5, rn, foF, bindTg, f3]
          · rw [decide_eq_false c3] at e3
            rw [decide_eq_false fun q => c3 (pb.mp q).2.1]
            simp [f__law_formed, ir__law_formed, ln, s0, s1, s2, e1, e2, e3]
        · rw [decide_eq_false c2] at e2
          rw [decide_eq_false fun q => c2 (pb.mp q).1.2.1]
          simp [f__law_formed, ir__law_formed, ln, s0, s1, e1, e2]
      · rw [decide_eq_false c1] at e1
        rw [decide_eq_false fun q => c1 (pb.mp q).1.1.1]
        simp [f__law_formed, ir__law_formed, ln, s0, e1]
    · have ln : bltS s .len [.tup l] = some (.int l.length) := by simp [bltS, bltD, lenF]
      have c' : ¬ ((l.length : Int) = 6) := by omega
      rw [decide_eq_false (not_PB_of (by simpa using c))]
      simp [f__law_formed, ir__law_formed, ln, c']
  · rw [decide_eq_false (not_PB_of (by simp))]; simp [f__law_formed, ir__law_formed]
end
end K20
end Ev
end
section
set_option linter.all false
set_option maxHeartbeats 8000000
namespace Ev
open PySem (Str)
def faD : Option (Str × D) → D
  | some (w, a) => .tup [.str w, a]
  | none => .non
/-- a box's shares -/
def tr (x : Bx) : T3 := (x.a, x.b, x.s1 * x.c1 * x.r1)
namespace K20
open PySem (Str)
section
variable (s : SL) {w h : List Int} {st : List T3} {x y : Bx}
theorem Rw.at (r : Rw w) {i : Int} (hi : 0 ≤ i ∧ i < w.length) : (1 ≤ wA w i ∧ wA w i < 10000000000) ∧ subS s (rowD w) (.int i) = some (.int (wA w i)) := ⟨r.pos _ (wA_mem hi), sub_row s hi⟩
theorem within_sp {a b m : Int} (ha : 0 ≤ a) (hb : 1 ≤ b) : f_is_span_within [.tup [.int a, .int b], .int m] s = .ok (.bl (decide (a + b ≤ m))) s := by
  have e0 : f_is_tuple_of [.tup [.int a, .int b], .int 2] s = .ok (.bl true) s := by simp [f_is_tuple_of, ir_is_tuple_of, bltS, bltD, lenF]
  have e1 : f_is_integer [.int a] s = .ok (.bl true) s := by simp [f_is_integer, ir_is_integer]
  have e2 : f_is_integer [.int b] s = .ok (.bl true) s := by simp [f_is_integer, ir_is_integer]
  have e3 : f_is_number [.int a] s = .ok (.bl true) s := by simp [f_is_number, ir_is_number, e1, ha]
  have e4 : f_is_count [.int b] s = .ok (.bl true) s := by simp [f_is_count, ir_is_count, e2, hb]
  have e5 : f_is_span [.tup [.int a, .int b]] s = .ok (.bl true) s := by simp [f_is_span, ir_is_span, e0, e3, e4]
  simp [f_is_span_within, ir_is_span_within, e5]
theorem is_box_ok (rw_ : Rw w) (rh : Rw h) (f : Fm w.length h.length x) : f_is_box [lsD w h, stD st, bxD x] s = .ok (.bl (decide (Wn w h st x))) s := by
  have i0 : ∀ (a m : Int), 0 ≤ a → f_is_index [.int a, .int m] s = .ok (.bl (decide (a < m))) s := fun a m ha => by
    have e1 : f_is_integer [.int a] s = .ok (.bl true) s := by simp [f_is_integer, ir_is_integer]
    have e3 : f_is_number [.int a] s = .ok (.bl true) s := by simp [f_is_number, ir_is_number, e1, ha]
    simp [f_is_index, ir_is_index, e3]
  have e6 : f_is_tuple_of [bxD x, .int 6] s = .ok (.bl true) s := by simp [f_is_tuple_of, ir_is_tuple_of, bltS, bltD, lenF, bxD]
  have e2 : f_is_tuple_of [.tup [.int x.a, .int x.b], .int 2] s = .ok (.bl true) s := by simp [f_is_tuple_of, ir_is_tuple_of, bltS, bltD, lenF]
  have ea := i0 x.a w.length f.a.1
  have eb := i0 x.b h.length f.b.1
  have es := i0 x.s st.length f.s
  rw [decide_eq_true f.a.2] at ea
  rw [decide_eq_true f.b.2] at eb
  have ek : f_is_kind [lsD w h, .tup [.int x.a, .int x.b]] s = .ok (.bl true) s := by simp [f_is_kind, ir_is_kind, e2, ea, eb]
  by_cases cs : x.s < st.length
  · rw [decide_eq_true cs] at es
    have ws := sub_st s ⟨f.s, cs⟩
    have ws' : subS s (stD st) (.int x.s) = some (tD (tA st x.s)) := ws
    obtain ⟨⟨p1, p2⟩, p3⟩ := rw_.at s f.a
    obtain ⟨⟨q1, q2⟩, q3⟩ := rh.at s f.b
    have d1 : divOk (wA w x.a) = true := divOk_of (by omega) (by omega)
    have d2 : divOk (wA h x.b) = true := divOk_of (by omega) (by omega)
    have w1 := within_sp s (m := (tA st x.s).2.2) f.p.1 f.p.2
    have w2 := within_sp s (m := (tA st x.s).1 / wA w x.a) f.q.1 f.q.2
    have w3 := within_sp s (m := (tA st x.s).2.1 / wA h x.b) f.r.1 f.r.2
    have k2 : x.c0 + x.c1 ≤ (tA st x.s).1 / wA w x.a ↔ (x.c0 + x.c1) * wA w x.a ≤ (tA st x.s).1 := Int.le_ediv_iff_mul_le (by omega)
    have k3 : x.r0 + x.r1 ≤ (tA st x.s).2.1 / wA h x.b ↔ (x.r0 + x.r1) * wA h x.b ≤ (tA st x.s).2.1 := Int.le_ediv_iff_mul_le (by omega)
    have u : setAll [3, 4, 5, 6, 7, 8] [D.int x.a, .int x.b, .int x.s, .tup [.int x.s0, .int x.s1], .tup [.int x.c0, .int x.c1], .tup [.int x.r0, .int x.r1]] = setAll [3, 4, 5, 6, 7, 8] [D.int x.a, .int x.b, .int x.s, .tup [.int x.s0, .int x.s1], .tup [.int x.c0, .int x.c1], .tup [.int x.r0, .int x.r1]] := rfl
    have b0 : bxD x = .tup [.int x.a, .int x.b, .int x.s, .tup [.int x.s0, .int x.s1], .tup [.int x.c0, .int x.c1], .tup [.int x.r0, .int x.r1]] := rfl
    have t0 : tD (tA st x.s) = .tup [.int (tA st x.s).1, .int (tA st x.s).2.1, .int (tA st x.s).2.2] := rfl
    have as6 : ∀ (g : List D → R SL Fl), asTup (bxD x) g = g [.int x.a, .int x.b, .int x.s, .tup [.int x.s0, .int x.s1], .tup [.int x.c0, .int x.c1], .tup [.int x.r0, .int x.r1]] := fun _ => rfl
    have as3 : ∀ (g : List D → R SL Fl), asTup (tD (tA st x.s)) g = g [.int (tA st x.s).1, .int (tA st x.s).2.1, .int (tA st x.s).2.2] := fun _ => rfl
    by_cases c1 : x.s0 + x.s1 ≤ (tA st x.s).2.2
    · rw [decide_eq_true c1] at w1
      by_cases c2 : x.c0 + x.c1 ≤ (tA st x.s).1 / wA w x.a
      · rw [decide_eq_true c2] at w2
        have : decide (Wn w h st x) = decide (x.r0 + x.r1 ≤ (tA st x.s).2.1 / wA h x.b) := decide_eq_decide.mpr ⟨fun z => k3.mpr z.2.2.2, fun z => ⟨cs, c1, k2.mp c2, k3.mp z⟩⟩
        rw [this]
        simp [f_is_box, ir_is_box, e6, ek, es, as6, as3, ws', setAll, w1, p3, fdivD_i, d1, w2, q3, d2, w3]
      · rw [decide_eq_false c2] at w2
        rw [decide_eq_false fun z => c2 (k2.mpr z.2.2.1)]
        simp [f_is_box, ir_is_box, e6, ek, es, as6, as3, ws', setAll, w1, p3, fdivD_i, d1, w2]
    · rw [decide_eq_false c1] at w1
      rw [decide_eq_false fun z => c1 z.2.1]
      simp [f_is_box, ir_is_box, e6, ek, es, as6, as3, ws', setAll, w1]
  · rw [decide_eq_false cs] at es
    rw [decide_eq_false fun z => cs z.1]
    simp [f_is_box, ir_is_box, e6, ek, es]
theorem within_ok (rw_ : Rw w) (rh : Rw h) (f : Fm w.length h.length x) : f__law_within [lsD w h, stD st, bxD x] s = .ok (.bl (decide (Wn w h st x))) s := by
  by_cases cs : x.s < st.length
  · have ws' : subS s (stD st) (.int x.s) = some (tD (tA st x.s)) := sub_st s ⟨f.s, cs⟩
    have cs' : ¬ (st.length : Int) ≤ x.s := by omega
    obtain ⟨⟨p1, p2⟩, p3⟩ := rw_.at s f.a
    obtain ⟨⟨q1, q2⟩, q3⟩ := rh.at s f.b
    have d1 : ∀ i, bitsOk i (wA w x.a) = true := fun i => bits_of (by omega)
    have d2 : ∀ i, bitsOk i (wA h x.b) = true := fun i => bits_of (by omega)
    have o1 : (tD (tA st x.s)).isObj = false := rfl
    have o2 : unw (tD (tA st x.s)) = tD (tA st x.s) := rfl
    by_cases c1 : x.s0 + x.s1 ≤ (tA st x.s).2.2
    · have c1' : ¬ (tA st x.s).2.2 < x.s0 + x.s1 := by omega
      by_cases c2 : (x.c0 + x.c1) * wA w x.a ≤ (tA st x.s).1
      · have : decide (Wn w h st x) = decide ((x.r0 + x.r1) * wA h x.b ≤ (tA st x.s).2.1) := decide_eq_decide.mpr ⟨fun z => z.2.2.2, fun z => ⟨cs, c1, c2, z⟩⟩
        rw [this]
        simp [f__law_within, ir__law_within, cs', ws', c1', p3, q3, mulD_i, d1, d2, c2]
      · rw [decide_eq_false fun z => c2 z.2.2.1]
        simp [f__law_within, ir__law_within, cs', ws', c1', p3, q3, mulD_i, d1, d2, c2]
    · have c1' : (tA st x.s).2.2 < x.s0 + x.s1 := by omega
      rw [decide_eq_false fun z => c1 z.2.1]
      simp [f__law_within, ir__law_within, cs', ws', c1']
  · have cs' : (st.length : Int) ≤ x.s := by omega
    rw [decide_eq_false fun z => cs z.1]
    simp [f__law_within, ir__law_within, cs']
theorem common_ok {a b c d : Int} (h1 : a < b) (h2 : c < d) : f__law_common [.int a, .int b, .int c, .int d] s = .ok (.bl (decide (cm a b c d))) s := by
  have : decide (cm a b c d) = decide (mx a c < mn b d) := decide_eq_decide.mpr (by unfold cm mx mn; split <;> split <;> omega)
  rw [this]
  simp [f__law_common, ir__law_common, bltS, bltD]
theorem mul_lt1 {a b k : Int} (ha : 0 ≤ a) (hb : 1 ≤ b) (hk : 1 ≤ k) : a * k < (a + b) * k := by
  have : (a + b) * k = a * k + b * k := Int.add_mul a b k
  have : 1 * 1 ≤ b * k := Int.mul_le_mul hb hk (by decide) (by omega)
  omega
theorem law_meet_ok (rw_ : Rw w) (rh : Rw h) (f : Fm w.length h.length x) (g : Fm w.length h.length y) : f__law_meet [lsD w h, bxD x, bxD y] s = .ok (.bl (decide (Mt w h x y))) s := by
  obtain ⟨⟨p1, p2⟩, p3⟩ := rw_.at s f.a
  obtain ⟨⟨q1, q2⟩, q3⟩ := rh.at s f.b
  obtain ⟨⟨p4, p5⟩, p6⟩ := rw_.at s g.a
  obtain ⟨⟨q4, q5⟩, q6⟩ := rh.at s g.b
  have d1 : ∀ i, bitsOk i (wA w x.a) = true := fun i => bits_of (by omega)
  have d2 : ∀ i, bitsOk i (wA h x.b) = true := fun i => bits_of (by omega)
  have d3 : ∀ i, bitsOk i (wA w y.a) = true := fun i => bits_of (by omega)
  have d4 : ∀ i, bitsOk i (wA h y.b) = true := fun i => bits_of (by omega)
  have hp := f.p; have hp' := g.p; have hq := f.q; have hq' := g.q; have hr := f.r; have hr' := g.r
  have e1 := common_ok s (a := x.s0) (b := x.s0 + x.s1) (c := y.s0) (d := y.s0 + y.s1) (by omega) (by omega)
  have e2 := common_ok s (mul_lt1 hq.1 hq.2 p1) (mul_lt1 hq'.1 hq'.2 p4)
  have e3 := common_ok s (mul_lt1 hr.1 hr.2 q1) (mul_lt1 hr'.1 hr'.2 q4)
  by_cases c0 : x.s = y.s
  · by_cases c1 : cm x.s0 (x.s0 + x.s1) y.s0 (y.s0 + y.s1)
    · rw [decide_eq_true c1] at e1
      by_cases c2 : cm (x.c0 * wA w x.a) ((x.c0 + x.c1) * wA w x.a) (y.c0 * wA w y.a) ((y.c0 + y.c1) * wA w y.a)
      · rw [decide_eq_true c2] at e2
        have : decide (Mt w h x y) = decide (cm (x.r0 * wA h x.b) ((x.r0 + x.r1) * wA h x.b) (y.r0 * wA h y.b) ((y.r0 + y.r1) * wA h y.b)) := decide_eq_decide.mpr ⟨fun z => z.2.2.2, fun z => ⟨c0, c1, c2, z⟩⟩
        rw [this]
        simp [f__law_meet, ir__law_meet, c0, e1, p3, p6, q3, q6, mulD_i, d1, d2, d3, d4, e2, e3]
      · rw [decide_eq_false c2] at e2
        rw [decide_eq_false fun z => c2 z.2.2.1]
        simp [f__law_meet, ir__law_meet, c0, e1, p3, p6, q3, q6, mulD_i, d1, d2, d3, d4, e2]
    · rw [decide_eq_false c1] at e1
      rw [decide_eq_false fun z => c1 z.2.1]
      simp [f__law_meet, ir__law_meet, c0, e1]
  · rw [decide_eq_false fun z => c0 z.1]
    simp [f__law_meet, ir__law_meet, c0]
/-- a box's ground -/
def gd (w h : List Int) (x : Bx) : D := .tup [.int x.s, .int x.s0, .int (x.s0 + x.s1 - 1), .int (x.c0 * wA w x.a), .int (x.r0 * wA h x.b), .int ((x.c0 + x.c1) * wA w x.a), .int ((x.r0 + x.r1) * wA h x.b)]
theorem as6 (x : Bx) (g : List D → R SL Fl) : asTup (bxD x) g = g [.int x.a, .int x.b, .int x.s, .tup [.int x.s0, .int x.s1], .tup [.int x.c0, .int x.c1], .tup [.int x.r0, .int x.r1]] := rfl
theorem ground_in_ok (rw_ : Rw w) (rh : Rw h) (f : Fm w.length h.length x) : f_ground_in [lsD w h, bxD x] s = .ok (gd w h x) s := by
  obtain ⟨⟨p1, p2⟩, p3⟩ := rw_.at s f.a
  obtain ⟨⟨q1, q2⟩, q3⟩ := rh.at s f.b
  have d1 : ∀ i, bitsOk i (wA w x.a) = true := fun i => bits_of (by omega)
  have d2 : ∀ i, bitsOk i (wA h x.b) = true := fun i => bits_of (by omega)
  have sg : ∀ a b k : Int, (∀ i, bitsOk i k = true) → f_span_ground [.tup [.int a, .int b], .int k] s = .ok (.tup [.int (a * k), .int ((a + b) * k)]) s := fun a b k hk => by
    simp [f_span_ground, ir_span_ground, mulD_i, hk]
  simp [f_ground_in, ir_ground_in, as6, setAll, p3, q3, sg _ _ _ d1, sg _ _ _ d2, gd]
theorem grounds_meet_ok (f : Fm w.length h.length x) (g : Fm w.length h.length y) : f_grounds_meet [gd w h x, gd w h y] s = .ok (.bl (decide (Mt w h x y))) s := by
  have hp := f.p; have hp' := g.p
  by_cases c0 : x.s = y.s
  · by_cases c1 : cm x.s0 (x.s0 + x.s1) y.s0 (y.s0 + y.s1)
    · have a1 : ¬ (y.s0 + y.s1 - 1 < x.s0) := by unfold cm at c1; omega
      have a2 : ¬ (x.s0 + x.s1 - 1 < y.s0) := by unfold cm at c1; omega
      have : decide (Mt w h x y) = (decide (x.c0 * wA w x.a < (y.c0 + y.c1) * wA w y.a) && (decide (y.c0 * wA w y.a < (x.c0 + x.c1) * wA w x.a) && (decide (x.r0 * wA h x.b < (y.r0 + y.r1) * wA h y.b) && decide (y.r0 * wA h y.b < (x.r0 + x.r1) * wA h x.b)))) := by
        rw [← Bool.decide_and, ← Bool.decide_and, ← Bool.decide_and]
        exact decide_eq_decide.mpr ⟨fun z => ⟨z.2.2.1.1, z.2.2.1.2, z.2.2.2.1, z.2.2.2.2⟩, fun z => ⟨c0, c1, ⟨z.1, z.2.1⟩, z.2.2.1, z.2.2.2⟩⟩
      rw [this]
      by_cases b1 : x.c0 * wA w x.a < (y.c0 + y.c1) * wA w y.a
      · by_cases b2 : y.c0 * wA w y.a < (x.c0 + x.c1) * wA w x.a
        · by_cases b3 : x.r0 * wA h x.b < (y.r0 + y.r1) * wA h y.b
          · simp [f_grounds_meet, ir_grounds_meet, gd, setAll, c0, a1, a2, b1, b2, b3]
          · simp [f_grounds_meet, ir_grounds_meet, gd, setAll, c0, a1, a2, b1, b2, b3]
        · simp [f_grounds_meet, ir_grounds_meet, gd, setAll, c0, a1, a2, b1, b2]
      · simp [f_grounds_meet, ir_grounds_meet, gd, setAll, c0, a1, a2, b1]
    · rw [decide_eq_false fun z => c1 z.2.1]
      by_cases a1 : y.s0 + y.s1 - 1 < x.s0
      · simp [f_grounds_meet, ir_grounds_meet, gd, setAll, c0, a1]
      · have a2 : x.s0 + x.s1 - 1 < y.s0 := by unfold cm at c1; omega
        simp [f_grounds_meet, ir_grounds_meet, gd, setAll, c0, a1, a2]
  · rw [decide_eq_false fun z => c0 z.1]
    simp [f_grounds_meet, ir_grounds_meet, gd, setAll, c0]
end
end K20
end Ev
end
section
set_option linter.all false
set_option maxHeartbeats 8000000
namespace Ev
open PySem (Str)
theorem ddupB_mem {x : List Int} : ∀ {l : List (List Int)}, x ∈ ddup l ↔ x ∈ l
  | [] => .rfl
  | y :: r => by
    unfold ddup
    split
    · rename_i h
      have h' : y ∈ ddup r := by simpa using h
      rw [ddupB_mem, List.mem_cons]
      constructor
      · exact .inr
      · rintro (rfl | q)
        · exact ddupB_mem.mp h'
        · exact q
    · rw [List.mem_cons, List.mem_cons, ddupB_mem]
theorem ddupB_nodup : ∀ l : List (List Int), (ddup l).Nodup
  | [] => .nil
  | y :: r => by
    unfold ddup
    split
    · exact ddupB_nodup r
    · rename_i h
      exact List.nodup_cons.mpr ⟨by simpa using h, ddupB_nodup r⟩
/-- sorted(set()) of pairs -/
theorem sset_pairs {ps : List P2} (h1 : ps.length < 64) (h2 : ∀ p ∈ ps, 0 ≤ p.1 ∧ 0 ≤ p.2) {ks : List P2} (hn : ks.Nodup) (hm : ∀ p, p ∈ ks ↔ p ∈ ps) : ssetF [.lst (ps.map pD)] = some (.lst ((isort ltP ks).map pD)) := by
  have e : ps.map pD = (ps.map fun p => [p.1, p.2]).map D.row := by rw [List.map_map]; rfl
  rw [e]
  show (match D.rows _ with
    | some rs => if rs.length < 64 ∧ (rs.all fun r => decide (r.length = (rs.headD []).length ∧ 1 ≤ r.length) && r.all fun i => decide (0 ≤ i)) = true then some (D.lst ((isort lexLt (ddup rs)).map D.row)) else none
    | none => none) = _
  rw [rows_map]
  simp only
  have key : ∀ r ∈ ps.map (fun p : P2 => [p.1, p.2]), r.length = 2 ∧ ∀ i ∈ r, 0 ≤ i := by
    intro r hr
    obtain ⟨p, hp, rfl⟩ := List.mem_map.mp hr
    obtain ⟨a, b⟩ := h2 p hp
    exact ⟨rfl, by intro i hi; simp at hi; rcases hi with rfl | rfl <;> assumption⟩
  rw [if_pos]
  · have inj : ∀ {p q : P2}, [p.1, p.2] = [q.1, q.2] → p = q := fun {p q} h => by
      simp at h; exact Prod.ext h.1 h.2
    have : isort lexLt (ddup (ps.map fun p : P2 => [p.1, p.2])) = isort lexLt (ks.map fun p : P2 => [p.1, p.2]) := by
      have n2 : (ks.map fun p : P2 => [p.1, p.2]).Nodup := by
        refine List.Pairwise.map _ ?_ hn
        intro a b ne e
        exact ne (inj e)
      refine strict_eq lexOrd _ _ (isort_strict lexOrd (ddupB_nodup _)) (isort_strict lexOrd n2) fun x => ?_
      rw [(isortB_perm lexLt _).mem_iff, (isortB_perm lexLt _).mem_iff, ddupB_mem]
      constructor
      · intro h
        obtain ⟨p, hp, rfl⟩ := List.mem_map.mp h
        exact List.mem_map.mpr ⟨p, (hm p).mpr hp, rfl⟩
      · intro h
        obtain ⟨p, hp, rfl⟩ := List.mem_map.mp h
        exact List.mem_map.mpr ⟨p, (hm p).mp hp, rfl⟩
    rw [this, isort_map (lt := ltP) (f := fun p : P2 => [p.1, p.2]) (fun a b => rfl), List.map_map]
    rfl
  · refine ⟨by simpa using h1, ?_⟩
    rw [List.all_eq_true]
    intro r hr
    obtain ⟨a, b⟩ := key r hr
    have hd : ((ps.map fun p : P2 => [p.1, p.2]).headD []).length = 2 := by
      cases ps with
      | nil => simp at hr
      | cons p ps => rfl
    rw [Bool.and_eq_true]
    exact ⟨decide_eq_true ⟨by omega, by omega⟩, List.all_eq_true.mpr fun i hi => decide_eq_true (b i hi)⟩
theorem tot_le {B : Int} (p : P2) : ∀ {l : List T3}, (∀ t ∈ l, 0 ≤ t.m ∧ t.m ≤ B) → 0 ≤ B → tot p l ≤ l.length * B
  | [], _, _ => by simp [tot]
  | t :: l, h, hB => by
    have h1 := h t (by simp)
    have h2 := tot_le p (l := l) (fun u hu => h u (by simp [hu])) hB
    rw [tot, List.length_cons]
    have : ((l.length + 1 : Nat) : Int) * B = l.length * B + B := by rw [Int.natCast_add, Int.add_mul]; simp
    split <;> omega
/-- all counts above 0: no pair is left out -/
theorem mrg_all {l : List T3} (h : ∀ t ∈ l, 1 ≤ t.m) : mrg l = (isort ltP (keys l [])).map fun p => (p.1, p.2, tot p l) := by
  unfold mrg fromK
  rw [← List.filterMap_eq_map']
  have pos : ∀ p ∈ isort ltP (keys l []), tot p l ≠ 0 := by
    intro p hp
    have hp := (isortB_perm ltP _).mem_iff.mp hp
    rcases (keys_mem _ _ _).mp hp with h' | ⟨t, ht, rfl⟩
    · cases h'
    · obtain ⟨a, b, rfl⟩ := List.append_of_mem ht
      rw [tot_append, tot, if_pos rfl]
      have h1 := h t ht
      have h2 := tot_nonneg (p := t.p) (l := a) fun u hu => by have := h u (by simp [hu]); omega
      have h3 := tot_nonneg (p := t.p) (l := b) fun u hu => by have := h u (by simp [hu]); omega
      omega
  revert pos
  generalize isort ltP (keys l []) = ks
  intro pos
  induction ks with
  | nil => rfl
  | cons p ks ih =>
    rw [List.filterMap_cons, List.filterMap_cons, if_pos (pos p (by simp)), ih fun q hq => pos q (by simp [hq])]
/-- where two boxes meet -/
def MI (w h : List Int) (l : List Bx) (i k : Nat) : Option (Nat × Nat) := match l[i]?, l[k]? with
  | some x, some y => if Mt w h x y then some (i, k) else none
  | _, _ => none
def FM (w h : List Int) (l : List Bx) : Option (Nat × Nat) := fo (fun i => fo (MI w h l i) i 0) l.length 0
def ikD (p : Nat × Nat) : D := .tup [.int p.1, .int p.2]
/-- a box's numbers that multiply -/
def Sm (x : Bx) : Prop := (1 ≤ x.s1 ∧ x.s1 < 1000000000000000000000000000000) ∧ (1 ≤ x.c1 ∧ x.c1 < 10000000000000) ∧ (1 ≤ x.r1 ∧ x.r1 < 10000000000000)
theorem Sm.m {x : Bx} (h : Sm x) : 1 ≤ (tr x).m ∧ (tr x).m ≤ 100000000000000000000000000000000000000000000000000000000 := by
  obtain ⟨⟨a1, a2⟩, ⟨b1, b2⟩, c1, c2⟩ := h
  show 1 ≤ x.s1 * x.c1 * x.r1 ∧ x.s1 * x.c1 * x.r1 ≤ _
  have h1 : 1 * 1 ≤ x.s1 * x.c1 := Int.mul_le_mul a1 b1 (by decide) (by omega)
  have h2 : 1 * 1 ≤ (x.s1 * x.c1) * x.r1 := Int.mul_le_mul (by omega) c1 (by decide) (by omega)
  have h3 : x.s1 * x.c1 ≤ 1000000000000000000000000000000 * 10000000000000 := Int.mul_le_mul (by omega) (by omega) (by omega) (by decide)
  have h4 : (x.s1 * x.c1) * x.r1 ≤ (1000000000000000000000000000000 * 10000000000000) * 10000000000000 := Int.mul_le_mul h3 (by omega) (by omega) (by decide)
  omega
namespace K20
open PySem (Str)
theorem merged_turn (pre : List T3) (t : T3) (x0 x2 x3 x4 x5 x6 : Slot) (s : SL) (hl : pre.length < 1000000) :
    foF g1 (.tup [2, 3, 4]) b_merged_1 (tD t) [x0, some (true, totD pre), x2, x3, x4, x5, x6] s =
      .ok (.nx [x0, some (true, totD (pre ++ [t])), some (false, .int t.1), some (false, .int t.2.1), some (false, .int t.2.2), x5, x6]) s := by
  obtain ⟨a, b, m⟩ := t
  have hk : (keys pre []).length < L := by
    have := keys_length pre []
    simp at this
    unfold L; omega
  have st := totD_step pre (a, b, m)
  simp only [T3.p, T3.m] at st
  simp [foF, tD, bindTg, setAll, b_merged_1, ss_cons, totD, L, tot_get, bopD, addD, addD0, st] at hk ⊢
  simp [hk]
theorem merged_item (l : List T3) (p : P2) (hp : p ∈ keys l []) (x0 x2 x3 x4 x5 x6 : Slot) (s : SL) :
    lcF g1 e_merged_1 (Tg.name 6) [5, 6] i_merged_1 [x0, some (true, totD l), x2, x3, x4, x5, x6] (pD p) s
      = .ok ((fun p : P2 => if tot p l ≠ 0 then some (tD (p.1, p.2, tot p l)) else none) p) s := by
  have e := tot_at hp
  by_cases z : tot p l = 0
  · simp [lcF, e_merged_1, i_merged_1, bindTg, wipeE, totD, subS, subD, e, cmpD, truD, z]
  · have zb : (tot p l == 0) = false := by simpa using z
    simp [lcF, e_merged_1, i_merged_1, bindTg, wipeE, totD, subS, subD, e, cmpD, truD, z, zb, pD, tD, L]
theorem merged_ok (l : List T3) (d : D) (s : SL) (hd : IsSeq d (l.map tD)) (hl : l.length < 1000) (hk : (keys l []).length < 64) (hn : ∀ t ∈ l, 0 ≤ t.1 ∧ 0 ≤ t.2.1) :
    f_merged [d] s = .ok (.tup ((mrg l).map tD)) s := by
  have hfor := forS_inv (enc := tD) (f := foF g1 (.tup [2, 3, 4]) b_merged_1) (fun pre ρ (s' : SL) => s' = s ∧ ∃ x2 x3 x4, ρ = [some (false, d), some (true, totD pre), x2, x3, x4, none, none]) l [] [some (false, d), some (true, totD []), none, none, none, none, none] s
    ⟨rfl, _, _, _, rfl⟩ (by
      rintro p x q ρ s2 e ⟨rfl, x2, x3, x4, rfl⟩
      have : p.length < 1000000 := by
        have := congrArg List.length e
        simp at this; omega
      exact ⟨_, _, merged_turn p x _ x2 x3 x4 none none _ this, rfl, _, _, _, rfl⟩)
  obtain ⟨ρ', s', e, rfl, x2, x3, x4, rfl⟩ := hfor
  simp only [List.nil_append] at e
  have hs : sortD (((keys l []).map ky2).map (unKy true)) = some (.lst ((isort ltP (keys l [])).map pD)) := by
    rw [List.map_map, show (unKy true ∘ ky2) = pD from rfl]
    refine sort_pD hk fun p hp => ?_
    rcases (keys_mem _ _ _).mp hp with h | ⟨t, ht, rfl⟩
    · cases h
    · exact hn t ht
  have ht := turns_fm (enc := pD) (f := lcF g1 e_merged_1 (Tg.name 6) [5, 6] i_merged_1 [some (false, d), some (true, totD l), x2, x3, x4, none, none]) (s := s') (isort ltP (keys l [])) []
    (fun p hp => merged_item l p ((isortB_perm ltP _).mem_iff.mp hp) _ _ _ _ _ _ _) (by
      rw [(isortB_perm ltP _).length_eq]; unfold L; simp; omega)
  have hm : (isort ltP (keys l [])).filterMap (fun p : P2 => if tot p l ≠ 0 then some (tD (p.1, p.2, tot p l)) else none) = (mrg l).map tD := by
    unfold mrg fromK
    rw [List.map_filterMap]
    congr 1; funext p
    split <;> rfl
  rw [hm, List.nil_append] at ht
  have e0 : totD [] = .dct true [] [] := rfl
  have hq := seqD_of hd
  rw [e0] at e
  simp [f_merged, ir_merged, hq, e, bltS, bltD, show sortedF [totD l] = _ from hs, ht, tupleF]
/-- the lot of boxes -/
def lotD (bs : List Bx) : D := .tup ((mrg (bs.map tr)).map tD)
section
variable (s : SL) {w h : List Int} {bs : List Bx}
theorem shares_ok {x : Bx} (hx : Sm x) : f_shares_of [bxD x] s = .ok (.int (x.s1 * x.c1 * x.r1)) s := by
  have b1 : ∀ i, bitsOk i x.c1 = true := fun i => bits_of (by have := hx.2.1; omega)
  have b2 : ∀ i, bitsOk i x.r1 = true := fun i => bits_of (by have := hx.2.2; omega)
  simp [f_shares_of, ir_shares_of, as6, setAll, mulD_i, b1, b2]
theorem few_keys (hl : bs.length < 64) : (keys (bs.map tr) []).length < 64 := by
  have := keys_length (bs.map tr) []
  simp at this; omega
theorem lot_of_ok (hf : ∀ x ∈ bs, Fm w.length h.length x ∧ Sm x) (hl : bs.length < 64) : f_lot_of_boxes [.tup (bs.map bxD)] s = .ok (lotD bs) s := by
  have t := turns_mp (f := lcF g18 e_lot_of_boxes_1 (Tg.name 2) [1, 2] .nil [some (false, .tup (bs.map bxD)), none, none]) (enc := bxD) (g := fun x => tD (tr x)) (s := s) bs [] (fun x hx => by
    have e := shares_ok s (hf x hx).2
    simp [lcF, e_lot_of_boxes_1, bindTg, wipeE, e, tr, tD]) (by unfold L; simp; omega)
  rw [List.nil_append] at t
  have e : bs.map (fun x => tD (tr x)) = (bs.map tr).map tD := by rw [List.map_map]; rfl
  rw [e] at t
  have m := merged_ok (bs.map tr) (.lst ((bs.map tr).map tD)) s (.inr rfl) (by simp; omega) (few_keys hl) (by
    intro t ht
    obtain ⟨x, hx, rfl⟩ := List.mem_map.mp ht
    exact ⟨(hf x hx).1.a.1, (hf x hx).1.b.1⟩)
  simp [-List.map_map, f_lot_of_boxes, ir_lot_of_boxes, t, m, lotD]
theorem counts_ok (hf : ∀ x ∈ bs, Fm w.length h.length x ∧ Sm x) (hl : bs.length < 64) : f__law_counts [.tup (bs.map bxD)] s = .ok (lotD bs) s := by
  let l := bs.map tr
  have ll : l = bs.map tr := rfl
  let pr : Bx → P2 := fun x => (x.a, x.b)
  have t := turns_mp (f := lcF g31 e__law_counts_1 (Tg.name 4) [3, 4] .nil [some (false, .tup (bs.map bxD)), some (true, .lst []), none, none, none]) (enc := bxD) (g := fun x => pD (pr x)) (s := s) bs [] (fun x hx => by
    simp [lcF, e__law_counts_1, bindTg, wipeE, pD, pr]) (by unfold L; simp; omega)
  rw [List.nil_append] at t
  have e : bs.map (fun x => pD (pr x)) = (bs.map pr).map pD := by rw [List.map_map]; rfl
  rw [e] at t
  have ss : bltS s .sset [.lst ((bs.map pr).map pD)] = some (.lst ((isort ltP (keys l [])).map pD)) := by
    have e0 : bltS s .sset [.lst ((bs.map pr).map pD)] = ssetF [.lst ((bs.map pr).map pD)] := rfl
    rw [e0]
    refine sset_pairs (by simpa using hl) ?_ (keys_nodup _ _ .nil) fun p => ?_
    · intro p hp
      obtain ⟨x, hx, rfl⟩ := List.mem_map.mp hp
      exact ⟨(hf x hx).1.a.1, (hf x hx).1.b.1⟩
    · rw [keys_mem]
      constructor
      · rintro (h | ⟨t, ht, rfl⟩)
        · cases h
        · obtain ⟨x, hx, rfl⟩ := List.mem_map.mp ht
          exact List.mem_map.mpr ⟨x, hx, rfl⟩
      · intro h
        obtain ⟨x, hx, rfl⟩ := List.mem_map.mp h
        exact .inr ⟨tr x, List.mem_map.mpr ⟨x, hx, rfl⟩, rfl⟩
  have kl : (isort ltP (keys l [])).length < 64 := by rw [(isortB_perm ltP _).length_eq]; exact few_keys hl
  obtain ⟨ρ', s', f, rfl, x2, x3, x4, rfl⟩ := forS_inv (f := foF g31 (Tg.name 2) b__law_counts_1) (enc := pD) (fun pre ρ (s' : SL) => s' = s ∧ ∃ (x2 x3 x4 : Slot), ρ = [some (false, .tup (bs.map bxD)), some (true, .lst (pre.map fun p => tD (p.1, p.2, tot p l))), x2, x3, x4]) (isort ltP (keys l [])) [] [some (false, .tup (bs.map bxD)), some (true, .lst []), none, none, none] s
    ⟨rfl, none, none, none, rfl⟩ (by
      rintro p q r ρ s2 ee ⟨rfl, x2, x3, x4, rfl⟩
      have hp := congrArg List.length ee
      simp at hp
      have t2 := turns_fm (f := lcF g31 e__law_counts_2 (Tg.name 4) [3, 4] i__law_counts_1 [some (false, .tup (bs.map bxD)), some (true, .lst (p.map fun p => tD (p.1, p.2, tot p l))), some (false, pD q), x3, x4]) (enc := bxD) (h := fun x => if pr x = q then some (.int (tr x).m) else none) (s := s2) bs [] (fun x hx => by
        have sm := (hf x hx).2
        have b1 : ∀ i, bitsOk i x.c1 = true := fun i => bits_of (by have := sm.2.1; omega)
        have b2 : ∀ i, bitsOk i x.r1 = true := fun i => bits_of (by have := sm.2.2; omega)
        have ce : cmpD .eq (.tup [.int x.a, .int x.b]) (pD q) = some (decide (pr x = q)) := eq_pD (x.a, x.b) q
        by_cases c : pr x = q
        · rw [decide_eq_true c] at ce
          simp [lcF, e__law_counts_2, i__law_counts_1, bindTg, wipeE, ce, c, mulD_i, b1, b2, tr, T3.m]
        · rw [decide_eq_false c] at ce
          simp [lcF, e__law_counts_2, i__law_counts_1, bindTg, wipeE, ce, c]) (by unfold L; simp; omega)
      rw [List.nil_append] at t2
      have e2 : bs.filterMap (fun x => if pr x = q then some (D.int (tr x).m) else none) = (l.filterMap fun t : T3 => if t.p = q then some t.m else none).map D.int := by
        rw [ll, List.filterMap_map, List.map_filterMap]
        congr 1; funext x
        show _ = Option.map D.int (if (tr x).p = q then some (tr x).m else none)
        have : (tr x).p = pr x := rfl
        rw [this]
        split <;> rfl
      rw [e2] at t2
      have sm : bltS s2 .sum [.lst ((l.filterMap fun t : T3 => if t.p = q then some t.m else none).map D.int)] = some (.int (tot q l)) := by
        show (D.ints _).map (fun is => D.int is.sum) = _
        rw [ints_map, Option.map_some, sum_fm]
      have hL : p.length < L := by unfold L; omega
      have p0 : subS s2 (pD q) (.int 0) = some (.int q.1) := rfl
      have p1 : subS s2 (pD q) (.int 1) = some (.int q.2) := rfl
      refine ⟨_, s2, ?_, rfl, some (false, pD q), x3, x4, rfl⟩
      simp [foF, bindTg, b__law_counts_1, p0, p1, t2, sm, hL]
      rfl)
  simp only [List.nil_append] at f
  have fin : (isort ltP (keys l [])).map (fun p => tD (p.1, p.2, tot p l)) = (mrg l).map tD := by
    rw [mrg_all, List.map_map]; · rfl
    intro t ht
    obtain ⟨x, hx, rfl⟩ := List.mem_map.mp ht
    exact (hf x hx).2.m.1
  rw [fin] at f
  have el : lotD bs = .tup ((mrg l).map tD) := rfl
  rw [el]
  simp [-List.map_map, f__law_counts, ir__law_counts, t, ss, f]
theorem first_meeting_ok (rw_ : Rw w) (rh : Rw h) (hf : ∀ x ∈ bs, Fm w.length h.length x) (hl : bs.length < 1000) : f_first_meeting [lsD w h, .tup (bs.map bxD)] s = .ok ((FM w h bs).elim .non ikD) s := by
  have main := enum_fo (f := foF g16 (Tg.tup [3, 4]) b_first_meeting_2) (fk := fun i => fo (MI w h bs i) i 0) ikD (fun j ρ => ∃ x3 x4 x5 x6 x7, ρ = [some (false, lsD w h), some (false, .tup (bs.map bxD)), some (true, .lst ((bs.take j).map (gd w h))), x3, x4, x5, x6, x7]) s (bs.map bxD) [some (false, lsD w h), some (false, .tup (bs.map bxD)), some (true, .lst []), none, none, none, none, none]
    ⟨none, none, none, none, none, rfl⟩ (by
      rintro j d ρ hd ⟨x3, x4, x5, x6, x7, rfl⟩
      rw [List.getElem?_map] at hd
      cases hx : bs[j]? with
      | none => rw [hx] at hd; cases hd
      | some x =>
        rw [hx] at hd
        cases hd
        have hj : j < bs.length := (List.getElem?_eq_some_iff.mp hx).1
        have mx := List.mem_of_getElem? hx
        have fx := hf x mx
        have eg := ground_in_ok s rw_ rh fx
        have uw : unw (gd w h x) = gd w h x := rfl
        have lt : ((bs.take j).map (gd w h)).length = j := by simp; omega
        have inner := enum_fo (f := foF g16 (Tg.tup [6, 7]) b_first_meeting_1) (fk := MI w h bs j) ikD (fun _ ρ => ∃ x6 x7, ρ = [some (false, lsD w h), some (false, .tup (bs.map bxD)), some (true, .lst ((bs.take j).map (gd w h))), some (false, .int (j : Int)), some (false, bxD x), some (false, gd w h x), x6, x7]) s ((bs.take j).map (gd w h)) [some (false, lsD w h), some (false, .tup (bs.map bxD)), some (true, .lst ((bs.take j).map (gd w h))), some (false, .int (j : Int)), some (false, bxD x), some (false, gd w h x), x6, x7]
          ⟨x6, x7, rfl⟩ (by
            rintro k d ρ hd ⟨y6, y7, rfl⟩
            rw [List.getElem?_map] at hd
            cases hy : (bs.take j)[k]? with
            | none => rw [hy] at hd; cases hd
            | some y =>
              rw [hy] at hd
              cases hd
              have hy' : bs[k]? = some y := by
                rw [List.getElem?_take] at hy
                split at hy
                · exact hy
                · cases hy
              have gm := grounds_meet_ok s (w := w) (h := h) fx (hf y (List.mem_of_getElem? hy'))
              have em : MI w h bs j k = if Mt w h x y then some (j, k) else none := by unfold MI; rw [hx, hy']
              rw [em]
              by_cases c : Mt w h x y
              · rw [decide_eq_true c] at gm
                refine .inr ⟨(j, k), if_pos c, ?_⟩
                simp [foF, bindTg, setAll, b_first_meeting_1, gm, ikD]
              · rw [decide_eq_false c] at gm
                refine .inl ⟨if_neg c, _, ?_, some (false, .int (k : Int)), some (false, gd w h y), rfl⟩
                simp [foF, bindTg, setAll, b_first_meeting_1, gm])
        rw [lt] at inner
        have tk : (bs.take (j + 1)).map (gd w h) = (bs.take j).map (gd w h) ++ [gd w h x] := by
          rw [List.take_add_one, hx]; simp
        rw [tk]
        have hL : ((bs.take j).map (gd w h)).length < L := by rw [lt]; unfold L; omega
        generalize (bs.take j).map (gd w h) = G at *
        have en : enumD (.lst G) = some (G.mapIdx fun k d => D.tup [.int (k : Int), d]) := rfl
        generalize G.mapIdx (fun k d => D.tup [.int (k : Int), d]) = GG at *
        rcases inner with ⟨h1, ρ', h2, y6, y7, rfl⟩ | ⟨p, h1, h2⟩
        · refine .inl ⟨h1, _, ?_, some (false, .int (j : Int)), some (false, bxD x), some (false, gd w h x), y6, y7, rfl⟩
          simp [foF, bindTg, setAll, b_first_meeting_2, eg, uw, en]
          simp [h2, hL]
        · refine .inr ⟨p, h1, ?_⟩
          simp [foF, bindTg, setAll, b_first_meeting_2, eg, uw, en]
          simp [h2])
  have en : enumD (.tup (bs.map bxD)) = some ((bs.map bxD).mapIdx fun k d => D.tup [.int (k : Int), d]) := rfl
  have lm : (bs.map bxD).length = bs.length := by simp
  rw [lm] at main
  generalize bs.map bxD = B at *
  generalize B.mapIdx (fun k d => D.tup [.int (k : Int), d]) = BB at *
  rcases main with ⟨h1, ρ', h2, x3, x4, x5, x6, x7, rfl⟩ | ⟨p, h1, h2⟩
  · have e : FM w h bs = none := h1
    rw [e]
    simp [f_first_meeting, ir_first_meeting, en, h2]
  · have e : FM w h bs = some p := h1
    rw [e]
    simp [f_first_meeting, ir_first_meeting, en, h2]
end
end K20
end Ev
end
section
set_option linter.all false
set_option maxHeartbeats 8000000
namespace Ev
open PySem (Str)
def bxOf : D → Bx
  | .tup [.int a, .int b, .int s, .tup [.int p, .int q], .tup [.int r, .int t], .tup [.int u, .int v]] => ⟨a, b, s, p, q, r, t, u, v⟩
  | _ => ⟨0, 0, 0, 0, 0, 0, 0, 0, 0⟩
@[simp] theorem bxOf_D (x : Bx) : bxOf (bxD x) = x := rfl
theorem PB_of {w h : Nat} {d : D} (z : PB w h d) : d = bxD (bxOf d) ∧ Fm w h (bxOf d) := by
  obtain ⟨x, rfl, f⟩ := PB_ex z
  exact ⟨rfl, f⟩
/-- the fault of one entry -/
def E1 (w h : List Int) (st : List T3) (l : List D) (i : Nat) : Option (Str × D) := match l[i]? with
  | some d => if PB w.length h.length d then (if Wn w h st (bxOf d) then none else some (("inside" : Str), .int (i : Int))) else some (("box" : Str), .int (i : Int))
  | none => none
/-- the first fault of a thing -/
def TF (w h : List Int) (st : List T3) : D → Option (Str × D)
  | .tup l => match fo (E1 w h st l) l.length 0 with
    | some p => some p
    | none => (FM w h (l.map bxOf)).map fun p => (("overlap" : Str), ikD p)
  | _ => some (("laying" : Str), .int (-1))
def bxsOf : D → List Bx
  | .tup l => l.map bxOf
  | _ => []
def DU (w h : List Int) (st : List T3) (d : D) : D := match TF w h st d with
  | some (wd, a) => .tup [.str ("raised" : Str), .str wd, a]
  | none => .tup [.str ("lot" : Str), K20.lotD (bxsOf d)]
theorem E1_all {w h : List Int} {st : List T3} {l : List D} (e : fo (E1 w h st l) l.length 0 = none) : ∀ d ∈ l, PB w.length h.length d ∧ Wn w h st (bxOf d) := by
  intro d hd
  obtain ⟨i, hi, rfl⟩ := List.mem_iff_getElem.mp hd
  have := fo_none e i (Nat.zero_le _) (by omega)
  unfold E1 at this
  rw [List.getElem?_eq_getElem hi] at this
  simp only at this
  split at this
  · rename_i c
    split at this
    · exact ⟨c, ‹_›⟩
    · cases this
  · cases this
theorem E1_map {w h : List Int} {st : List T3} {l : List D} (e : fo (E1 w h st l) l.length 0 = none) : (l.map bxOf).map bxD = l := by
  rw [List.map_map]
  conv => rhs; rw [← List.map_id l]
  apply List.map_congr_left
  intro d hd
  exact ((PB_of (E1_all e d hd).1).1).symm
namespace K20
open PySem (Str)
section
variable (s : SL) {w h : List Int} {st : List T3} {n k : Nat} {d : D}
theorem sm_of (rw_ : Rw w) (rh : Rw h) (sk : Sk st) {x : Bx} (f : Fm w.length h.length x) (wn : Wn w h st x) : Sm x := by
  obtain ⟨a1, a2, a3, a4⟩ := wn
  obtain ⟨p1, p2, p3⟩ := sk.pos _ (tA_mem ⟨f.s, a1⟩)
  obtain ⟨q1, q2⟩ := rw_.pos _ (wA_mem f.a)
  obtain ⟨r1, r2⟩ := rh.pos _ (wA_mem f.b)
  have hp := f.p; have hq := f.q; have hr := f.r
  have m1 : (x.c0 + x.c1) * 1 ≤ (x.c0 + x.c1) * wA w x.a := Int.mul_le_mul_of_nonneg_left q1 (by omega)
  have m2 : (x.r0 + x.r1) * 1 ≤ (x.r0 + x.r1) * wA h x.b := Int.mul_le_mul_of_nonneg_left r1 (by omega)
  exact ⟨⟨hp.2, by omega⟩, ⟨hq.2, by omega⟩, hr.2, by omega⟩
theorem laying_fault_ok (rw_ : Rw w) (rh : Rw h) (hn : Nic (n + 3) k d) (hk : k < 1000) : f_laying_fault [lsD w h, stD st, d] s = .ok (faD (TF w h st d)) s := by
  rcases hn.cases with ⟨i, rfl⟩ | ⟨i, rfl⟩ | rfl | ⟨i, rfl⟩ | ⟨l, rfl⟩ | ⟨i, rfl⟩
  · simp [f_laying_fault, ir_laying_fault, TF, faD]
  · simp [f_laying_fault, ir_laying_fault, TF, faD]
  · simp [f_laying_fault, ir_laying_fault, TF, faD]
  · simp [f_laying_fault, ir_laying_fault, TF, faD]
  · have main := enum_fo (f := foF g17 (Tg.tup [3, 4]) b_laying_fault_1) (fk := E1 w h st l) (fun p => .tup [.str p.1, p.2]) (fun _ ρ => ∃ x3 x4, ρ = [some (false, lsD w h), some (false, stD st), some (false, .tup l), x3, x4, none]) s l [some (false, lsD w h), some (false, stD st), some (false, .tup l), none, none, none]
      ⟨none, none, rfl⟩ (by
        rintro j d ρ hd ⟨x3, x4, rfl⟩
        have nd := hn.tup d (List.mem_of_getElem? hd)
        have e1 := is_box_like_ok s w h nd
        have ee : E1 w h st l j = if PB w.length h.length d then (if Wn w h st (bxOf d) then none else some (("inside" : Str), .int (j : Int))) else some (("box" : Str), .int (j : Int)) := by unfold E1; rw [hd]
        rw [ee]
        by_cases c : PB w.length h.length d
        · rw [decide_eq_true c] at e1
          obtain ⟨ed, fd⟩ := PB_of c
          have e2 := is_box_ok s (st := st) rw_ rh fd
          rw [← ed] at e2
          rw [if_pos c]
          by_cases c2 : Wn w h st (bxOf d)
          · rw [decide_eq_true c2] at e2
            rw [if_pos c2]
            refine .inl ⟨rfl, _, ?_, some (false, .int (j : Int)), some (false, d), rfl⟩
            simp [foF, bindTg, setAll, b_laying_fault_1, e1, e2]
          · rw [decide_eq_false c2] at e2
            rw [if_neg c2]
            refine .inr ⟨_, rfl, ?_⟩
            simp [foF, bindTg, setAll, b_laying_fault_1, e1, e2]
        · rw [decide_eq_false c] at e1
          rw [if_neg c]
          refine .inr ⟨_, rfl, ?_⟩
          simp [foF, bindTg, setAll, b_laying_fault_1, e1])
    have en : enumD (.tup l) = some (l.mapIdx fun k d => D.tup [.int (k : Int), d]) := rfl
    rcases main with ⟨h1, ρ', h2, x3, x4, rfl⟩ | ⟨p, h1, h2⟩
    · have et : TF w h st (.tup l) = (FM w h (l.map bxOf)).map fun p => (("overlap" : Str), ikD p) := by
        show (match fo (E1 w h st l) l.length 0 with
          | some p => some p
          | none => (FM w h (l.map bxOf)).map fun p => (("overlap" : Str), ikD p)) = _
        rw [h1]
      have fm := first_meeting_ok s (bs := l.map bxOf) rw_ rh (fun x hx => by
        obtain ⟨d, hd, rfl⟩ := List.mem_map.mp hx
        exact (PB_of (E1_all h1 d hd).1).2) (by have := hn.len; simp; omega)
      rw [E1_map h1] at fm
      rw [et]
      generalize l.mapIdx (fun k d => D.tup [.int (k : Int), d]) = LL at *
      cases ef : FM w h (l.map bxOf) with
      | none =>
        rw [ef] at fm
        simp at fm
        simp [f_laying_fault, ir_laying_fault, en, h2, fm, faD]
      | some p =>
        rw [ef] at fm
        simp at fm
        have u1 : unw (ikD p) = ikD p := rfl
        have u2 : isNon (ikD p) = false := rfl
        simp [f_laying_fault, ir_laying_fault, en, h2, fm, faD, u1, u2]
    · have et : TF w h st (.tup l) = some p := by
        show (match fo (E1 w h st l) l.length 0 with
          | some p => some p
          | none => (FM w h (l.map bxOf)).map fun p => (("overlap" : Str), ikD p)) = _
        rw [h1]
      rw [et]
      generalize l.mapIdx (fun k d => D.tup [.int (k : Int), d]) = LL at *
      simp [f_laying_fault, ir_laying_fault, en, h2, faD]
  · simp [f_laying_fault, ir_laying_fault, TF, faD]
theorem due_ok (rw_ : Rw w) (rh : Rw h) (sk : Sk st) (hn : Nic (n + 3) k d) (hl : ∀ l, d = .tup l → l.length < 64) : f__law_due [lsD w h, stD st, d] s = .ok (DU w h st d) s := by
  rcases hn.cases with ⟨i, rfl⟩ | ⟨i, rfl⟩ | rfl | ⟨i, rfl⟩ | ⟨l, rfl⟩ | ⟨i, rfl⟩
  · simp [f__law_due, ir__law_due, DU, TF]
  · simp [f__law_due, ir__law_due, DU, TF]
  · simp [f__law_due, ir__law_due, DU, TF]
  · simp [f__law_due, ir__law_due, DU, TF]
  · have hl := hl l rfl
    have er : rngD 0 (l.length : Int) = some ((List.range l.length).map fun k : Nat => D.int k) := rngD_0 _ (by omega)
    have lt : bltS s .len [.tup l] = some (.int l.length) := by simp [bltS, bltD, lenF]
    have main := rng_fo (f := foF g32 (Tg.name 3) b__law_due_1) (fk := E1 w h st l) (fun p => .tup [.str ("raised" : Str), .str p.1, p.2]) (fun _ ρ => ∃ x3, ρ = [some (false, lsD w h), some (false, stD st), some (false, .tup l), x3, none]) s l.length [some (false, lsD w h), some (false, stD st), some (false, .tup l), none, none]
      ⟨none, rfl⟩ (by
        rintro j ρ hj ⟨x3, rfl⟩
        have hd : l[j]? = some l[j] := List.getElem?_eq_getElem hj
        have nd := hn.tup l[j] (List.getElem_mem hj)
        generalize l[j] = d at hd nd
        have sj : subS s (.tup l) (.int j) = some d := (atD_nat l j hj).trans hd
        have e1 := formed_ok s w h nd
        have ee : E1 w h st l j = if PB w.length h.length d then (if Wn w h st (bxOf d) then none else some (("inside" : Str), .int (j : Int))) else some (("box" : Str), .int (j : Int)) := by unfold E1; rw [hd]
        rw [ee]
        by_cases c : PB w.length h.length d
        · rw [decide_eq_true c] at e1
          obtain ⟨ed, fd⟩ := PB_of c
          have e2 := within_ok s (st := st) rw_ rh fd
          rw [← ed] at e2
          rw [if_pos c]
          by_cases c2 : Wn w h st (bxOf d)
          · rw [decide_eq_true c2] at e2
            rw [if_pos c2]
            refine .inl ⟨rfl, _, ?_, some (false, .int (j : Int)), rfl⟩
            simp [foF, bindTg, setAll, b__law_due_1, sj, e1, e2]
          · rw [decide_eq_false c2] at e2
            rw [if_neg c2]
            refine .inr ⟨_, rfl, ?_⟩
            simp [foF, bindTg, setAll, b__law_due_1, sj, e1, e2]
        · rw [decide_eq_false c] at e1
          rw [if_neg c]
          refine .inr ⟨_, rfl, ?_⟩
          simp [foF, bindTg, setAll, b__law_due_1, sj, e1])
    rcases main with ⟨h1, ρ', h2, x3, rfl⟩ | ⟨p, h1, h2⟩
    · have et : TF w h st (.tup l) = (FM w h (l.map bxOf)).map fun p => (("overlap" : Str), ikD p) := by
        show (match fo (E1 w h st l) l.length 0 with
          | some p => some p
          | none => (FM w h (l.map bxOf)).map fun p => (("overlap" : Str), ikD p)) = _
        rw [h1]
      have all := E1_all h1
      have two := rng_fo (f := foF g32 (Tg.name 3) b__law_due_3) (fk := fun i => fo (MI w h (l.map bxOf) i) i 0) (fun p => .tup [.str ("raised" : Str), .str ("overlap" : Str), ikD p]) (fun _ ρ => ∃ x3 x4, ρ = [some (false, lsD w h), some (false, stD st), some (false, .tup l), x3, x4]) s l.length [some (false, lsD w h), some (false, stD st), some (false, .tup l), x3, none]
        ⟨x3, none, rfl⟩ (by
          rintro j ρ hj ⟨y3, y4, rfl⟩
          have hd : l[j]? = some l[j] := List.getElem?_eq_getElem hj
          have pd := all l[j] (List.getElem_mem hj)
          generalize l[j] = d at hd pd
          have sj : subS s (.tup l) (.int j) = some d := (atD_nat l j hj).trans hd
          obtain ⟨ed, fd⟩ := PB_of pd.1
          have inner := rng_fo (f := foF g32 (Tg.name 4) b__law_due_2) (fk := MI w h (l.map bxOf) j) (fun p => .tup [.str ("raised" : Str), .str ("overlap" : Str), ikD p]) (fun _ ρ => ∃ x4, ρ = [some (false, lsD w h), some (false, stD st), some (false, .tup l), some (false, .int (j : Int)), x4]) s j [some (false, lsD w h), some (false, stD st), some (false, .tup l), some (false, .int (j : Int)), y4]
            ⟨y4, rfl⟩ (by
              rintro i ρ hi ⟨z4, rfl⟩
              have hi' : i < l.length := by omega
              have he : l[i]? = some l[i] := List.getElem?_eq_getElem hi'
              have pe := all l[i] (List.getElem_mem hi')
              generalize l[i] = e at he pe
              have si : subS s (.tup l) (.int i) = some e := (atD_nat l i hi').trans he
              obtain ⟨ee, fe⟩ := PB_of pe.1
              have mt := law_meet_ok s rw_ rh fd fe
              rw [← ed, ← ee] at mt
              have em : MI w h (l.map bxOf) j i = if Mt w h (bxOf d) (bxOf e) then some (j, i) else none := by
                unfold MI
                rw [List.getElem?_map, List.getElem?_map, hd, he]; rfl
              rw [em]
              by_cases c : Mt w h (bxOf d) (bxOf e)
              · rw [decide_eq_true c] at mt
                refine .inr ⟨(j, i), if_pos c, ?_⟩
                simp [foF, bindTg, b__law_due_2, sj, si, mt, ikD]
              · rw [decide_eq_false c] at mt
                refine .inl ⟨if_neg c, _, ?_, some (false, .int (i : Int)), rfl⟩
                simp [foF, bindTg, b__law_due_2, sj, si, mt])
          have erj : rngD 0 (j : Int) = some ((List.range j).map fun k : Nat => D.int k) := rngD_0 _ (by omega)
          rcases inner with ⟨h1, ρ', h2, z4, rfl⟩ | ⟨p, h1, h2⟩
          · refine .inl ⟨h1, _, ?_, some (false, .int (j : Int)), z4, rfl⟩
            simp [foF, bindTg, b__law_due_3, erj, h2]
          · refine .inr ⟨p, h1, ?_⟩
            simp [foF, bindTg, b__law_due_3, erj, h2])
      rcases two with ⟨h3, ρ', h4, y3, y4, rfl⟩ | ⟨p, h3, h4⟩
      · have ef : FM w h (l.map bxOf) = none := by unfold FM; rw [List.length_map]; exact h3
        have ed : DU w h st (.tup l) = .tup [.str ("lot" : Str), lotD (l.map bxOf)] := by
          unfold DU; rw [et, ef]; rfl
        rw [ed]
        have co := counts_ok s (w := w) (h := h) (bs := l.map bxOf) (fun x hx => by
          obtain ⟨d, hd, rfl⟩ := List.mem_map.mp hx
          have f := (PB_of (all d hd).1).2
          exact ⟨f, sm_of rw_ rh sk f (all d hd).2⟩) (by simpa using hl)
        rw [E1_map h1] at co
        have uw : unw (lotD (l.map bxOf)) = lotD (l.map bxOf) := rfl
        simp [f__law_due, ir__law_due, lt, er, h2, h4, co, uw]
      · have ef : FM w h (l.map bxOf) = some p := by unfold FM; rw [List.length_map]; exact h3
        have ed : DU w h st (.tup l) = .tup [.str ("raised" : Str), .str ("overlap" : Str), ikD p] := by
          unfold DU; rw [et, ef]; rfl
        rw [ed]
        simp [f__law_due, ir__law_due, lt, er, h2, h4]
    · have et : TF w h st (.tup l) = some p := by
        show (match fo (E1 w h st l) l.length 0 with
          | some p => some p
          | none => (FM w h (l.map bxOf)).map fun p => (("overlap" : Str), ikD p)) = _
        rw [h1]
      have ed : DU w h st (.tup l) = .tup [.str ("raised" : Str), .str p.1, p.2] := by unfold DU; rw [et]
      rw [ed]
      simp [f__law_due, ir__law_due, lt, er, h2]
  · simp [f__law_due, ir__law_due, DU, TF]
theorem TF_ok {wd : Str} {a : D} (e : TF w h st d = some (wd, a)) : a.plain = true ∧ (∃ l, wd = l ∧ (l = "inside" ∨ l = "box" ∨ l = "overlap" ∨ l = "laying")) ∧ (a = .int (-1) ∨ (∃ l, d = .tup l ∧ ∃ i : Nat, i < l.length ∧ a = .int (i : Int)) ∨ ∃ l, d = .tup l ∧ ∃ p : Nat × Nat, p.1 < l.length ∧ p.2 < l.length ∧ a = ikD p) := by
  have oth : ∀ (wd : Str) (a : D), some (("laying" : Str), D.int (-1)) = some (wd, a) → a.plain = true ∧ (∃ l, wd = l ∧ (l = "inside" ∨ l = "box" ∨ l = "overlap" ∨ l = "laying")) ∧ (a = .int (-1) ∨ (∃ l, d = .tup l ∧ ∃ i : Nat, i < l.length ∧ a = .int (i : Int)) ∨ ∃ l, d = .tup l ∧ ∃ p : Nat × Nat, p.1 < l.length ∧ p.2 < l.length ∧ a = ikD p) := by
    intro wd a e
    cases e
    exact ⟨rfl, ⟨_, rfl, .inr (.inr (.inr rfl))⟩, .inl rfl⟩
  cases d with
  | tup l =>
    have e' : (match fo (E1 w h st l) l.length 0 with
          | some p => some p
          | none => (FM w h (l.map bxOf)).map fun p => (("overlap" : Str), ikD p)) = some (wd, a) := e
    cases h1 : fo (E1 w h st l) l.length 0 with
    | some p =>
      rw [h1] at e'
      cases e'
      obtain ⟨j, _, hj, h2⟩ := fo_some h1
      unfold E1 at h2
      split at h2
      · split at h2
        · split at h2
          · cases h2
          · cases h2
            exact ⟨rfl, ⟨_, rfl, .inl rfl⟩, .inr (.inl ⟨l, rfl, j, by omega, rfl⟩)⟩
        · cases h2
          exact ⟨rfl, ⟨_, rfl, .inr (.inl rfl)⟩, .inr (.inl ⟨l, rfl, j, by omega, rfl⟩)⟩
      · cases h2
    | none =>
      rw [h1] at e'
      cases h2 : FM w h (l.map bxOf) with
      | none => rw [h2] at e'; cases e'
      | some p =>
        rw [h2] at e'
        cases e'
        obtain ⟨j, _, hj, h3⟩ := fo_some (show fo _ (l.map bxOf).length 0 = some p from h2)
        obtain ⟨i, _, hi, h4⟩ := fo_some h3
        unfold MI at h4
        split at h4
        · split at h4
          · cases h4
            simp at hj
            exact ⟨rfl, ⟨_, rfl, .inr (.inr (.inl rfl))⟩, .inr (.inr ⟨l, rfl, (j, i), by omega, by simp; omega, rfl⟩)⟩
          · cases h4
        · cases h4
  | _ => exact oth wd a e
theorem let_n : f_let [.non] s = .ok .non s := by simp [f_let, ir_let]
theorem let_s (w : Str) (a : D) (ha : a.plain = true) : f_let [.tup [.str w, a]] s = .ex (.mk 0 [("word" : Str), ("at" : Str)] [.str w, a]) s := by
  simp [f_let, ir_let, setAll, ha]
theorem lets_ok (rw_ : Rw w) (rh : Rw h) (sk : Sk st) (hn : Nic (n + 3) k d) (hk : k < 1000) (hl : ∀ l, d = .tup l → l.length < 64) : f_lets_laying [lsD w h, stD st, d] s = match TF w h st d with
    | some (wd, a) => .ex (.mk 0 [("word" : Str), ("at" : Str)] [.str wd, a]) s
    | none => .ok (lotD (bxsOf d)) s := by
  have e1 := laying_fault_ok s (st := st) rw_ rh hn hk
  cases et : TF w h st d with
  | some p =>
    obtain ⟨wd, a⟩ := p
    rw [et] at e1
    have e2 := let_s s wd a (TF_ok et).1
    simp [faD] at e1
    simp [f_lets_laying, ir_lets_laying, e1, e2]
  | none =>
    rw [et] at e1
    have e2 := let_n s
    have co : f_lot_of_boxes [d] s = .ok (lotD (bxsOf d)) s := by
      cases d with
      | tup l =>
        have e' : (match fo (E1 w h st l) l.length 0 with
          | some p => some p
          | none => (FM w h (l.map bxOf)).map fun p => (("overlap" : Str), ikD p)) = none := et
        cases h1 : fo (E1 w h st l) l.length 0 with
        | some p => rw [h1] at e'; cases e'
        | none =>
          have all := E1_all h1
          have co := lot_of_ok s (w := w) (h := h) (bs := l.map bxOf) (fun x hx => by
            obtain ⟨d, hd, rfl⟩ := List.mem_map.mp hx
            have f := (PB_of (all d hd).1).2
            exact ⟨f, sm_of rw_ rh sk f (all d hd).2⟩) (by simpa using hl l rfl)
          rw [E1_map h1] at co
          exact co
      | _ => cases et
    simp [faD] at e1
    have ob : (lotD (bxsOf d)).isObj = false := rfl
    simp [f_lets_laying, ir_lets_laying, e1, e2, co]
theorem answer_ok (rw_ : Rw w) (rh : Rw h) (sk : Sk st) (hn : Nic (n + 3) k d) (hk : k < 1000) (hl : ∀ l, d = .tup l → l.length < 64) (b : Bool) : f__law_answer [lsD w h, stD st, d, .bl b] s = .ok (DU w h st d) s := by
  have e1 := lets_ok s rw_ rh sk hn hk hl
  cases et : TF w h st d with
  | some p =>
    obtain ⟨wd, a⟩ := p
    rw [et] at e1
    have ed : DU w h st d = .tup [.str ("raised" : Str), .str wd, a] := by unfold DU; rw [et]
    rw [ed]
    have tx := tryF_ex (cs := [0]) (rr := IXp.ret (IXr.tup (IXs.c (D.str ("raised" : Str)) (IXs.fld ("word" : Str) (IXs.fld ("at" : Str) (IXs.nil)))))) (c := 0) (ns := [("word" : Str), ("at" : Str)]) (fs := [.str wd, a]) (d := .tup [.str ("raised" : Str), .str wd, a]) s (by decide) (by rfl)
    cases b
    · simp [f__law_answer, ir__law_answer, b__law_answer_1, e1, tx]
    · simp [f__law_answer, ir__law_answer, b__law_answer_1, permL, e1, tx]
  | none =>
    rw [et] at e1
    have ed : DU w h st d = .tup [.str ("lot" : Str), lotD (bxsOf d)] := by unfold DU; rw [et]
    rw [ed]
    have uw : unw (lotD (bxsOf d)) = lotD (bxsOf d) := rfl
    cases b
    · simp [f__law_answer, ir__law_answer, b__law_answer_1, e1, uw]
    · simp [f__law_answer, ir__law_answer, b__law_answer_1, permL, e1, uw]
end
end K20
end Ev
end
section
set_option linter.all false
set_option maxHeartbeats 8000000
namespace Ev
open PySem (Str)
theorem rep_ne {d : D} (f : D.fit 40 d = true) : cmpD .ne (.rep d) (.rep d) = some false := by
  show (if D.same d d = true then some false else none) = _
  rw [if_pos (Ev.same_refl d 40 f)]
/-- a short int -/
def sI (i : Int) : Bool := decide (i.natAbs < 2 ^ 250)
@[simp] theorem sml_i (i : Int) : sml (.int i) = sI i := (rfl)
@[simp] theorem sml_b (i : Bool) : sml (.bl i) = true := (rfl)
@[simp] theorem sml_n : sml .non = true := (rfl)
@[simp] theorem sml_s (x : Str) : sml (.str x) = decide (x.length ≤ 20) := (rfl)
theorem sI_of {i : Int} (h : -1000000000000000000000000000000000000000000000000000000000000 < i ∧ i < 1000000000000000000000000000000000000000000000000000000000000) : sI i = true := by
  have e : (1000000000000000000000000000000000000000000000000000000000000 : Nat) < 2 ^ 250 := by decide
  refine decide_eq_true ?_
  omega
theorem cmp_nil_l {l : List D} (h : ∀ d ∈ l, D.fit 39 d = true) : cmpD .eq (.lst l) (.lst []) = some l.isEmpty := by
  have f : D.fit 40 (.lst l) = true := by rw [fit_l]; exact fits_of h
  show (if (D.fit 40 (.lst l) && D.fit 40 (.lst [])) = true then some (D.eqv (.lst l) (.lst [])) else none) = _
  rw [f]
  cases l with
  | nil => rfl
  | cons x l => rfl
theorem cmp_nil_t {l : List D} (h : ∀ d ∈ l, D.fit 39 d = true) : cmpD .eq (.tup l) (.tup []) = some l.isEmpty := by
  have f : D.fit 40 (.tup l) = true := by rw [fit_t]; exact fits_of h
  show (if (D.fit 40 (.tup l) && D.fit 40 (.tup [])) = true then some (D.eqv (.tup l) (.tup [])) else none) = _
  rw [f]
  cases l with
  | nil => rfl
  | cons x l => rfl
/-- one of a tuple's items -/
theorem atT (s : SL) (l : List D) {v : Int} (h : 0 ≤ v ∧ v < l.length) : ∃ c ∈ l, subS s (.tup l) (.int v) = some c := by
  obtain ⟨k, rfl⟩ : ∃ k : Nat, v = k := ⟨v.toNat, by omega⟩
  have hk : k < l.length := by omega
  refine ⟨l[k], List.getElem_mem hk, ?_⟩
  show atD l (k : Int) = _
  rw [atD_nat _ _ hk, List.getElem?_eq_getElem hk]
theorem slc_drop (l : List D) (k : Int) (h : 0 ≤ k) : slcD (.tup l) (some k) none = some (.tup (l.drop k.toNat)) := by
  obtain ⟨k, rfl⟩ : ∃ j : Nat, k = j := ⟨k.toNat, by omega⟩
  show some (D.tup ((l.drop (sIx l.length 0 (some (k : Int)))).take (l.length - sIx l.length 0 (some (k : Int))))) = _
  rw [sIx_nat _ _ k rfl]
  rcases Nat.lt_or_ge l.length k with c | c
  · rw [Nat.min_eq_right (by omega), List.drop_of_length_le (Nat.le_refl _), List.drop_of_length_le (by omega)]; simp
  · rw [Nat.min_eq_left c, List.take_of_length_le (by simp)]; rfl
theorem slc_take (l : List D) (k : Int) (h : 0 ≤ k ∧ k ≤ l.length) : slcD (.tup l) none (some k) = some (.tup (l.take k.toNat)) := by
  obtain ⟨k, rfl⟩ : ∃ j : Nat, k = j := ⟨k.toNat, by omega⟩
  exact slc_to l k (by omega)
/-- numbers of a box that are not too great -/
structure Bd (x : Bx) : Prop where
  a : sI x.a = true
  b : sI x.b = true
  s : sI x.s = true
  s0 : sI x.s0 = true
  s1 : sI x.s1 = true
  c0 : sI x.c0 = true
  c1 : sI x.c1 = true
  r0 : sI x.r0 = true
  r1 : sI x.r1 = true
theorem Bd.nic {x : Bx} (h : Bd x) : Nic 2 14 (bxD x) := ⟨by simp [bxD], by simp [bxD, h.a, h.b, h.s, h.s0, h.s1, h.c0, h.c1, h.r0, h.r1], by simp [bxD]⟩
/-- an entry of a laying -/
abbrev En (d : D) : Prop := Nic 3 24 d
theorem nic_of {n k : Nat} {d : D} (f : D.fit n d = true) (m : sml d = true) (z : siz d ≤ k) : Nic n k d := ⟨f, m, z⟩
/-- a drawn box -/
structure Ok (w h : List Int) (st : List T3) (x : Bx) : Prop where
  f : Fm w.length h.length x
  n : Wn w h st x
namespace K20
open PySem (Str)
section
variable {w h : List Int} {st : List T3} {x : Bx}
theorem nums (rw_ : Rw w) (rh : Rw h) (sk : Sk st) (o : Ok w h st x) : (x.a < 3 ∧ x.b < 3 ∧ x.s < 4) ∧ x.s0 + x.s1 < 1000000000000000000000000000000 ∧ (x.c0 + x.c1) * wA w x.a < 10000000000000 ∧ (x.r0 + x.r1) * wA h x.b < 10000000000000 ∧ x.c0 + x.c1 < 10000000000000 ∧ x.r0 + x.r1 < 10000000000000 := by
  have f := o.f
  obtain ⟨a1, a2, a3, a4⟩ := o.n
  obtain ⟨p1, p2, p3⟩ := sk.pos _ (tA_mem ⟨f.s, a1⟩)
  obtain ⟨q1, q2⟩ := rw_.pos _ (wA_mem f.a)
  obtain ⟨r1, r2⟩ := rh.pos _ (wA_mem f.b)
  have hp := f.p; have hq := f.q; have hr := f.r; have ha := f.a; have hb := f.b
  have m1 : (x.c0 + x.c1) * 1 ≤ (x.c0 + x.c1) * wA w x.a := Int.mul_le_mul_of_nonneg_left q1 (by omega)
  have m2 : (x.r0 + x.r1) * 1 ≤ (x.r0 + x.r1) * wA h x.b := Int.mul_le_mul_of_nonneg_left r1 (by omega)
  have := rw_.len; have := rh.len; have := sk.len
  omega
theorem okbd (rw_ : Rw w) (rh : Rw h) (sk : Sk st) (o : Ok w h st x) : Bd x := by
  have f := o.f
  have n := nums rw_ rh sk o
  have hp := f.p; have hq := f.q; have hr := f.r; have ha := f.a; have hb := f.b; have hs := f.s
  exact ⟨sI_of (by omega), sI_of (by omega), sI_of (by omega), sI_of (by omega), sI_of (by omega), sI_of (by omega), sI_of (by omega), sI_of (by omega), sI_of (by omega)⟩
theorem box_ok {s : SL} (g : Gp s) (ns : List Int) (rw_ : Rw w) (rh : Rw h) (sk : Sk st) : ∃ d s', f__law_box [scr ns, .st 0, lsD w h, stD st] s = .ok d s' ∧ (d = .non ∨ ∃ x, d = bxD x ∧ Ok w h st x) ∧ Gp s' := by
  have ce : cmpD .eq (stD st) (.tup []) = some (st.map tD).isEmpty := cmp_nil_t fun d hd => by
    obtain ⟨t, _, rfl⟩ := List.mem_map.mp hd
    exact fit_tD 38 t
  by_cases z : st = []
  · subst z
    refine ⟨.non, s, ?_, .inl rfl, g⟩
    simp [f__law_box, ir__law_box, ce]
  · have z' : (st.map tD).isEmpty = false := by simpa using z
    rw [z'] at ce
    have lw := rw_.len
    have lh := rh.len
    have ls := sk.len
    have ls0 : 0 < st.length := List.length_pos_iff.mpr z
    obtain ⟨i, s1, e1, h1, g1⟩ := pick_few g ns w.length (by omega)
    obtain ⟨j, s2, e2, h2, g2⟩ := pick_few g1 ns h.length (by omega)
    obtain ⟨q, s3, e3, h3, g3⟩ := pick_few g2 ns st.length (by omega)
    have ws' : subS s3 (stD st) (.int q) = some (tD (tA st q)) := sub_st s3 h3
    obtain ⟨t1, t2, t3⟩ := sk.pos _ (tA_mem h3)
    obtain ⟨⟨p1, p2⟩, p3⟩ := rw_.at s3 h1
    obtain ⟨⟨q1, q2⟩, q3⟩ := rh.at s3 h2
    have d1 : divOk (wA w i) = true := divOk_of (by omega) (by omega)
    have d2 : divOk (wA h j) = true := divOk_of (by omega) (by omega)
    have n1 : 0 ≤ (tA st q).1 / wA w i := Int.ediv_nonneg (by omega) (by omega)
    have n2 : 0 ≤ (tA st q).2.1 / wA h j := Int.ediv_nonneg (by omega) (by omega)
    by_cases c1 : (tA st q).1 / wA w i = 0
    · refine ⟨.non, s3, ?_, .inl rfl, g3⟩
      simp [f__law_box, ir__law_box, ce, e1, e2, e3, ws', p3, q3, fdivD_i, d1, d2, c1]
    · by_cases c2 : (tA st q).2.1 / wA h j = 0
      · refine ⟨.non, s3, ?_, .inl rfl, g3⟩
        simp [f__law_box, ir__law_box, ce, e1, e2, e3, ws', p3, q3, fdivD_i, d1, d2, c1, c2]
      · obtain ⟨a0, a1, s4, e4, h4, g4⟩ := span_ok g3 ns (tA st q).2.2 (by omega)
        obtain ⟨b0, b1, s5, e5, h5, g5⟩ := span_ok g4 ns ((tA st q).1 / wA w i) (by omega)
        obtain ⟨c0, c1', s6, e6, h6, g6⟩ := span_ok g5 ns ((tA st q).2.1 / wA h j) (by omega)
        refine ⟨bxD ⟨i, j, q, a0, a1, b0, b1, c0, c1'⟩, s6, ?_, .inr ⟨_, rfl, ⟨h1, h2, h3.1, ⟨h4.1, h4.2.1⟩, ⟨h5.1, h5.2.1⟩, h6.1, h6.2.1⟩, h3.2, h4.2.2, (Int.le_ediv_iff_mul_le (c := wA w i) (by omega)).mp h5.2.2, (Int.le_ediv_iff_mul_le (c := wA h j) (by omega)).mp h6.2.2⟩, g6⟩
        simp [f__law_box, ir__law_box, ce, e1, e2, e3, ws', p3, q3, fdivD_i, d1, d2, c1, c2, e4, e5, e6, bxD]
theorem laying_ok {s : SL} (g : Gp s) (ns : List Int) (rw_ : Rw w) (rh : Rw h) (sk : Sk st) (m : Int) (hm : 0 ≤ m ∧ m < 1000) : ∃ (bs : List Bx) (s' : SL), f__law_laying [scr ns, .st 0, lsD w h, stD st, .int m] s = .ok (.tup (bs.map bxD)) s' ∧ (bs.length ≤ m ∧ ∀ x ∈ bs, Ok w h st x) ∧ Gp s' := by
  have er := rngD_i (n := m) ⟨by omega, by omega⟩
  obtain ⟨ρ', s4, f, g4, bs, x6, x7, x8, x9, h1, h2, rfl⟩ := forS_inv (f := foF g34 (Tg.name 6) b__law_laying_1) (enc := fun k : Nat => D.int k) (fun pre ρ (s' : SL) => Gp s' ∧ ∃ (bs : List Bx) (x6 x7 x8 x9 : Slot), bs.length ≤ pre.length ∧ (∀ x ∈ bs, Ok w h st x) ∧ ρ = [some (false, scr ns), some (false, .st 0), some (false, lsD w h), some (false, stD st), some (false, .int m), some (true, .lst (bs.map bxD)), x6, x7, x8, x9]) (List.range m.toNat) [] [some (false, scr ns), some (false, .st 0), some (false, lsD w h), some (false, stD st), some (false, .int m), some (true, .lst []), none, none, none, none] s
    ⟨g, [], none, none, none, none, by simp, by simp, rfl⟩ (by
      rintro p x q ρ s5 ee ⟨g, bs, x6, x7, x8, x9, h1, h2, rfl⟩
      obtain ⟨ex, hx⟩ := rg0 ee
      obtain ⟨d, s6, e6, hd, g6⟩ := box_ok g ns rw_ rh sk
      rcases hd with rfl | ⟨b, rfl, ob⟩
      · refine ⟨_, s6, ?_, g6, bs, some (false, .int x), some (false, .non), x8, x9, by simp; omega, h2, rfl⟩
        simp [foF, bindTg, b__law_laying_1, e6]
      · have nb : isNon (bxD b) = false := rfl
        have uw : unw (bxD b) = bxD b := rfl
        have t := turns_fm (f := lcF g34 e__law_laying_1 (Tg.name 9) [8, 9] i__law_laying_1 [some (false, scr ns), some (false, .st 0), some (false, lsD w h), some (false, stD st), some (false, .int m), some (true, .lst (bs.map bxD)), some (false, .int x), some (false, bxD b), x8, x9]) (enc := bxD) (h := fun y => if Mt w h y b then some (bxD y) else none) (s := s6) bs [] (fun y hy => by
          have mt := law_meet_ok s6 rw_ rh (h2 y hy).f ob.f
          by_cases c : Mt w h y b
          · rw [decide_eq_true c] at mt
            simp [lcF, e__law_laying_1, i__law_laying_1, bindTg, wipeE, mt, c]
          · rw [decide_eq_false c] at mt
            simp [lcF, e__law_laying_1, i__law_laying_1, bindTg, wipeE, mt, c]) (by unfold L; simp; omega)
        rw [List.nil_append] at t
        have cn : cmpD .eq (.lst (bs.filterMap fun y => if Mt w h y b then some (bxD y) else none)) (.lst []) = some (bs.filterMap fun y => if Mt w h y b then some (bxD y) else none).isEmpty := cmp_nil_l fun d hd => by
          obtain ⟨y, _, e⟩ := List.mem_filterMap.mp hd
          split at e
          · cases e; simp [bxD]
          · cases e
        generalize (bs.filterMap fun y => if Mt w h y b then some (bxD y) else none) = F at *
        have hL : bs.length < L := by unfold L; omega
        cases he : F.isEmpty with
        | true =>
          rw [he] at cn
          refine ⟨_, s6, ?_, g6, bs ++ [b], some (false, .int x), some (false, bxD b), x8, x9, by simp; omega, ?_, rfl⟩
          · simp [foF, bindTg, b__law_laying_1, e6, nb, uw, t, cn, hL]
          · intro y hy
            rcases List.mem_append.mp hy with hy | hy
            · exact h2 y hy
            · rw [List.mem_singleton.mp hy]; exact ob
        | false =>
          rw [he] at cn
          refine ⟨_, s6, ?_, g6, bs, some (false, .int x), some (false, bxD b), x8, x9, by simp; omega, h2, rfl⟩
          simp [foF, bindTg, b__law_laying_1, e6, nb, uw, t, cn])
  refine ⟨bs, s4, ?_, ⟨?_, h2⟩, g4⟩
  · simp [f__law_laying, ir__law_laying, er, f]
  · rw [List.nil_append, List.length_range] at h1; omega
end
end K20
end Ev
end
section
set_option linter.all false
set_option maxHeartbeats 8000000
namespace Ev
open PySem (Str)
/-- a box's numbers: none below 0, none great -/
structure Sz (x : Bx) : Prop where
  a : 0 ≤ x.a ∧ x.a < 10000000000000000000000000000000
  b : 0 ≤ x.b ∧ x.b < 10000000000000000000000000000000
  s : 0 ≤ x.s ∧ x.s < 10000000000000000000000000000000
  s0 : 0 ≤ x.s0 ∧ x.s0 < 10000000000000000000000000000000
  s1 : 0 ≤ x.s1 ∧ x.s1 < 10000000000000000000000000000000
  c0 : 0 ≤ x.c0 ∧ x.c0 < 10000000000000000000000000000000
  c1 : 0 ≤ x.c1 ∧ x.c1 < 10000000000000000000000000000000
  r0 : 0 ≤ x.r0 ∧ x.r0 < 10000000000000000000000000000000
  r1 : 0 ≤ x.r1 ∧ x.r1 < 10000000000000000000000000000000
theorem szMk {a b s s0 s1 c0 c1 r0 r1 : Int} (h_a : 0 ≤ a ∧ a < 10000000000000000000000000000000) (h_b : 0 ≤ b ∧ b < 10000000000000000000000000000000) (h_s : 0 ≤ s ∧ s < 10000000000000000000000000000000) (h_s0 : 0 ≤ s0 ∧ s0 < 10000000000000000000000000000000) (h_s1 : 0 ≤ s1 ∧ s1 < 10000000000000000000000000000000) (h_c0 : 0 ≤ c0 ∧ c0 < 10000000000000000000000000000000) (h_c1 : 0 ≤ c1 ∧ c1 < 10000000000000000000000000000000) (h_r0 : 0 ≤ r0 ∧ r0 < 10000000000000000000000000000000) (h_r1 : 0 ≤ r1 ∧ r1 < 10000000000000000000000000000000) : Sz ⟨a, b, s, s0, s1, c0, c1, r0, r1⟩ := ⟨h_a, h_b, h_s, h_s0, h_s1, h_c0, h_c1, h_r0, h_r1⟩
theorem Sz.bd {x : Bx} (z : Sz x) : Bd x := by
  obtain ⟨h1, h2, h3, h4, h5, h6, h7, h8, h9⟩ := z
  exact ⟨sI_of (by omega), sI_of (by omega), sI_of (by omega), sI_of (by omega), sI_of (by omega), sI_of (by omega), sI_of (by omega), sI_of (by omega), sI_of (by omega)⟩
@[simp] theorem addD_tt (a b : List D) : addD (.tup a) (.tup b) = if a.length + b.length ≤ L then some (.tup (a ++ b)) else none := (rfl)
namespace K20
open PySem (Str)
section
variable {w h : List Int} {st : List T3} {x : Bx}
theorem szOf (rw_ : Rw w) (rh : Rw h) (sk : Sk st) (o : Ok w h st x) : Sz x := by
  have f := o.f
  have n := nums rw_ rh sk o
  have hp := f.p; have hq := f.q; have hr := f.r; have ha := f.a; have hb := f.b; have hs := f.s
  exact ⟨by omega, by omega, by omega, by omega, by omega, by omega, by omega, by omega, by omega⟩
theorem over_ok {s : SL} (g : Gp s) (ns : List Int) (rw_ : Rw w) (rh : Rw h) (sk : Sk st) (o : Ok w h st x) : ∃ d s', f__law_over [scr ns, .st 0, lsD w h, stD st, bxD x] s = .ok d s' ∧ (En d ∧ d.isObj = false ∧ unw d = d) ∧ Gp s' := by
  have f := o.f
  have n := nums rw_ rh sk o
  have hp := f.p; have hq := f.q; have hr := f.r; have ha := f.a; have hb := f.b; have hs := f.s
  have lw := rw_.len
  have lh := rh.len
  obtain ⟨i, s1, e1, h1, g1⟩ := pick_few g ns w.length (by omega)
  obtain ⟨j, s2, e2, h2, g2⟩ := pick_few g1 ns h.length (by omega)
  obtain ⟨u, s3, e3, h3, g3⟩ := big_ok g2 ns (x.c1 - 1) (by omega)
  obtain ⟨v, s4, e4, h4, g4⟩ := big_ok g3 ns (x.r1 - 1) (by omega)
  obtain ⟨t, s5, e5, h5, g5⟩ := big_ok g4 ns (x.s1 - 1) (by omega)
  obtain ⟨⟨p1, p2⟩, p3⟩ := rw_.at s3 f.a
  obtain ⟨⟨q1, q2⟩, q3⟩ := rh.at s4 f.b
  obtain ⟨⟨p4, p5⟩, p6⟩ := rw_.at s3 h1
  obtain ⟨⟨q4, q5⟩, q6⟩ := rh.at s4 h2
  have b1 : ∀ z, bitsOk z (wA w x.a) = true := fun z => bits_of (by omega)
  have b2 : ∀ z, bitsOk z (wA h x.b) = true := fun z => bits_of (by omega)
  have d1 : divOk (wA w i) = true := divOk_of (by omega) (by omega)
  have d2 : divOk (wA h j) = true := divOk_of (by omega) (by omega)
  have m1 : (x.c0 + u) * wA w x.a ≤ (x.c0 + x.c1) * wA w x.a := Int.mul_le_mul_of_nonneg_right (by omega) (by omega)
  have m2 : (x.r0 + v) * wA h x.b ≤ (x.r0 + x.r1) * wA h x.b := Int.mul_le_mul_of_nonneg_right (by omega) (by omega)
  have z1 : 0 ≤ (x.c0 + u) * wA w x.a := Int.mul_nonneg (by omega) (by omega)
  have z2 : 0 ≤ (x.r0 + v) * wA h x.b := Int.mul_nonneg (by omega) (by omega)
  have k1 : (x.c0 + u) * wA w x.a / wA w i ≤ (x.c0 + u) * wA w x.a := Int.ediv_le_self _ z1
  have k2 : (x.r0 + v) * wA h x.b / wA h j ≤ (x.r0 + v) * wA h x.b := Int.ediv_le_self _ z2
  have y1 : 0 ≤ (x.c0 + u) * wA w x.a / wA w i := Int.ediv_nonneg z1 (by omega)
  have y2 : 0 ≤ (x.r0 + v) * wA h x.b / wA h j := Int.ediv_nonneg z2 (by omega)
  have sz : Sz ⟨i, j, x.s, x.s0 + t, 1, (x.c0 + u) * wA w x.a / wA w i, 1, (x.r0 + v) * wA h x.b / wA h j, 1⟩ := szMk (by omega) (by omega) (by omega) (by omega) (by omega) (by omega) (by omega) (by omega) (by omega)
  refine ⟨bxD ⟨i, j, x.s, x.s0 + t, 1, (x.c0 + u) * wA w x.a / wA w i, 1, (x.r0 + v) * wA h x.b / wA h j, 1⟩, s5, ?_, ⟨sz.bd.nic.mono (by decide) (by decide), rfl, rfl⟩, g5⟩
  simp [f__law_over, ir__law_over, e1, e2, e3, p3, mulD_i, b1, p6, fdivD_i, d1, e4, q3, b2, q6, d2, e5]
  rfl
theorem beside_ok {s : SL} (g : Gp s) (ns : List Int) (z : Sz x) : ∃ d s', f__law_beside [scr ns, .st 0, bxD x] s = .ok d s' ∧ (En d ∧ d.isObj = false ∧ unw d = d) ∧ Gp s' := by
  obtain ⟨u, s1, e1, h1, g1⟩ := pick_few g ns 3 (by decide)
  obtain ⟨v, s2, e2, h2, g2⟩ := pick_few g1 ns 2 (by decide)
  have b := z.bd
  have key : ∀ (c : Int), sI c = true → (En (bxD { x with s0 := c, s1 := 1 }) ∧ En (bxD { x with c0 := c, c1 := 1 }) ∧ En (bxD { x with r0 := c, r1 := 1 })) := fun c hc => by
    have one : sI 1 = true := by decide
    exact ⟨(Bd.nic (x := { x with s0 := c, s1 := 1 }) ⟨b.a, b.b, b.s, hc, one, b.c0, b.c1, b.r0, b.r1⟩).mono (by decide) (by decide), (Bd.nic (x := { x with c0 := c, c1 := 1 }) ⟨b.a, b.b, b.s, b.s0, b.s1, hc, one, b.r0, b.r1⟩).mono (by decide) (by decide), (Bd.nic (x := { x with r0 := c, r1 := 1 }) ⟨b.a, b.b, b.s, b.s0, b.s1, b.c0, b.c1, hc, one⟩).mono (by decide) (by decide)⟩
  obtain ⟨i1, i2, i3, i4, i5, i6, i7, i8, i9⟩ := z
  have sl0 : slcD (bxD x) none (some 3) = some (.tup [.int x.a, .int x.b, .int x.s]) := rfl
  have sl1 : slcD (bxD x) none (some 4) = some (.tup [.int x.a, .int x.b, .int x.s, .tup [.int x.s0, .int x.s1]]) := rfl
  have sl2 : slcD (bxD x) none (some 5) = some (.tup [.int x.a, .int x.b, .int x.s, .tup [.int x.s0, .int x.s1], .tup [.int x.c0, .int x.c1]]) := rfl
  have sr0 : slcD (bxD x) (some 4) none = some (.tup [.tup [.int x.c0, .int x.c1], .tup [.int x.r0, .int x.r1]]) := rfl
  have sr1 : slcD (bxD x) (some 5) none = some (.tup [.tup [.int x.r0, .int x.r1]]) := rfl
  have sr2 : slcD (bxD x) (some 6) none = some (.tup []) := rfl
  have mxl : ∀ c : Int, 0 ≤ c ∧ c < 10000000000000000000000000000000 → sI (mx 0 (c - 1)) = true := fun c hc => sI_of (by unfold mx; split <;> omega)
  have u3 : u = 0 ∨ u = 1 ∨ u = 2 := by omega
  by_cases c : v = 1
  · subst c
    rcases u3 with rfl | rfl | rfl
    · refine ⟨_, s2, ?_, ⟨(key (mx 0 (x.s0 - 1)) (mxl _ i4)).1, rfl, rfl⟩, g2⟩
      simp [f__law_beside, ir__law_beside, e1, e2, bltS, bltD, sl0, sr0]
      rfl
    · refine ⟨_, s2, ?_, ⟨(key (mx 0 (x.c0 - 1)) (mxl _ i6)).2.1, rfl, rfl⟩, g2⟩
      simp [f__law_beside, ir__law_beside, e1, e2, bltS, bltD, sl1, sr1]
      rfl
    · refine ⟨_, s2, ?_, ⟨(key (mx 0 (x.r0 - 1)) (mxl _ i8)).2.2, rfl, rfl⟩, g2⟩
      simp [f__law_beside, ir__law_beside, e1, e2, bltS, bltD, sl2, sr2]
      rfl
  · rcases u3 with rfl | rfl | rfl
    · refine ⟨_, s2, ?_, ⟨(key (x.s0 + x.s1) (sI_of (by omega))).1, rfl, rfl⟩, g2⟩
      simp [f__law_beside, ir__law_beside, e1, e2, c, sl0, sr0]
      rfl
    · refine ⟨_, s2, ?_, ⟨(key (x.c0 + x.c1) (sI_of (by omega))).2.1, rfl, rfl⟩, g2⟩
      simp [f__law_beside, ir__law_beside, e1, e2, c, sl1, sr1]
      rfl
    · refine ⟨_, s2, ?_, ⟨(key (x.r0 + x.r1) (sI_of (by omega))).2.2, rfl, rfl⟩, g2⟩
      simp [f__law_beside, ir__law_beside, e1, e2, c, sl2, sr2]
      rfl
end
end K20
end Ev
end
section
set_option linter.all false
set_option maxHeartbeats 8000000
namespace Ev
open PySem (Str)
theorem pow59' : powD (.int 10) (.int 59) = some (.int 100000000000000000000000000000000000000000000000000000000000) := by
  have h : powOk 10 59 = true := by decide
  show (if powOk 10 59 = true then some (D.int (10 ^ 59)) else none) = _
  rw [if_pos h]; rfl
/-- a scalar that is short -/
abbrev Sc (d : D) : Prop := Nic 0 1 d
namespace K20
open PySem (Str)
def iN : Nat → ISs → ISs
  | 0, r => r
  | n + 1, .cons _ r => iN n r
  | _, r => r
def iA : Nat → ISs → IS
  | 0, .cons a _ => a
  | n + 1, .cons _ r => iA n r
  | _, _ => .pass
def Tail2 : ISs := iN 10 ir__law_strange
section
variable {w h : List Int} {st : List T3} {x : Bx}
theorem nic_cat {n k1 k2 : Nat} {a b : List D} (h1 : Nic (n + 1) k1 (.tup a)) (h2 : Nic (n + 1) k2 (.tup b)) : Nic (n + 1) (k1 + k2) (.tup (a ++ b)) := by
  have f1 := h1.f; have f2 := h2.f; have m1 := h1.m; have m2 := h2.m; have z1 := h1.z; have z2 := h2.z
  simp at f1 f2 m1 m2 z1 z2
  exact ⟨by simp [fits_app, f1, f2], by simp [smls_app, m1, m2], by simp [sizs_app]; omega⟩
theorem tail2_ok {s : SL} (g : Gp s) (ns : List Int) (z : Sz x) (x2 x3 x5 x6 x7 x8 x9 x10 x11 x12 x13 x14 x20 x21 : Slot) {F G S B : List D} (hF : F.length = 8 ∧ ∀ d ∈ F, En d ∧ (d.isObj = true ∨ unw d = d)) (hG : G.length = 17 ∧ ∀ d ∈ G, ∃ a b c, d = .tup [a, b, c] ∧ Sc a ∧ Sc b ∧ Sc c) (hS : S.length = 15 ∧ ∀ d ∈ S, Nic 2 6 d) (hB : B.length = 6 ∧ ∀ d ∈ B, Nic 2 6 d) :
    ∃ d s', bd (evSs g37 Tail2 [some (false, scr ns), some (false, .st 0), x2, x3, some (false, bxD x), x5, x6, x7, x8, x9, x10, x11, x12, x13, x14, some (false, .tup F), some (false, .tup G), some (false, .tup S), some (false, .tup B), none, x20, x21] s) (fun w s1 => fin w s1) .mk = .ok d s' ∧ (∃ e, En e ∧ unw d = e ∧ (d = e ∨ d = .ins 0 [e])) ∧ Gp s' := by
  have b := z.bd
  obtain ⟨u, s1, e1, h1, g1⟩ := pick_few g ns 4 (by decide)
  have nb := b.nic
  have sl0 : slcD (bxD x) none (some 3) = some (.tup [.int x.a, .int x.b, .int x.s]) := rfl
  have sl1 : slcD (bxD x) none (some 4) = some (.tup [.int x.a, .int x.b, .int x.s, .tup [.int x.s0, .int x.s1]]) := rfl
  have sl2 : slcD (bxD x) none (some 5) = some (.tup [.int x.a, .int x.b, .int x.s, .tup [.int x.s0, .int x.s1], .tup [.int x.c0, .int x.c1]]) := rfl
  have sr0 : slcD (bxD x) (some 4) none = some (.tup [.tup [.int x.c0, .int x.c1], .tup [.int x.r0, .int x.r1]]) := rfl
  have sr1 : slcD (bxD x) (some 5) none = some (.tup [.tup [.int x.r0, .int x.r1]]) := rfl
  have sr2 : slcD (bxD x) (some 6) none = some (.tup []) := rfl
  have sr3 : slcD (bxD x) (some 3) none = some (.tup [.tup [.int x.s0, .int x.s1], .tup [.int x.c0, .int x.c1], .tup [.int x.r0, .int x.r1]]) := rfl
  -- one item put for another one of the last three
  have put : ∀ d, Nic 2 6 d → En (.tup [.int x.a, .int x.b, .int x.s, d, .tup [.int x.c0, .int x.c1], .tup [.int x.r0, .int x.r1]]) ∧ En (.tup [.int x.a, .int x.b, .int x.s, .tup [.int x.s0, .int x.s1], d, .tup [.int x.r0, .int x.r1]]) ∧ En (.tup [.int x.a, .int x.b, .int x.s, .tup [.int x.s0, .int x.s1], .tup [.int x.c0, .int x.c1], d]) := fun d hd => by
    have hz := hd.z
    refine ⟨nic_of ?_ ?_ ?_, nic_of ?_ ?_ ?_, nic_of ?_ ?_ ?_⟩
    · simp [hd.f]
    · simp [b.a, b.b, b.s, b.c0, b.c1, b.r0, b.r1, hd.m]
    · simp; omega
    · simp [hd.f]
    · simp [b.a, b.b, b.s, b.s0, b.s1, b.r0, b.r1, hd.m]
    · simp; omega
    · simp [hd.f]
    · simp [b.a, b.b, b.s, b.c0, b.c1, b.s0, b.s1, hd.m]
    · simp; omega
  have u4 : u = 0 ∨ u = 1 ∨ u = 2 ∨ u = 3 := by omega
  rcases u4 with rfl | rfl | rfl | rfl
  · obtain ⟨v, s2, e2, h2, g2⟩ := pick_few g1 ns 8 (by decide)
    obtain ⟨d, md, qd⟩ := atT s2 F (v := v) (by omega)
    obtain ⟨nd, hd⟩ := hF.2 d md
    by_cases ho : d.isObj = true
    · refine ⟨.ins 0 [d], s2, ?_, ⟨d, nd, rfl, .inr rfl⟩, g2⟩
      have qd' : atD F v = some d := qd
      simp [Tail2, iN, ir__law_strange, e1, e2, qd, qd', ho]
    · have ho' : d.isObj = false := by simpa using ho
      have uw : unw d = d := hd.resolve_left ho
      refine ⟨d, s2, ?_, ⟨d, nd, uw, .inl rfl⟩, g2⟩
      simp [Tail2, iN, ir__law_strange, e1, e2, qd, ho']
  · obtain ⟨v, s2, e2, h2, g2⟩ := pick_few g1 ns 17 (by decide)
    obtain ⟨d, md, qd⟩ := atT s2 G (v := v) (by omega)
    obtain ⟨a, b', c, rfl, na, nb', nc⟩ := hG.2 d md
    refine ⟨_, s2, ?_, ⟨.tup [a, b', c, .tup [.int x.s0, .int x.s1], .tup [.int x.c0, .int x.c1], .tup [.int x.r0, .int x.r1]], nic_of ?_ ?_ ?_, rfl, .inl rfl⟩, g2⟩
    · simp [Tail2, iN, ir__law_strange, e1, e2, qd, sr3]
    · simp [fit_le (Nat.zero_le 2) na.f, fit_le (Nat.zero_le 2) nb'.f, fit_le (Nat.zero_le 2) nc.f]
    · simp [na.m, nb'.m, nc.m, b.s0, b.s1, b.c0, b.c1, b.r0, b.r1]
    · have := na.z; have := nb'.z; have := nc.z
      simp; omega
  · obtain ⟨v, s2, e2, h2, g2⟩ := pick_few g1 ns 3 (by decide)
    obtain ⟨q, s3, e3, h3, g3⟩ := pick_few g2 ns 15 (by decide)
    obtain ⟨d, md, qd⟩ := atT s3 S (v := q) (by omega)
    obtain ⟨p1, p2, p3⟩ := put d (hS.2 d md)
    have v3 : v = 0 ∨ v = 1 ∨ v = 2 := by omega
    rcases v3 with rfl | rfl | rfl
    · refine ⟨_, s3, ?_, ⟨_, p1, rfl, .inl rfl⟩, g3⟩
      simp [Tail2, iN, ir__law_strange, e1, e2, e3, qd, sl0, sr0]
    · refine ⟨_, s3, ?_, ⟨_, p2, rfl, .inl rfl⟩, g3⟩
      simp [Tail2, iN, ir__law_strange, e1, e2, e3, qd, sl1, sr1]
    · refine ⟨_, s3, ?_, ⟨_, p3, rfl, .inl rfl⟩, g3⟩
      simp [Tail2, iN, ir__law_strange, e1, e2, e3, qd, sl2, sr2]
  · obtain ⟨v, s2, e2, h2, g2⟩ := pick_few g1 ns 6 (by decide)
    obtain ⟨d, md, qd⟩ := atT s2 B (v := v) (by omega)
    obtain ⟨p1, p2, p3⟩ := put d (hB.2 d md)
    have dv : divOk 2 = true := by decide
    have v3 : v / 2 = 0 ∨ v / 2 = 1 ∨ v / 2 = 2 := by omega
    rcases v3 with hv | hv | hv
    · refine ⟨_, s2, ?_, ⟨_, p1, rfl, .inl rfl⟩, g2⟩
      simp [Tail2, iN, ir__law_strange, e1, e2, qd, fdivD_i, dv, hv, sl0, sr0]
    · refine ⟨_, s2, ?_, ⟨_, p2, rfl, .inl rfl⟩, g2⟩
      simp [Tail2, iN, ir__law_strange, e1, e2, qd, fdivD_i, dv, hv, sl1, sr1]
    · refine ⟨_, s2, ?_, ⟨_, p3, rfl, .inl rfl⟩, g2⟩
      simp [Tail2, iN, ir__law_strange, e1, e2, qd, fdivD_i, dv, hv, sl2, sr2]
end
end K20
end Ev
end
section
set_option linter.all false
set_option maxHeartbeats 8000000
namespace Ev
open PySem (Str)
namespace K20
open PySem (Str)
def Mid : ISs := iN 4 ir__law_strange
section
variable {w h : List Int} {st : List T3} {x : Bx}
theorem mid_eq : Mid = .cons (iA 4 ir__law_strange) (.cons (iA 5 ir__law_strange) (.cons (iA 6 ir__law_strange) (.cons (iA 7 ir__law_strange) (.cons (iA 8 ir__law_strange) (.cons (iA 9 ir__law_strange) Tail2))))) := rfl
theorem mid_ok {s : SL} (g : Gp s) (ns : List Int) (rw_ : Rw w) (rh : Rw h) (hst : st.length < 100) (f : Fm w.length h.length x) (z : Sz x) (t : T3) (ht : (1 ≤ t.1 ∧ t.1 < 10000000000000) ∧ (1 ≤ t.2.1 ∧ t.2.1 < 10000000000000) ∧ (1 ≤ t.2.2 ∧ t.2.2 < 1000000000000000000000000000000)) :
    ∃ d s', bd (evSs g37 Mid [some (false, scr ns), some (false, .st 0), some (false, lsD w h), some (false, stD st), some (false, bxD x), some (false, .int x.a), some (false, .int x.b), some (false, .int x.s), some (false, .tup [.int x.s0, .int x.s1]), some (false, .tup [.int x.c0, .int x.c1]), some (false, .tup [.int x.r0, .int x.r1]), some (false, .int 100000000000000000000000000000000000000000000000000000000007), some (false, tD t), none, none, none, none, none, none, none, none, none] s) (fun w s1 => fin w s1) .mk = .ok d s' ∧ (∃ e, En e ∧ unw d = e ∧ (d = e ∨ d = .ins 0 [e])) ∧ Gp s' := by
  have b := z.bd
  obtain ⟨⟨p1, p2⟩, p3⟩ := rw_.at s f.a
  obtain ⟨⟨q1, q2⟩, q3⟩ := rh.at s f.b
  have lw := rw_.len
  have lh := rh.len
  have d1 : divOk (wA w x.a) = true := divOk_of (by omega) (by omega)
  have d2 : divOk (wA h x.b) = true := divOk_of (by omega) (by omega)
  have k1 : t.1 / wA w x.a ≤ t.1 := Int.ediv_le_self _ (by omega)
  have k2 : t.2.1 / wA h x.b ≤ t.2.1 := Int.ediv_le_self _ (by omega)
  have y1 : 0 ≤ t.1 / wA w x.a := Int.ediv_nonneg (by omega) (by omega)
  have y2 : 0 ≤ t.2.1 / wA h x.b := Int.ediv_nonneg (by omega) (by omega)
  have sl5 : slcD (bxD x) none (some 5) = some (.tup [.int x.a, .int x.b, .int x.s, .tup [.int x.s0, .int x.s1], .tup [.int x.c0, .int x.c1]]) := rfl
  have sr2 : slcD (bxD x) (some 2) none = some (.tup [.int x.s, .tup [.int x.s0, .int x.s1], .tup [.int x.c0, .int x.c1], .tup [.int x.r0, .int x.r1]]) := rfl
  have li : ∀ s : SL, bltS s .list [bxD x] = some (.lst [.int x.a, .int x.b, .int x.s, .tup [.int x.s0, .int x.s1], .tup [.int x.c0, .int x.c1], .tup [.int x.r0, .int x.r1]]) := fun _ => rfl
  have ad : addD (bxD x) (.tup [.int 0]) = some (.tup [.int x.a, .int x.b, .int x.s, .tup [.int x.s0, .int x.s1], .tup [.int x.c0, .int x.c1], .tup [.int x.r0, .int x.r1], .int 0]) := rfl
  have i0 : sI 0 = true := by decide
  have i1 : sI 1 = true := by decide
  have i2 : sI (-1) = true := by decide
  have i3 : sI 100000000000000000000000000000000000000000000000000000000007 = true := by decide
  have i4 : sI w.length = true := sI_of (by omega)
  have i5 : sI h.length = true := sI_of (by omega)
  have i6 : sI st.length = true := sI_of (by omega)
  have i7 : sI t.2.2 = true := sI_of (by omega)
  have i8 : sI (t.2.2 + 1) = true := sI_of (by omega)
  have i9 : sI (t.1 / wA w x.a) = true := sI_of (by omega)
  have i10 : sI (t.1 / wA w x.a + 1) = true := sI_of (by omega)
  have i11 : sI (t.2.1 / wA h x.b) = true := sI_of (by omega)
  have i12 : sI (t.2.1 / wA h x.b + 1) = true := sI_of (by omega)
  have f1 : ∀ n, D.fit n (.str ("0,0:0:0*1:0*1:0*1" : Str)) = true := fun n => fit_str n _ (by decide +kernel)
  have f2 : ∀ n, D.fit n (.str ("0" : Str)) = true := fun n => fit_str n _ (by decide +kernel)
  have f3 : ∀ n, D.fit n (.str ("0*1" : Str)) = true := fun n => fit_str n _ (by decide +kernel)
  have l1 : ("0,0:0:0*1:0*1:0*1" : Str).length ≤ 20 := by decide +kernel
  have l2 : ("0" : Str).length ≤ 20 := by decide +kernel
  have l3 : ("0*1" : Str).length ≤ 20 := by decide +kernel
  have e := tail2_ok (s := s) g ns z (some (false, lsD w h)) (some (false, stD st)) (some (false, .int x.a)) (some (false, .int x.b)) (some (false, .int x.s)) (some (false, .tup [.int x.s0, .int x.s1])) (some (false, .tup [.int x.c0, .int x.c1])) (some (false, .tup [.int x.r0, .int x.r1])) (some (false, .int 100000000000000000000000000000000000000000000000000000000007)) (some (false, tD t)) (some (false, .int (t.1 / wA w x.a))) (some (false, .int (t.2.1 / wA h x.b))) none none
    (F := [.lst [.int x.a, .int x.b, .int x.s, .tup [.int x.s0, .int x.s1], .tup [.int x.c0, .int x.c1], .tup [.int x.r0, .int x.r1]], .non, .tup [.int x.a, .int x.b, .int x.s, .tup [.int x.s0, .int x.s1], .tup [.int x.c0, .int x.c1]], .tup [.int x.a, .int x.b, .int x.s, .tup [.int x.s0, .int x.s1], .tup [.int x.c0, .int x.c1], .tup [.int x.r0, .int x.r1], .int 0],
      .tup [.int x.a, .int x.b, .int x.s, .tup [.int x.s0, .int x.s1], .tup [.tup [.int x.c0, .int x.c1], .tup [.int x.r0, .int x.r1]]], .str ("0,0:0:0*1:0*1:0*1" : Str), .tup [], .tup [.tup [.int x.a, .int x.b], .int x.s, .tup [.int x.s0, .int x.s1], .tup [.int x.c0, .int x.c1], .tup [.int x.r0, .int x.r1]]])
    (G := [.tup [.int w.length, .int x.b, .int x.s], .tup [.int (-1), .int x.b, .int x.s], .tup [.bl true, .int x.b, .int x.s], .tup [.bl false, .int x.b, .int x.s], .tup [.non, .int x.b, .int x.s], .tup [.int x.a, .int h.length, .int x.s], .tup [.int x.a, .int (-1), .int x.s], .tup [.int x.a, .bl false, .int x.s], .tup [.int x.a, .str ("0" : Str), .int x.s],
      .tup [.int x.a, .int x.b, .int (-1)], .tup [.int x.a, .int x.b, .bl true], .tup [.int x.a, .int x.b, .bl false], .tup [.int x.a, .int x.b, .int st.length], .tup [.int x.a, .int x.b, .int 100000000000000000000000000000000000000000000000000000000007], .tup [.int x.a, .int x.b, .non], .tup [.int 100000000000000000000000000000000000000000000000000000000007, .int x.b, .int x.s], .tup [.int x.a, .int 100000000000000000000000000000000000000000000000000000000007, .int x.s]])
    (S := [.tup [.int 0, .int 0], .lst [.int 0, .int 1], .tup [.int 0, .int 1, .int 1], .tup [.int 0], .tup [.int (-1), .int 1], .tup [.int 0, .non], .tup [.non, .int 1], .tup [.int 0, .bl true], .tup [.bl false, .int 1], .int 0, .tup [.int 100000000000000000000000000000000000000000000000000000000007, .int 1], .tup [.int 0, .int 100000000000000000000000000000000000000000000000000000000007], .tup [.int 0, .int (-1)], .str ("0*1" : Str), .tup []])
    (B := [.tup [.int t.2.2, .int 1], .tup [.int 0, .int (t.2.2 + 1)], .tup [.int (t.1 / wA w x.a), .int 1], .tup [.int 0, .int (t.1 / wA w x.a + 1)], .tup [.int (t.2.1 / wA h x.b), .int 1], .tup [.int 0, .int (t.2.1 / wA h x.b + 1)]])
    ⟨rfl, by
      intro d hd
      simp at hd
      rcases hd with rfl | rfl | rfl | rfl | rfl | rfl | rfl | rfl <;> refine ⟨nic_of ?_ ?_ ?_, ?_⟩ <;> simp [f1, l1, b.a, b.b, b.s, b.s0, b.s1, b.c0, b.c1, b.r0, b.r1, i0]⟩
    ⟨rfl, by
      intro d hd
      simp at hd
      rcases hd with rfl | rfl | rfl | rfl | rfl | rfl | rfl | rfl | rfl | rfl | rfl | rfl | rfl | rfl | rfl | rfl | rfl <;> refine ⟨_, _, _, rfl, nic_of ?_ ?_ ?_, nic_of ?_ ?_ ?_, nic_of ?_ ?_ ?_⟩ <;> simp [f2, l2, b.a, b.b, b.s, i2, i3, i4, i5, i6]⟩
    ⟨rfl, by
      intro d hd
      simp at hd
      rcases hd with rfl | rfl | rfl | rfl | rfl | rfl | rfl | rfl | rfl | rfl | rfl | rfl | rfl | rfl | rfl <;> refine nic_of ?_ ?_ ?_ <;> simp [f3, l3, i0, i1, i2, i3]⟩
    ⟨rfl, by
      intro d hd
      simp at hd
      rcases hd with rfl | rfl | rfl | rfl | rfl | rfl <;> refine nic_of ?_ ?_ ?_ <;> simp [i0, i1, i7, i8, i9, i10, i11, i12]⟩
  obtain ⟨d, s', e1, e2, e3⟩ := e
  refine ⟨d, s', Eq.trans ?_ e1, e2, e3⟩
  rw [mid_eq]
  simp [iA, ir__law_strange, p3, q3, fdivD_i, d1, d2, li, sl5, sr2, ad]
theorem strange_ok {s : SL} (g : Gp s) (ns : List Int) (rw_ : Rw w) (rh : Rw h) (sk : Sk st) (f : Fm w.length h.length x) (z : Sz x) :
    ∃ d s', f__law_strange [scr ns, .st 0, lsD w h, stD st, bxD x] s = .ok d s' ∧ (∃ e, En e ∧ unw d = e ∧ (d = e ∨ d = .ins 0 [e])) ∧ Gp s' := by
  have as6' : ∀ (g : List D → R SL Fl), asTup (bxD x) g = g [.int x.a, .int x.b, .int x.s, .tup [.int x.s0, .int x.s1], .tup [.int x.c0, .int x.c1], .tup [.int x.r0, .int x.r1]] := as6 x
  have ls := sk.len
  have hd : ir__law_strange = .cons (iA 0 ir__law_strange) (.cons (iA 1 ir__law_strange) (.cons (iA 2 ir__law_strange) (.cons (iA 3 ir__law_strange) Mid))) := rfl
  have run : f__law_strange [scr ns, .st 0, lsD w h, stD st, bxD x] s = bd (evSs g37 ir__law_strange ([scr ns, .st 0, lsD w h, stD st, bxD x].map (fun d => some (false, d)) ++ List.replicate 17 none) s) (fun w s1 => fin w s1) .mk := rfl
  by_cases c : x.s < st.length
  · have ws' : subS s (stD st) (.int x.s) = some (tD (tA st x.s)) := sub_st s ⟨f.s, c⟩
    obtain ⟨d, s', e1, e2, e3⟩ := mid_ok (s := s) g ns rw_ rh (st := st) (by omega) f z (tA st x.s) (sk.pos _ (tA_mem ⟨f.s, c⟩))
    refine ⟨d, s', Eq.trans ?_ e1, e2, e3⟩
    have o1 : (tD (tA st x.s)).isObj = false := rfl
    rw [run, hd]
    simp [iA, ir__law_strange, as6', setAll, pow59', c, ws']
  · obtain ⟨d, s', e1, e2, e3⟩ := mid_ok (s := s) g ns rw_ rh (st := st) (by omega) f z (1, 1, 1) (by decide)
    refine ⟨d, s', Eq.trans ?_ e1, e2, e3⟩
    have t1 : D.tup [.int 1, .int 1, .int 1] = tD (1, 1, 1) := rfl
    rw [run, hd]
    simp [iA, ir__law_strange, as6', setAll, pow59', c, t1]
end
end K20
end Ev
end
section
set_option linter.all false
set_option maxHeartbeats 8000000
namespace Ev
open PySem (Str)
/-- entries, few -/
structure Ens (m : Nat) (l : List D) : Prop where
  len : l.length ≤ m
  e : ∀ d ∈ l, En d
theorem Ens.nic {m : Nat} {l : List D} (h : Ens m l) (hm : m ≤ 40) : Nic 4 961 (.tup l) := by
  have z := sizs_le (c := 24) (l := l) fun x hx => (h.e x hx).z
  have := h.len
  exact nic_of (by rw [fit_t]; exact fits_of fun d hd => (h.e d hd).f) (by rw [sml_t]; exact smls_of fun d hd => (h.e d hd).m) (by rw [siz_t]; omega)
theorem unw_en {d : D} (h : En d) : unw d = d := by
  have f := h.f
  cases d with
  | ins _ _ => simp [D.fit] at f
  | _ => rfl
namespace K20
open PySem (Str)
section
variable {w h : List Int} {st : List T3} {bs : List Bx}
def dfB : Bx := ⟨0, 0, 0, 0, 1, 0, 1, 0, 1⟩
theorem dfB_D : (D.tup [.int 0, .int 0, .int 0, .tup [.int 0, .int 1], .tup [.int 0, .int 1], .tup [.int 0, .int 1]]) = bxD dfB := rfl
theorem dfB_sz : Sz dfB := szMk (by decide) (by decide) (by decide) (by decide) (by decide) (by decide) (by decide) (by decide) (by decide)
theorem dfB_fm (rw_ : Rw w) (rh : Rw h) : Fm w.length h.length dfB := by
  have := rw_.len; have := rh.len
  exact ⟨⟨by decide, by show (0 : Int) < _; omega⟩, ⟨by decide, by show (0 : Int) < _; omega⟩, by decide, by decide, by decide, by decide⟩
/-- the drawn entry is put in -/
theorem put_ok {s : SL} (g : Gp s) (ns : List Int) {m : Nat} {l : List D} (hl : Ens m l) (hm : m < 40) {e : D} (he : En e) (x2 x3 x4 x6 x7 x8 x10 : Slot) (o5 : Bool) :
    ∃ (l' : List D) (s' : SL) (x10' : Slot), evSs g38 (iN 4 b__law_bent_1) [some (false, scr ns), some (false, .st 0), x2, x3, x4, some (o5, .tup l), x6, x7, x8, some (false, e), x10] s = .ok (.nx [some (false, scr ns), some (false, .st 0), x2, x3, x4, some (false, .tup l'), x6, x7, x8, some (false, e), x10']) s' ∧ Ens (m + 1) l' ∧ Gp s' := by
  have ll := hl.len
  obtain ⟨q, s1, e1, h1, g1⟩ := pick_few g ns (l.length + 1) (by omega)
  obtain ⟨v, s2, e2, h2, g2⟩ := pick_few g1 ns 2 (by decide)
  have t1 := slc_take l q ⟨by omega, by omega⟩
  have t2 := slc_drop l (q + v) (by omega)
  have lt : ∀ s : SL, bltS s .len [.tup l] = some (.int l.length) := fun s => by simp [bltS, bltD, lenF]
  have L1 : min q.toNat l.length + 1 ≤ L := by unfold L; omega
  have L2 : min q.toNat l.length + 1 + (l.length - (q + v).toNat) ≤ L := by unfold L; omega
  refine ⟨(l.take q.toNat ++ [e]) ++ l.drop (q + v).toNat, s2, some (false, .int q), ?_, ⟨?_, ?_⟩, g2⟩
  · have ue : (D.tup [e]).isObj = false := rfl
    simp [iN, b__law_bent_1, lt, e1, t1, e2, t2, L1, L2]
  · simp; omega
  · intro d hd
    rcases List.mem_append.mp hd with hd | hd
    · rcases List.mem_append.mp hd with hd | hd
      · exact hl.e d (List.mem_of_mem_take hd)
      · rw [List.mem_singleton.mp hd]; exact he
    · exact hl.e d (List.mem_of_mem_drop hd)
theorem iN_cons (a b c d : IS) (r : ISs) : iN 4 (.cons a (.cons b (.cons c (.cons d r)))) = r := rfl
theorem bent1_eq : b__law_bent_1 = .cons (iA 0 b__law_bent_1) (.cons (iA 1 b__law_bent_1) (.cons (iA 2 b__law_bent_1) (.cons (iA 3 b__law_bent_1) (iN 4 b__law_bent_1)))) := rfl
theorem bent_ok {s : SL} (g : Gp s) (ns : List Int) (rw_ : Rw w) (rh : Rw h) (sk : Sk st) (hb : ∀ x ∈ bs, Ok w h st x) (hl : bs.length ≤ 30) : ∃ l s', f__law_bent [scr ns, .st 0, lsD w h, stD st, .tup (bs.map bxD)] s = .ok (.tup l) s' ∧ Ens 33 l ∧ Gp s' := by
  obtain ⟨u, s1, e1, h1, g1⟩ := pick_few g ns 4 (by decide)
  obtain ⟨n, mn, qn⟩ := atR s1 [0, 1, 0, 2] (v := u) (by simpa using h1)
  simp only [List.map_cons, List.map_nil] at qn
  have bn : 0 ≤ n ∧ n ≤ 2 := by
    have : ∀ c ∈ ([0, 1, 0, 2] : List Int), 0 ≤ c ∧ c ≤ 2 := by decide
    exact this n mn
  have er := rngD_i (n := 1 + n) ⟨by omega, by omega⟩
  have lt : ∀ s : SL, bltS s .len [.tup (bs.map bxD)] = some (.int bs.length) := fun s => by simp [bltS, bltD, lenF]
  have init : Ens 30 (bs.map bxD) := ⟨by simpa using hl, fun d hd => by
    obtain ⟨x, hx, rfl⟩ := List.mem_map.mp hd
    exact (okbd rw_ rh sk (hb x hx)).nic.mono (by decide) (by decide)⟩
  obtain ⟨ρ', s4, f, g4, l, x6, x7, x8, x9, x10, o5, h2, rfl⟩ := forS_inv (f := foF g38 (Tg.name 6) b__law_bent_1) (enc := fun k : Nat => D.int k) (fun pre ρ (s' : SL) => Gp s' ∧ ∃ (l : List D) (x6 x7 x8 x9 x10 : Slot) (o5 : Bool), Ens (30 + pre.length) l ∧ ρ = [some (false, scr ns), some (false, .st 0), some (false, lsD w h), some (false, stD st), some (false, .tup (bs.map bxD)), some (false, .tup l), x6, x7, x8, x9, x10]) (List.range (1 + n).toNat) [] [some (false, scr ns), some (false, .st 0), some (false, lsD w h), some (false, stD st), some (false, .tup (bs.map bxD)), some (false, .tup (bs.map bxD)), none, none, none, none, none] s1
    ⟨g1, _, _, _, _, _, _, false, init, rfl⟩ (by
      rintro p i q ρ s5 ee ⟨g, l, x6, x7, x8, x9, x10, o5, hl', rfl⟩
      obtain ⟨ex, hx⟩ := rg0 ee
      -- the box that is looked at
      have boxS : ∃ (x : Bx) (s6 : SL), (∀ (y8 y9 y10 : Slot), bd (evS g38 (iA 0 b__law_bent_1) [some (false, scr ns), some (false, .st 0), some (false, lsD w h), some (false, stD st), some (false, .tup (bs.map bxD)), some (false, .tup l), some (false, .int (i : Int)), x7, y8, y9, y10] s5) (fun w s1 => sq (evSs g38 (.cons (iA 1 b__law_bent_1) (.cons (iA 2 b__law_bent_1) (.cons (iA 3 b__law_bent_1) (iN 4 b__law_bent_1))))) w s1 .mk) .mk =
          evSs g38 (.cons (iA 2 b__law_bent_1) (.cons (iA 3 b__law_bent_1) (iN 4 b__law_bent_1))) [some (false, scr ns), some (false, .st 0), some (false, lsD w h), some (false, stD st), some (false, .tup (bs.map bxD)), some (false, .tup l), some (false, .int (i : Int)), some (false, bxD x), y8, y9, y10] s6) ∧ Fm w.length h.length x ∧ Sz x ∧ (0 < bs.length → Ok w h st x) ∧ Gp s6 := by
        by_cases c : 0 < bs.length
        · have c' : (0 : Int) < bs.length := by omega
          obtain ⟨v, s6, e6, h6, g6⟩ := pick_few g ns bs.length (by omega)
          obtain ⟨d, md, qd⟩ := atT s6 (bs.map bxD) (v := v) (by simpa using h6)
          obtain ⟨x, hx, rfl⟩ := List.mem_map.mp md
          have ob : (bxD x).isObj = false := rfl
          refine ⟨x, s6, fun y8 y9 y10 => ?_, (hb x hx).f, szOf rw_ rh sk (hb x hx), fun _ => hb x hx, g6⟩
          rw [ss_cons]
          simp [-ss_cons, iA, b__law_bent_1, lt, c, e6, qd]
          simp [lt, c, e6, qd]
        · have c' : ¬ (0 : Int) < bs.length := by omega
          refine ⟨dfB, s5, fun y8 y9 y10 => ?_, dfB_fm rw_ rh, dfB_sz, fun z => absurd z c, g⟩
          rw [ss_cons]
          simp [-ss_cons, iA, b__law_bent_1, lt, c, dfB_D]
          simp [lt, c, dfB_D]
      obtain ⟨x, s6, e6, fx, zx, ox, g6⟩ := boxS
      have entS : ∃ (v : Int) (e : D) (s8 : SL), (∀ (y10 : Slot), evSs g38 (.cons (iA 2 b__law_bent_1) (.cons (iA 3 b__law_bent_1) (iN 4 b__law_bent_1))) [some (false, scr ns), some (false, .st 0), some (false, lsD w h), some (false, stD st), some (false, .tup (bs.map bxD)), some (false, .tup l), some (false, .int (i : Int)), some (false, bxD x), x8, x9, y10] s6 =
          evSs g38 (iN 4 b__law_bent_1) [some (false, scr ns), some (false, .st 0), some (false, lsD w h), some (false, stD st), some (false, .tup (bs.map bxD)), some (false, .tup l), some (false, .int (i : Int)), some (false, bxD x), some (false, .int v), some (false, e), y10] s8) ∧ En e ∧ Gp s8 := by
        obtain ⟨v, s7, e7, h7, g7⟩ := pick_few g6 ns 4 (by decide)
        have strange : ∀ s7 : SL, Gp s7 → ∃ d e s8, f__law_strange [scr ns, .st 0, lsD w h, stD st, bxD x] s7 = .ok d s8 ∧ unw d = e ∧ En e ∧ Gp s8 := fun s7 g7 => by
          obtain ⟨d, s8, e8, ⟨e, n8, u8, _⟩, g8⟩ := strange_ok g7 ns rw_ rh sk fx zx
          exact ⟨d, e, s8, e8, u8, n8, g8⟩
        have v4 : v = 0 ∨ v = 1 ∨ v = 2 ∨ v = 3 := by omega
        rcases v4 with rfl | rfl | rfl | rfl
        · by_cases c : 0 < bs.length
          · obtain ⟨d, s8, e8, ⟨n8, _, u8⟩, g8⟩ := over_ok g7 ns rw_ rh sk (ox c)
            refine ⟨0, d, s8, fun y10 => ?_, n8, g8⟩
            simp [iA, b__law_bent_1, e7, lt, c, e8, u8]
          · obtain ⟨d, e, s8, e8, u8, n8, g8⟩ := strange s7 g7
            refine ⟨0, e, s8, fun y10 => ?_, n8, g8⟩
            simp [iA, b__law_bent_1, e7, lt, c, e8, u8]
        · obtain ⟨d, s8, e8, ⟨n8, _, u8⟩, g8⟩ := beside_ok g7 ns zx
          refine ⟨1, d, s8, fun y10 => ?_, n8, g8⟩
          simp [iA, b__law_bent_1, e7, e8, u8]
        · obtain ⟨t, s7', e7', h7', g7'⟩ := pick_few g7 ns 3 (by decide)
          by_cases c : t = 0
          · subst c
            refine ⟨2, bxD x, s7', fun y10 => ?_, zx.bd.nic.mono (by decide) (by decide), g7'⟩
            simp [iA, b__law_bent_1, e7, e7']
          · obtain ⟨d, e, s8, e8, u8, n8, g8⟩ := strange s7' g7'
            refine ⟨2, e, s8, fun y10 => ?_, n8, g8⟩
            simp [iA, b__law_bent_1, e7, e7', c, e8, u8]
        · obtain ⟨d, e, s8, e8, u8, n8, g8⟩ := strange s7 g7
          refine ⟨3, e, s8, fun y10 => ?_, n8, g8⟩
          simp [iA, b__law_bent_1, e7, e8, u8]
      obtain ⟨v, e, s8, e8, n8, g8⟩ := entS
      have pl : p.length ≤ 2 := by omega
      obtain ⟨l', s9, x10', e9, h9, g9⟩ := put_ok g8 ns hl' (by omega) n8 (some (false, lsD w h)) (some (false, stD st)) (some (false, .tup (bs.map bxD))) (some (false, .int (i : Int))) (some (false, bxD x)) (some (false, .int v)) x10 false
      refine ⟨_, s9, ?_, g9, l', some (false, .int (i : Int)), some (false, bxD x), some (false, .int v), some (false, e), x10', false, ⟨by have := h9.len; simp; omega, h9.e⟩, rfl⟩
      show evSs g38 b__law_bent_1 [some (false, scr ns), some (false, .st 0), some (false, lsD w h), some (false, stD st), some (false, .tup (bs.map bxD)), some (false, .tup l), some (false, .int (i : Int)), x7, x8, x9, x10] s5 = _
      rw [bent1_eq, ss_cons]
      exact (e6 x8 x9 x10).trans ((e8 x10).trans e9))
  rw [List.nil_append, List.length_range] at h2
  refine ⟨l, s4, ?_, ⟨by have := h2.len; omega, h2.e⟩, g4⟩
  have o1 : (D.tup (bs.map bxD)).isObj = false := rfl
  simp [f__law_bent, ir__law_bent, e1, qn, er, f]
end
end K20
end Ev
end
section
set_option linter.all false
set_option maxHeartbeats 8000000
namespace Ev
open PySem (Str)
namespace K20
open PySem (Str)
section
variable {w h : List Int} {st : List T3} {d : D}
theorem lot_nic {bs : List Bx} (hb : ∀ x ∈ bs, Ok w h st x ∧ Sz x ∧ Sm x) (hl : bs.length < 64) : Nic 2 321 (lotD bs) := by
  have key : ∀ t ∈ mrg (bs.map tr), sI t.1 = true ∧ sI t.2.1 = true ∧ sI t.2.2 = true := by
    intro t ht
    obtain ⟨u, hu, e⟩ := mrg_pair ht
    obtain ⟨x, hx, rfl⟩ := List.mem_map.mp hu
    obtain ⟨ox, zx, mx⟩ := hb x hx
    have e1 : t.1 = x.a := (congrArg Prod.fst e).symm
    have e2 : t.2.1 = x.b := (congrArg Prod.snd e).symm
    obtain ⟨_, e3, _⟩ := fromK_mem.mp ht
    have e3 : t.2.2 = tot t.p (bs.map tr) := e3
    have hm : ∀ t ∈ bs.map tr, 0 ≤ t.m ∧ t.m ≤ 100000000000000000000000000000000000000000000000000000000 := by
      intro t ht
      obtain ⟨y, hy, rfl⟩ := List.mem_map.mp ht
      have := (hb y hy).2.2.m
      omega
    have b1 := tot_le t.p hm (by decide)
    have b2 := tot_nonneg (p := t.p) (l := bs.map tr) fun t ht => (hm t ht).1
    rw [List.length_map] at b1
    have b3 : (bs.length : Int) * 100000000000000000000000000000000000000000000000000000000 ≤ 64 * 100000000000000000000000000000000000000000000000000000000 := Int.mul_le_mul_of_nonneg_right (by omega) (by decide)
    exact ⟨by rw [e1]; exact zx.bd.a, by rw [e2]; exact zx.bd.b, by rw [e3]; exact sI_of (by omega)⟩
  have hlen : (mrg (bs.map tr)).length ≤ 64 := by
    have := mrg_length (l := bs.map tr) (ks := (bs.map tr).map T3.p) fun t ht => List.mem_map.mpr ⟨t, ht, rfl⟩
    simp at this; omega
  have z := sizs_le (c := 4) (l := (mrg (bs.map tr)).map tD) fun y hy => by
    obtain ⟨t, _, rfl⟩ := List.mem_map.mp hy
    simp [tD]
  refine nic_of ?_ ?_ ?_
  · show D.fit 2 (.tup _) = true
    rw [fit_t]; exact fits_of fun y hy => by
      obtain ⟨t, _, rfl⟩ := List.mem_map.mp hy
      exact fit_tD 0 t
  · show smls _ = true
    exact smls_of fun y hy => by
      obtain ⟨t, ht, rfl⟩ := List.mem_map.mp hy
      obtain ⟨a, b, c⟩ := key t ht
      simp [tD, a, b, c]
  · show sizs _ + 1 ≤ 321
    rw [List.length_map] at z; omega
/-- what is due can be shown -/
theorem du_nic (rw_ : Rw w) (rh : Rw h) (sk : Sk st) (hl : ∀ l, d = .tup l → l.length < 64) : Nic 3 400 (DU w h st d) := by
  have wd : ∀ (x : Str), (x = "inside" ∨ x = "box" ∨ x = "overlap" ∨ x = "laying") → (∀ n, D.fit n (.str x) = true) ∧ x.length ≤ 20 := by
    rintro x (rfl | rfl | rfl | rfl) <;> exact ⟨fun n => fit_str n _ (by decide +kernel), by decide +kernel⟩
  have w1 : (∀ n, D.fit n (.str ("raised" : Str)) = true) ∧ ("raised" : Str).length ≤ 20 := ⟨fun n => fit_str n _ (by decide +kernel), by decide +kernel⟩
  have w2 : (∀ n, D.fit n (.str ("lot" : Str)) = true) ∧ ("lot" : Str).length ≤ 20 := ⟨fun n => fit_str n _ (by decide +kernel), by decide +kernel⟩
  cases et : TF w h st d with
  | some p =>
    obtain ⟨x, a⟩ := p
    have ed : DU w h st d = .tup [.str ("raised" : Str), .str x, a] := by unfold DU; rw [et]
    obtain ⟨_, ⟨_, rfl, hx⟩, ha⟩ := TF_ok et
    obtain ⟨f1, f2⟩ := wd _ hx
    have na : Nic 1 3 a := by
      rcases ha with rfl | ⟨l, e, i, hi, rfl⟩ | ⟨l, e, p, h1, h2, rfl⟩
      · exact nic_of (by simp) (by decide) (by simp)
      · have := hl l e
        exact nic_of (by simp) (by simp; exact sI_of (by omega)) (by simp)
      · have := hl l e
        have s1 : sI (p.1 : Int) = true := sI_of (by omega)
        have s2 : sI (p.2 : Int) = true := sI_of (by omega)
        exact nic_of (by simp [ikD]) (by simp [ikD, s1, s2]) (by simp [ikD])
    have := na.z
    rw [ed]
    exact nic_of (by simp [w1.1, f1, fit_le (by decide : 1 ≤ 2) na.f]) (by simp [w1.2, f2, na.m]) (by simp; omega)
  | none =>
    have ed : DU w h st d = .tup [.str ("lot" : Str), lotD (bxsOf d)] := by unfold DU; rw [et]
    rw [ed]
    have nl : Nic 2 321 (lotD (bxsOf d)) := by
      cases d with
      | tup l =>
        have e' : (match fo (E1 w h st l) l.length 0 with
          | some p => some p
          | none => (FM w h (l.map bxOf)).map fun p => (("overlap" : Str), ikD p)) = none := et
        cases h1 : fo (E1 w h st l) l.length 0 with
        | some p => rw [h1] at e'; cases e'
        | none =>
          have all := E1_all h1
          refine lot_nic (w := w) (h := h) (st := st) (bs := l.map bxOf) (fun x hx => ?_) (by simpa using hl l rfl)
          obtain ⟨d, hd, rfl⟩ := List.mem_map.mp hx
          have f := (PB_of (all d hd).1).2
          have o : Ok w h st (bxOf d) := ⟨f, (all d hd).2⟩
          exact ⟨o, szOf rw_ rh sk o, sm_of rw_ rh sk f (all d hd).2⟩
      | _ => cases et
    have := nl.z
    exact nic_of (by simp [w2.1, nl.f]) (by simp [w2.2, nl.m]) (by simp; omega)
/-- a thing that is judged -/
structure Th (d : D) : Prop where
  n : Nic 6 999 d
  l : ∀ l, d = .tup l → l.length < 64
theorem thing_ok (s : SL) (rw_ : Rw w) (rh : Rw h) (sk : Sk st) (t : Th d) (x0 x1 x2 x5 x6 x7 x8 x9 x11 x12 x13 : Slot) : ∃ x11', evSs g39 b_law_2 [x0, x1, x2, some (false, lsD w h), some (false, stD st), x5, x6, x7, x8, x9, some (false, d), x11, x12, x13] s = .ok (.nx [x0, x1, x2, some (false, lsD w h), some (false, stD st), x5, x6, x7, x8, x9, some (false, d), x11', x12, x13]) s := by
  have nd := du_nic (d := d) rw_ rh sk t.l
  have e1 := due_ok s (n := 3) rw_ rh sk t.n t.l
  have e2 := answer_ok s (n := 3) rw_ rh sk t.n (by decide) t.l false
  have e3 := answer_ok s (n := 3) rw_ rh sk t.n (by decide) t.l true
  have f40 : D.fit 40 (DU w h st d) = true := fit_le (by decide) nd.f
  have r1 := rep_ok s f40 nd.m (by have := nd.z; omega)
  have r2 := rep_ne f40
  have uw : unw (DU w h st d) = DU w h st d := by
    have f := nd.f
    generalize DU w h st d = z at f
    cases z with
    | ins _ _ => simp [D.fit] at f
    | _ => rfl
  refine ⟨some (false, .rep (DU w h st d)), ?_⟩
  simp [b_law_2, e1, uw, r1, e2, e3, r2]
end
/-- the law behind its first row -/
def ir_rest : ISs := match ir_law with
  | .cons _ r => r
  | r => r
theorem rest_ok (ns : List Int) : ∃ s', evSs g39 ir_rest (some (false, .lst (ns.map D.int)) :: some (false, .st 0) :: List.replicate 12 none) [([0, 0, 60013] : List Int).map D.int] = .ok (.rt (.bl true)) s' := by
  have g0 : Gp [([0, 0, 60013] : List Int).map D.int] := ⟨0, 0, 60013, rfl, by decide⟩
  generalize [([0, 0, 60013] : List Int).map D.int] = s0 at g0
  obtain ⟨sc, s1, e1, h1, g1⟩ := pick_few g0 ns 8 (by decide)
  obtain ⟨w, s2, e2, rw_, g2⟩ := row_ok g1 ns sc
  obtain ⟨h, s3, e3, rh, g3⟩ := row_ok g2 ns sc
  obtain ⟨st, s4, e4, sk, g4⟩ := stock_ok g3 ns sc rw_ rh
  obtain ⟨m, s5, e5, h5, g5⟩ := pick_few g4 ns 9 (by decide)
  obtain ⟨q, s6, e6, h6, g6⟩ := pick_few g5 ns 8 (by decide)
  have e4' : f__law_stock [scr ns, .st 0, .int sc, .tup [rowD w, rowD h]] s3 = .ok (stD st) s4 := e4
  obtain ⟨m', hm', sm⟩ : ∃ m', (0 ≤ m' ∧ m' ≤ 30) ∧ m' = if q = 0 then (2 + m) * 3 else 2 + m := by
    refine ⟨_, ?_, rfl⟩
    split <;> omega
  obtain ⟨bs, s7, e7, ⟨hb, ob⟩, g7⟩ := laying_ok g6 ns rw_ rh sk m' (by omega)
  have e7' : f__law_laying [scr ns, .st 0, .tup [rowD w, rowD h], stD st, .int m'] s6 = .ok (.tup (bs.map bxD)) s7 := e7
  have hb' : bs.length ≤ 30 := by omega
  have nb : ∀ d ∈ bs.map bxD, En d := fun d hd => by
    obtain ⟨x, hx, rfl⟩ := List.mem_map.mp hd
    exact (okbd rw_ rh sk (ob x hx)).nic.mono (by decide) (by decide)
  have good : Th (.tup (bs.map bxD)) := ⟨(Ens.nic (m := 30) ⟨by simpa using hb', nb⟩ (by decide)).mono (by decide) (by decide), fun l e => by cases e; simp; omega⟩
  -- the bent ones
  have r4 : rngD 0 4 = some ((List.range 4).map fun k : Nat => D.int k) := rngD_0 4 (by decide)
  obtain ⟨ρ', s8, f8, g8, ts, x8, h8, p8, rfl⟩ := forS_inv (f := foF g39 (Tg.name 8) b_law_1) (enc := fun k : Nat => D.int k) (fun pre ρ (s' : SL) => Gp s' ∧ ∃ (ts : List D) (x8 : Slot), ts.length ≤ 1 + pre.length ∧ (∀ t ∈ ts, Th t) ∧ ρ = [some (false, scr ns), some (false, .st 0), some (false, .int sc), some (false, lsD w h), some (false, stD st), some (false, .int m'), some (false, .tup (bs.map bxD)), some (true, .lst ts), x8, none, none, none, none, none]) (List.range 4) [] [some (false, scr ns), some (false, .st 0), some (false, .int sc), some (false, lsD w h), some (false, stD st), some (false, .int m'), some (false, .tup (bs.map bxD)), some (true, .lst [.tup (bs.map bxD)]), none, none, none, none, none, none] s7
    ⟨g7, [.tup (bs.map bxD)], none, by simp, by intro t ht; rw [List.mem_singleton.mp ht]; exact good, rfl⟩ (by
      rintro p i q ρ s9 ee ⟨g, ts, x8, h8, p8, rfl⟩
      obtain ⟨ex, hx⟩ := rg0 ee
      obtain ⟨l, s10, e10, nl, g10⟩ := bent_ok g ns rw_ rh sk ob hb'
      have hL : ts.length < L := by unfold L; omega
      refine ⟨_, s10, ?_, g10, ts ++ [.tup l], some (false, .int i), by simp; omega, ?_, rfl⟩
      · simp [foF, bindTg, b_law_1, e10, hL]
      · intro t ht
        rcases List.mem_append.mp ht with ht | ht
        · exact p8 t ht
        · rw [List.mem_singleton.mp ht]
          exact ⟨(nl.nic (by decide)).mono (by decide) (by decide), fun l e => by cases e; have := nl.len; omega⟩)
  rw [List.nil_append, List.length_range] at h8
  obtain ⟨v, s9, e9, h9, g9⟩ := pick_few g8 ns 8 (by decide)
  have t := turns_mp (f := lcF g39 e_law_1 (Tg.name 13) [12, 13] .nil [some (false, scr ns), some (false, .st 0), some (false, .int sc), some (false, lsD w h), some (false, stD st), some (false, .int m'), some (false, .tup (bs.map bxD)), some (true, .lst ts), x8, none, none, none, none, none]) (enc := bxD) (g := fun x => D.lst [.int x.a, .int x.b, .int x.s, .tup [.int x.s0, .int x.s1], .tup [.int x.c0, .int x.c1], .tup [.int x.r0, .int x.r1]]) (s := s8) bs [] (fun x hx => by
    have li : ∀ s : SL, bltS s .list [bxD x] = some (.lst [.int x.a, .int x.b, .int x.s, .tup [.int x.s0, .int x.s1], .tup [.int x.c0, .int x.c1], .tup [.int x.r0, .int x.r1]]) := fun _ => rfl
    simp [lcF, e_law_1, bindTg, wipeE, li]) (by unfold L; simp; omega)
  rw [List.nil_append] at t
  have li2 : bltS s8 .list [.tup (bs.map bxD)] = some (.lst (bs.map bxD)) := rfl
  have ngood := good.n
  have w1 : (∀ n, D.fit n (.str ("" : Str)) = true) ∧ ("" : Str).length ≤ 20 := ⟨fun n => fit_str n _ (by decide +kernel), by decide +kernel⟩
  have w2 : (∀ n, D.fit n (.str ("()" : Str)) = true) ∧ ("()" : Str).length ≤ 20 := ⟨fun n => fit_str n _ (by decide +kernel), by decide +kernel⟩
  have nlb : Nic 6 999 (.lst (bs.map bxD)) := by
    have f := ngood.f; have m := ngood.m; have z := ngood.z
    simp only [fit_t, sml_t, siz_t] at f m z
    exact nic_of (by rw [fit_l]; exact f) (by rw [sml_l]; exact m) (by rw [siz_l]; exact z)
  have nll : Nic 6 999 (.lst (bs.map fun x => D.lst [.int x.a, .int x.b, .int x.s, .tup [.int x.s0, .int x.s1], .tup [.int x.c0, .int x.c1], .tup [.int x.r0, .int x.r1]])) := by
    have z := sizs_le (c := 14) (l := bs.map fun x => D.lst [.int x.a, .int x.b, .int x.s, .tup [.int x.s0, .int x.s1], .tup [.int x.c0, .int x.c1], .tup [.int x.r0, .int x.r1]]) fun y hy => by
      obtain ⟨x, _, rfl⟩ := List.mem_map.mp hy
      simp
    rw [List.length_map] at z
    refine nic_of ?_ ?_ (by rw [siz_l]; omega)
    · rw [fit_l]; exact fits_of fun y hy => by
        obtain ⟨x, _, rfl⟩ := List.mem_map.mp hy
        simp
    · rw [sml_l]; exact smls_of fun y hy => by
        obtain ⟨x, hx, rfl⟩ := List.mem_map.mp hy
        have b := okbd rw_ rh sk (ob x hx)
        simp [b.a, b.b, b.s, b.s0, b.s1, b.c0, b.c1, b.r0, b.r1]
  generalize hLL : bs.map (fun x => D.lst [.int x.a, .int x.b, .int x.s, .tup [.int x.s0, .int x.s1], .tup [.int x.c0, .int x.c1], .tup [.int x.r0, .int x.r1]]) = LL at *
  obtain ⟨o, mo, qo⟩ := atT s9 [.lst (bs.map bxD), .non, .str ("" : Str), .int (-1), .bl true, .lst LL, .int 0, .str ("()" : Str)] (v := v) (by simpa using h9)
  have to : Th o := by
    simp at mo
    rcases mo with rfl | rfl | rfl | rfl | rfl | rfl | rfl | rfl
    · exact ⟨nlb, fun l e => by cases e⟩
    · exact ⟨nic_of (by simp) (by simp) (by simp), fun l e => by cases e⟩
    · exact ⟨nic_of (w1.1 _) (by simp [w1.2]) (by simp), fun l e => by cases e⟩
    · exact ⟨nic_of (by simp) (by decide) (by simp), fun l e => by cases e⟩
    · exact ⟨nic_of (by simp) (by simp) (by simp), fun l e => by cases e⟩
    · exact ⟨nll, fun l e => by cases e⟩
    · exact ⟨nic_of (by simp) (by decide) (by simp), fun l e => by cases e⟩
    · exact ⟨nic_of (w2.1 _) (by simp [w2.2]) (by simp), fun l e => by cases e⟩
  have hall : ∀ t ∈ ts ++ [o], Th t := by
    intro t ht
    rcases List.mem_append.mp ht with ht | ht
    · exact p8 t ht
    · rw [List.mem_singleton.mp ht]; exact to
  obtain ⟨ρ', f9, x10, x11, x12, x13, rfl⟩ := forS_same (f := foF g39 (Tg.name 10) b_law_2) (fun ρ => ∃ x10 x11 x12 x13, ρ = [some (false, scr ns), some (false, .st 0), some (false, .int sc), some (false, lsD w h), some (false, stD st), some (false, .int m'), some (false, .tup (bs.map bxD)), some (true, .lst (ts ++ [o])), x8, some (false, .tup [.lst (bs.map bxD), .non, .str ("" : Str), .int (-1), .bl true, .lst LL, .int 0, .str ("()" : Str)]), x10, x11, x12, x13]) s9 (ts ++ [o])
    [some (false, scr ns), some (false, .st 0), some (false, .int sc), some (false, lsD w h), some (false, stD st), some (false, .int m'), some (false, .tup (bs.map bxD)), some (true, .lst (ts ++ [o])), x8, some (false, .tup [.lst (bs.map bxD), .non, .str ("" : Str), .int (-1), .bl true, .lst LL, .int 0, .str ("()" : Str)]), none, none, none, none] ⟨_, _, _, _, rfl⟩ (by
      rintro d hd ρ ⟨x10, x11, x12, x13, rfl⟩
      obtain ⟨x11', e⟩ := thing_ok s9 rw_ rh sk (hall d hd) (some (false, scr ns)) (some (false, .st 0)) (some (false, .int sc)) (some (false, .int m')) (some (false, .tup (bs.map bxD))) (some (true, .lst (ts ++ [o]))) x8 (some (false, .tup [.lst (bs.map bxD), .non, .str ("" : Str), .int (-1), .bl true, .lst LL, .int 0, .str ("()" : Str)])) x11 x12 x13
      exact ⟨_, e, some (false, d), x11', x12, x13, rfl⟩)
  have hL : ts.length < L := by unfold L; omega
  have es : (.lst (ns.map D.int) : D) = scr ns := rfl
  have uw1 : unw (rowD w) = rowD w := rfl
  have uw2 : unw (rowD h) = rowD h := rfl
  have uw3 : unw (stD st) = stD st := rfl
  have el : D.tup [rowD w, rowD h] = lsD w h := rfl
  refine ⟨s9, ?_⟩
  by_cases c : q = 0
  · rw [if_pos c] at sm
    subst c
    have ml : mulD (.int (2 + m)) (.int 3) = some (.int m') := by rw [sm]; exact mulD_i (bits_of (by decide))
    simp [ir_rest, ir_law, es, e1, e2, e3, uw1, uw2, el, e4, uw3, e5, e6, ml, e7, r4, f8, li2, t, e9, qo, hL, f9]
  · rw [if_neg c] at sm
    have sm' : 2 + m = m' := sm.symm
    simp [ir_rest, ir_law, es, e1, e2, e3, uw1, uw2, el, e4, uw3, e5, e6, c, sm', e7, r4, f8, li2, t, e9, qo, hL, f9]
end K20
end Ev
end
section
set_option Elab.async false
set_option linter.all false
set_option maxRecDepth 100000
set_option maxHeartbeats 4000000
namespace Ev
namespace K20
open PySem PySem.Spec PyProof.Rows L2
def topS (i : Nat) : Stmt := PySem.Challenge.pw_onesheetmore_k20_whole_checker_of_laying.main.body.getD i (.Pass ⟨0, 0, 0, 0⟩)
def cf (N : List PySem.Str) (fns : List (PySem.Str × Nat)) (kw : List ((PySem.Str × Nat × List PySem.Str) × (Nat × List Nat))) : Cfg := ⟨N, fns, [("InvalidPaper", 0, ["word", "at"])], [("InvalidPaper", [0])], ["word", "at"], ["counts"], kw, ["_law_feed", "_law_got", "_law_out", "_law_row_here", "_law_sides", "_law_things", "_law_told", "counts", "grounds"], false⟩
def kwL : List ((PySem.Str × Nat × List PySem.Str) × (Nat × List Nat)) := [(("lets_laying", 0, ["thing", "lists", "stock"]), (19, [1, 2, 0]))]
abbrev st_let : Stmt := topS 5
def l0 : List (PySem.Str × Nat) := []
def N_let : List PySem.Str := ["fault", "word", "at"]
theorem sc_let : FnScope N_let ["fault"] (defScope st_let) := ⟨rfl, rfl, rfl, by decide +kernel, rfl, by decide +kernel, by decide +kernel⟩
theorem cp_let : compSs (cf N_let l0 []) 200 (defScope st_let) (defBody st_let) = some ir_let := by kernel_rfl
abbrev st_merged : Stmt := topS 6
def l1 : List (PySem.Str × Nat) := l0 ++ [(("let" : PySem.Str), 1)]
def N_merged : List PySem.Str := ["triples", "counts", "first", "second", "many", ".0", "pair"]
theorem sc_merged : FnScope N_merged ["triples"] (defScope st_merged) := ⟨rfl, rfl, rfl, by decide +kernel, rfl, by decide +kernel, by decide +kernel⟩
theorem cp_merged : compSs (cf N_merged l1 []) 200 (defScope st_merged) (defBody st_merged) = some ir_merged := by kernel_rfl
abbrev st_is_integer : Stmt := topS 8
def l2 : List (PySem.Str × Nat) := l1 ++ [(("merged" : PySem.Str), 1)]
def N_is_integer : List PySem.Str := ["thing"]
theorem sc_is_integer : FnScope N_is_integer ["thing"] (defScope st_is_integer) := ⟨rfl, rfl, rfl, by decide +kernel, rfl, by decide +kernel, by decide +kernel⟩
theorem cp_is_integer : compSs (cf N_is_integer l2 []) 200 (defScope st_is_integer) (defBody st_is_integer) = some ir_is_integer := by kernel_rfl
abbrev st_is_number : Stmt := topS 9
def l3 : List (PySem.Str × Nat) := l2 ++ [(("is_integer" : PySem.Str), 1)]
def N_is_number : List PySem.Str := ["thing"]
theorem sc_is_number : FnScope N_is_number ["thing"] (defScope st_is_number) := ⟨rfl, rfl, rfl, by decide +kernel, rfl, by decide +kernel, by decide +kernel⟩
theorem cp_is_number : compSs (cf N_is_number l3 []) 200 (defScope st_is_number) (defBody st_is_number) = some ir_is_number := by kernel_rfl
abbrev st_is_count : Stmt := topS 10
def l4 : List (PySem.Str × Nat) := l3 ++ [(("is_number" : PySem.Str), 1)]
def N_is_count : List PySem.Str := ["thing"]
theorem sc_is_count : FnScope N_is_count ["thing"] (defScope st_is_count) := ⟨rfl, rfl, rfl, by decide +kernel, rfl, by decide +kernel, by decide +kernel⟩
theorem cp_is_count : compSs (cf N_is_count l4 []) 200 (defScope st_is_count) (defBody st_is_count) = some ir_is_count := by kernel_rfl
abbrev st_is_index : Stmt := topS 11
def l5 : List (PySem.Str × Nat) := l4 ++ [(("is_count" : PySem.Str), 1)]
def N_is_index : List PySem.Str := ["thing", "many"]
theorem sc_is_index : FnScope N_is_index ["thing", "many"] (defScope st_is_index) := ⟨rfl, rfl, rfl, by decide +kernel, rfl, by decide +kernel, by decide +kernel⟩
theorem cp_is_index : compSs (cf N_is_index l5 []) 200 (defScope st_is_index) (defBody st_is_index) = some ir_is_index := by kernel_rfl
abbrev st_is_tuple_of : Stmt := topS 12
def l6 : List (PySem.Str × Nat) := l5 ++ [(("is_index" : PySem.Str), 2)]
def N_is_tuple_of : List PySem.Str := ["thing", "many"]
theorem sc_is_tuple_of : FnScope N_is_tuple_of ["thing", "many"] (defScope st_is_tuple_of) := ⟨rfl, rfl, rfl, by decide +kernel, rfl, by decide +kernel, by decide +kernel⟩
theorem cp_is_tuple_of : compSs (cf N_is_tuple_of l6 []) 200 (defScope st_is_tuple_of) (defBody st_is_tuple_of) = some ir_is_tuple_of := by kernel_rfl
abbrev st_is_span : Stmt := topS 13
def l7 : List (PySem.Str × Nat) := l6 ++ [(("is_tuple_of" : PySem.Str), 2)]
def N_is_span : List PySem.Str := ["thing"]
theorem sc_is_span : FnScope N_is_span ["thing"] (defScope st_is_span) := ⟨rfl, rfl, rfl, by decide +kernel, rfl, by decide +kernel, by decide +kernel⟩
theorem cp_is_span : compSs (cf N_is_span l7 []) 200 (defScope st_is_span) (defBody st_is_span) = some ir_is_span := by kernel_rfl
abbrev st_is_kind : Stmt := topS 14
def l8 : List (PySem.Str × Nat) := l7 ++ [(("is_span" : PySem.Str), 1)]
def N_is_kind : List PySem.Str := ["lists", "thing"]
theorem sc_is_kind : FnScope N_is_kind ["lists", "thing"] (defScope st_is_kind) := ⟨rfl, rfl, rfl, by decide +kernel, rfl, by decide +kernel, by decide +kernel⟩
theorem cp_is_kind : compSs (cf N_is_kind l8 []) 200 (defScope st_is_kind) (defBody st_is_kind) = some ir_is_kind := by kernel_rfl
abbrev st_is_span_within : Stmt := topS 16
def l9 : List (PySem.Str × Nat) := l8 ++ [(("is_kind" : PySem.Str), 2)]
def N_is_span_within : List PySem.Str := ["thing", "many"]
theorem sc_is_span_within : FnScope N_is_span_within ["thing", "many"] (defScope st_is_span_within) := ⟨rfl, rfl, rfl, by decide +kernel, rfl, by decide +kernel, by decide +kernel⟩
theorem cp_is_span_within : compSs (cf N_is_span_within l9 []) 200 (defScope st_is_span_within) (defBody st_is_span_within) = some ir_is_span_within := by kernel_rfl
abbrev st_is_box : Stmt := topS 17
def l10 : List (PySem.Str × Nat) := l9 ++ [(("is_span_within" : PySem.Str), 2)]
def N_is_box : List PySem.Str := ["lists", "stock", "thing", "a", "b", "sort", "sheets", "columns", "rows", "width", "height", "many"]
theorem sc_is_box : FnScope N_is_box ["lists", "stock", "thing"] (defScope st_is_box) := ⟨rfl, rfl, rfl, by decide +kernel, rfl, by decide +kernel, by decide +kernel⟩
theorem cp_is_box : compSs (cf N_is_box l10 []) 200 (defScope st_is_box) (defBody st_is_box) = some ir_is_box := by kernel_rfl
abbrev st_shares_of : Stmt := topS 18
def l11 : List (PySem.Str × Nat) := l10 ++ [(("is_box" : PySem.Str), 3)]
def N_shares_of : List PySem.Str := ["box", "_", "sheets", "columns", "rows"]
theorem sc_shares_of : FnScope N_shares_of ["box"] (defScope st_shares_of) := ⟨rfl, rfl, rfl, by decide +kernel, rfl, by decide +kernel, by decide +kernel⟩
theorem cp_shares_of : compSs (cf N_shares_of l11 []) 200 (defScope st_shares_of) (defBody st_shares_of) = some ir_shares_of := by kernel_rfl
abbrev st_span_ground : Stmt := topS 19
def l12 : List (PySem.Str × Nat) := l11 ++ [(("shares_of" : PySem.Str), 1)]
def N_span_ground : List PySem.Str := ["span", "size"]
theorem sc_span_ground : FnScope N_span_ground ["span", "size"] (defScope st_span_ground) := ⟨rfl, rfl, rfl, by decide +kernel, rfl, by decide +kernel, by decide +kernel⟩
theorem cp_span_ground : compSs (cf N_span_ground l12 []) 200 (defScope st_span_ground) (defBody st_span_ground) = some ir_span_ground := by kernel_rfl
abbrev st_ground_in : Stmt := topS 20
def l13 : List (PySem.Str × Nat) := l12 ++ [(("span_ground" : PySem.Str), 2)]
def N_ground_in : List PySem.Str := ["lists", "box", "a", "b", "sort", "sheets", "columns", "rows", "left", "right", "bottom", "top"]
theorem sc_ground_in : FnScope N_ground_in ["lists", "box"] (defScope st_ground_in) := ⟨rfl, rfl, rfl, by decide +kernel, rfl, by decide +kernel, by decide +kernel⟩
theorem cp_ground_in : compSs (cf N_ground_in l13 []) 200 (defScope st_ground_in) (defBody st_ground_in) = some ir_ground_in := by kernel_rfl
abbrev st_grounds_meet : Stmt := topS 21
def l14 : List (PySem.Str × Nat) := l13 ++ [(("ground_in" : PySem.Str), 2)]
def N_grounds_meet : List PySem.Str := ["ground", "its_ground", "sort", "first", "last", "left", "bottom", "right", "top", "its_sort", "its_first", "its_last", "its_left", "its_bottom", "its_right", "its_top"]
theorem sc_grounds_meet : FnScope N_grounds_meet ["ground", "its_ground"] (defScope st_grounds_meet) := ⟨rfl, rfl, rfl, by decide +kernel, rfl, by decide +kernel, by decide +kernel⟩
theorem cp_grounds_meet : compSs (cf N_grounds_meet l14 []) 200 (defScope st_grounds_meet) (defBody st_grounds_meet) = some ir_grounds_meet := by kernel_rfl
abbrev st_is_box_like : Stmt := topS 23
def l15 : List (PySem.Str × Nat) := l14 ++ [(("grounds_meet" : PySem.Str), 2)]
def N_is_box_like : List PySem.Str := ["lists", "thing", ".0", "span"]
theorem sc_is_box_like : FnScope N_is_box_like ["lists", "thing"] (defScope st_is_box_like) := ⟨rfl, rfl, rfl, by decide +kernel, rfl, by decide +kernel, by decide +kernel⟩
theorem cp_is_box_like : compSs (cf N_is_box_like l15 []) 200 (defScope st_is_box_like) (defBody st_is_box_like) = some ir_is_box_like := by kernel_rfl
abbrev st_first_meeting : Stmt := topS 24
def l16 : List (PySem.Str × Nat) := l15 ++ [(("is_box_like" : PySem.Str), 2)]
def N_first_meeting : List PySem.Str := ["lists", "boxes", "grounds", "i", "box", "ground", "k", "other"]
theorem sc_first_meeting : FnScope N_first_meeting ["lists", "boxes"] (defScope st_first_meeting) := ⟨rfl, rfl, rfl, by decide +kernel, rfl, by decide +kernel, by decide +kernel⟩
theorem cp_first_meeting : compSs (cf N_first_meeting l16 []) 200 (defScope st_first_meeting) (defBody st_first_meeting) = some ir_first_meeting := by kernel_rfl
abbrev st_laying_fault : Stmt := topS 25
def l17 : List (PySem.Str × Nat) := l16 ++ [(("first_meeting" : PySem.Str), 2)]
def N_laying_fault : List PySem.Str := ["lists", "stock", "thing", "i", "entry", "meeting"]
theorem sc_laying_fault : FnScope N_laying_fault ["lists", "stock", "thing"] (defScope st_laying_fault) := ⟨rfl, rfl, rfl, by decide +kernel, rfl, by decide +kernel, by decide +kernel⟩
theorem cp_laying_fault : compSs (cf N_laying_fault l17 []) 200 (defScope st_laying_fault) (defBody st_laying_fault) = some ir_laying_fault := by kernel_rfl
abbrev st_lot_of_boxes : Stmt := topS 26
def l18 : List (PySem.Str × Nat) := l17 ++ [(("laying_fault" : PySem.Str), 3)]
def N_lot_of_boxes : List PySem.Str := ["boxes", ".0", "box"]
theorem sc_lot_of_boxes : FnScope N_lot_of_boxes ["boxes"] (defScope st_lot_of_boxes) := ⟨rfl, rfl, rfl, by decide +kernel, rfl, by decide +kernel, by decide +kernel⟩
theorem cp_lot_of_boxes : compSs (cf N_lot_of_boxes l18 []) 200 (defScope st_lot_of_boxes) (defBody st_lot_of_boxes) = some ir_lot_of_boxes := by kernel_rfl
abbrev st_lets_laying : Stmt := topS 28
def l19 : List (PySem.Str × Nat) := l18 ++ [(("lot_of_boxes" : PySem.Str), 1)]
def N_lets_laying : List PySem.Str := ["lists", "stock", "thing"]
theorem sc_lets_laying : FnScope N_lets_laying ["lists", "stock", "thing"] (defScope st_lets_laying) := ⟨rfl, rfl, rfl, by decide +kernel, rfl, by decide +kernel, by decide +kernel⟩
theorem cp_lets_laying : compSs (cf N_lets_laying l19 []) 200 (defScope st_lets_laying) (defBody st_lets_laying) = some ir_lets_laying := by kernel_rfl
abbrev st__law_pick : Stmt := topS 30
def l20 : List (PySem.Str × Nat) := l19 ++ [(("lets_laying" : PySem.Str), 3)]
def N__law_pick : List PySem.Str := ["_law_script", "_law_feed", "_law_many", "_law_cell", "_law_got"]
theorem sc__law_pick : FnScope N__law_pick ["_law_script", "_law_feed", "_law_many"] (defScope st__law_pick) := ⟨rfl, rfl, rfl, by decide +kernel, rfl, by decide +kernel, by decide +kernel⟩
theorem cp__law_pick : compSs (cf N__law_pick l20 []) 200 (defScope st__law_pick) (defBody st__law_pick) = some ir__law_pick := by kernel_rfl
abbrev st__law_big : Stmt := topS 31
def l21 : List (PySem.Str × Nat) := l20 ++ [(("_law_pick" : PySem.Str), 3)]
def N__law_big : List PySem.Str := ["_law_script", "_law_feed", "_law_top", "_law_way", "_law_got", "_law_k"]
theorem sc__law_big : FnScope N__law_big ["_law_script", "_law_feed", "_law_top"] (defScope st__law_big) := ⟨rfl, rfl, rfl, by decide +kernel, rfl, by decide +kernel, by decide +kernel⟩
theorem cp__law_big : compSs (cf N__law_big l21 []) 200 (defScope st__law_big) (defBody st__law_big) = some ir__law_big := by kernel_rfl
abbrev st__law_row : Stmt := topS 32
def l22 : List (PySem.Str × Nat) := l21 ++ [(("_law_big" : PySem.Str), 3)]
def N__law_row : List PySem.Str := ["_law_script", "_law_feed", "_law_scene", "_law_row_here", "_law_k"]
theorem sc__law_row : FnScope N__law_row ["_law_script", "_law_feed", "_law_scene"] (defScope st__law_row) := ⟨rfl, rfl, rfl, by decide +kernel, rfl, by decide +kernel, by decide +kernel⟩
theorem cp__law_row : compSs (cf N__law_row l22 []) 200 (defScope st__law_row) (defBody st__law_row) = some ir__law_row := by kernel_rfl
abbrev st__law_stock : Stmt := topS 33
def l23 : List (PySem.Str × Nat) := l22 ++ [(("_law_row" : PySem.Str), 3)]
def N__law_stock : List PySem.Str := ["_law_script", "_law_feed", "_law_scene", "_law_lys", "_law_out", "_law_k", "_law_sides", "_law_row_here", "_law_side", "_law_many"]
theorem sc__law_stock : FnScope N__law_stock ["_law_script", "_law_feed", "_law_scene", "_law_lys"] (defScope st__law_stock) := ⟨rfl, rfl, rfl, by decide +kernel, rfl, by decide +kernel, by decide +kernel⟩
theorem cp__law_stock : compSs (cf N__law_stock l23 []) 200 (defScope st__law_stock) (defBody st__law_stock) = some ir__law_stock := by kernel_rfl
abbrev st__law_span : Stmt := topS 34
def l24 : List (PySem.Str × Nat) := l23 ++ [(("_law_stock" : PySem.Str), 4)]
def N__law_span : List PySem.Str := ["_law_script", "_law_feed", "_law_top", "_law_start", "_law_many"]
theorem sc__law_span : FnScope N__law_span ["_law_script", "_law_feed", "_law_top"] (defScope st__law_span) := ⟨rfl, rfl, rfl, by decide +kernel, rfl, by decide +kernel, by decide +kernel⟩
theorem cp__law_span : compSs (cf N__law_span l24 []) 200 (defScope st__law_span) (defBody st__law_span) = some ir__law_span := by kernel_rfl
abbrev st__law_box : Stmt := topS 35
def l25 : List (PySem.Str × Nat) := l24 ++ [(("_law_span" : PySem.Str), 3)]
def N__law_box : List PySem.Str := ["_law_script", "_law_feed", "_law_lys", "_law_stk", "_law_i", "_law_j", "_law_s", "_law_across", "_law_up", "_law_sheets"]
theorem sc__law_box : FnScope N__law_box ["_law_script", "_law_feed", "_law_lys", "_law_stk"] (defScope st__law_box) := ⟨rfl, rfl, rfl, by decide +kernel, rfl, by decide +kernel, by decide +kernel⟩
theorem cp__law_box : compSs (cf N__law_box l25 []) 200 (defScope st__law_box) (defBody st__law_box) = some ir__law_box := by kernel_rfl
abbrev st__law_number : Stmt := topS 36
def l26 : List (PySem.Str × Nat) := l25 ++ [(("_law_box" : PySem.Str), 4)]
def N__law_number : List PySem.Str := ["_law_item"]
theorem sc__law_number : FnScope N__law_number ["_law_item"] (defScope st__law_number) := ⟨rfl, rfl, rfl, by decide +kernel, rfl, by decide +kernel, by decide +kernel⟩
theorem cp__law_number : compSs (cf N__law_number l26 []) 200 (defScope st__law_number) (defBody st__law_number) = some ir__law_number := by kernel_rfl
abbrev st__law_formed : Stmt := topS 37
def l27 : List (PySem.Str × Nat) := l26 ++ [(("_law_number" : PySem.Str), 1)]
def N__law_formed : List PySem.Str := ["_law_lys", "_law_box_here", "_law_k"]
theorem sc__law_formed : FnScope N__law_formed ["_law_lys", "_law_box_here"] (defScope st__law_formed) := ⟨rfl, rfl, rfl, by decide +kernel, rfl, by decide +kernel, by decide +kernel⟩
theorem cp__law_formed : compSs (cf N__law_formed l27 []) 200 (defScope st__law_formed) (defBody st__law_formed) = some ir__law_formed := by kernel_rfl
abbrev st__law_within : Stmt := topS 38
def l28 : List (PySem.Str × Nat) := l27 ++ [(("_law_formed" : PySem.Str), 2)]
def N__law_within : List PySem.Str := ["_law_lys", "_law_stk", "_law_box_here", "_law_row_here"]
theorem sc__law_within : FnScope N__law_within ["_law_lys", "_law_stk", "_law_box_here"] (defScope st__law_within) := ⟨rfl, rfl, rfl, by decide +kernel, rfl, by decide +kernel, by decide +kernel⟩
theorem cp__law_within : compSs (cf N__law_within l28 []) 200 (defScope st__law_within) (defBody st__law_within) = some ir__law_within := by kernel_rfl
abbrev st__law_common : Stmt := topS 39
def l29 : List (PySem.Str × Nat) := l28 ++ [(("_law_within" : PySem.Str), 3)]
def N__law_common : List PySem.Str := ["_law_low", "_law_top", "_law_low2", "_law_top2"]
theorem sc__law_common : FnScope N__law_common ["_law_low", "_law_top", "_law_low2", "_law_top2"] (defScope st__law_common) := ⟨rfl, rfl, rfl, by decide +kernel, rfl, by decide +kernel, by decide +kernel⟩
theorem cp__law_common : compSs (cf N__law_common l29 []) 200 (defScope st__law_common) (defBody st__law_common) = some ir__law_common := by kernel_rfl
abbrev st__law_meet : Stmt := topS 40
def l30 : List (PySem.Str × Nat) := l29 ++ [(("_law_common" : PySem.Str), 4)]
def N__law_meet : List PySem.Str := ["_law_lys", "_law_p", "_law_q", "_law_w1", "_law_w2", "_law_h1", "_law_h2"]
theorem sc__law_meet : FnScope N__law_meet ["_law_lys", "_law_p", "_law_q"] (defScope st__law_meet) := ⟨rfl, rfl, rfl, by decide +kernel, rfl, by decide +kernel, by decide +kernel⟩
theorem cp__law_meet : compSs (cf N__law_meet l30 []) 200 (defScope st__law_meet) (defBody st__law_meet) = some ir__law_meet := by kernel_rfl
abbrev st__law_counts : Stmt := topS 41
def l31 : List (PySem.Str × Nat) := l30 ++ [(("_law_meet" : PySem.Str), 3)]
def N__law_counts : List PySem.Str := ["_law_boxes", "_law_out", "_law_kind", ".0", "_law_p"]
theorem sc__law_counts : FnScope N__law_counts ["_law_boxes"] (defScope st__law_counts) := ⟨rfl, rfl, rfl, by decide +kernel, rfl, by decide +kernel, by decide +kernel⟩
theorem cp__law_counts : compSs (cf N__law_counts l31 []) 200 (defScope st__law_counts) (defBody st__law_counts) = some ir__law_counts := by kernel_rfl
abbrev st__law_due : Stmt := topS 42
def l32 : List (PySem.Str × Nat) := l31 ++ [(("_law_counts" : PySem.Str), 1)]
def N__law_due : List PySem.Str := ["_law_lys", "_law_stk", "_law_told", "_law_k", "_law_j"]
theorem sc__law_due : FnScope N__law_due ["_law_lys", "_law_stk", "_law_told"] (defScope st__law_due) := ⟨rfl, rfl, rfl, by decide +kernel, rfl, by decide +kernel, by decide +kernel⟩
theorem cp__law_due : compSs (cf N__law_due l32 []) 200 (defScope st__law_due) (defBody st__law_due) = some ir__law_due := by kernel_rfl
abbrev st__law_answer : Stmt := topS 43
def l33 : List (PySem.Str × Nat) := l32 ++ [(("_law_due" : PySem.Str), 3)]
def N__law_answer : List PySem.Str := ["_law_lys", "_law_stk", "_law_told", "_law_named", "e"]
theorem sc__law_answer : FnScope N__law_answer ["_law_lys", "_law_stk", "_law_told", "_law_named"] (defScope st__law_answer) := ⟨rfl, rfl, rfl, by decide +kernel, rfl, by decide +kernel, by decide +kernel⟩
theorem cp__law_answer : compSs (cf N__law_answer l33 kwL) 200 (defScope st__law_answer) (defBody st__law_answer) = some ir__law_answer := by kernel_rfl
abbrev st__law_laying : Stmt := topS 44
def l34 : List (PySem.Str × Nat) := l33 ++ [(("_law_answer" : PySem.Str), 4)]
def N__law_laying : List PySem.Str := ["_law_script", "_law_feed", "_law_lys", "_law_stk", "_law_many", "_law_out", "_law_k", "_law_box_here", ".0", "_law_p"]
theorem sc__law_laying : FnScope N__law_laying ["_law_script", "_law_feed", "_law_lys", "_law_stk", "_law_many"] (defScope st__law_laying) := ⟨rfl, rfl, rfl, by decide +kernel, rfl, by decide +kernel, by decide +kernel⟩
theorem cp__law_laying : compSs (cf N__law_laying l34 kwL) 200 (defScope st__law_laying) (defBody st__law_laying) = some ir__law_laying := by kernel_rfl
abbrev st__law_over : Stmt := topS 45
def l35 : List (PySem.Str × Nat) := l34 ++ [(("_law_laying" : PySem.Str), 5)]
def N__law_over : List PySem.Str := ["_law_script", "_law_feed", "_law_lys", "_law_stk", "_law_box_here", "_law_i", "_law_j", "_law_column", "_law_row_here"]
theorem sc__law_over : FnScope N__law_over ["_law_script", "_law_feed", "_law_lys", "_law_stk", "_law_box_here"] (defScope st__law_over) := ⟨rfl, rfl, rfl, by decide +kernel, rfl, by decide +kernel, by decide +kernel⟩
theorem cp__law_over : compSs (cf N__law_over l35 kwL) 200 (defScope st__law_over) (defBody st__law_over) = some ir__law_over := by kernel_rfl
abbrev st__law_beside : Stmt := topS 46
def l36 : List (PySem.Str × Nat) := l35 ++ [(("_law_over" : PySem.Str), 5)]
def N__law_beside : List PySem.Str := ["_law_script", "_law_feed", "_law_box_here", "_law_k", "_law_start"]
theorem sc__law_beside : FnScope N__law_beside ["_law_script", "_law_feed", "_law_box_here"] (defScope st__law_beside) := ⟨rfl, rfl, rfl, by decide +kernel, rfl, by decide +kernel, by decide +kernel⟩
theorem cp__law_beside : compSs (cf N__law_beside l36 kwL) 200 (defScope st__law_beside) (defBody st__law_beside) = some ir__law_beside := by kernel_rfl
abbrev st__law_strange : Stmt := topS 47
def l37 : List (PySem.Str × Nat) := l36 ++ [(("_law_beside" : PySem.Str), 3)]
def N__law_strange : List PySem.Str := ["_law_script", "_law_feed", "_law_lys", "_law_stk", "_law_box_here", "_law_i", "_law_j", "_law_s", "_law_sheets", "_law_columns", "_law_rows", "_law_far", "_law_row_here", "_law_across", "_law_up", "_law_forms", "_law_firsts", "_law_spans", "_law_beyond", "_law_way", "_law_k", "_law_spot"]
theorem sc__law_strange : FnScope N__law_strange ["_law_script", "_law_feed", "_law_lys", "_law_stk", "_law_box_here"] (defScope st__law_strange) := ⟨rfl, rfl, rfl, by decide +kernel, rfl, by decide +kernel, by decide +kernel⟩
theorem cp__law_strange : compSs (cf N__law_strange l37 kwL) 200 (defScope st__law_strange) (defBody st__law_strange) = some ir__law_strange := by kernel_rfl
abbrev st__law_bent : Stmt := topS 48
def l38 : List (PySem.Str × Nat) := l37 ++ [(("_law_strange" : PySem.Str), 5)]
def N__law_bent : List PySem.Str := ["_law_script", "_law_feed", "_law_lys", "_law_stk", "_law_good", "_law_told", "_law_turn", "_law_box_here", "_law_way", "_law_entry", "_law_spot"]
theorem sc__law_bent : FnScope N__law_bent ["_law_script", "_law_feed", "_law_lys", "_law_stk", "_law_good"] (defScope st__law_bent) := ⟨rfl, rfl, rfl, by decide +kernel, rfl, by decide +kernel, by decide +kernel⟩
theorem cp__law_bent : compSs (cf N__law_bent l38 kwL) 200 (defScope st__law_bent) (defBody st__law_bent) = some ir__law_bent := by kernel_rfl
abbrev st_law : Stmt := topS 49
def l39 : List (PySem.Str × Nat) := l38 ++ [(("_law_bent" : PySem.Str), 5)]
def N_law : List PySem.Str := ["_law_script", "_law_feed", "_law_scene", "_law_lys", "_law_stk", "_law_many", "_law_good", "_law_things", "_law_turn", "_law_odd", "_law_told", "_law_due_here", ".0", "_law_p"]
theorem sc_law : FnScope N_law ["_law_script"] (defScope st_law) := ⟨rfl, rfl, rfl, by decide +kernel, rfl, by decide +kernel, by decide +kernel⟩
variable {P : Program} {w : World} {K : PySem.W.Frag} {mg : PySem.Str → Option Value} {base : Heap} {C0 : Addr}
def stI_0 : Stmt := match topS 3 with
  | .ClassDef _ _ _ b _ _ _ _ _ _ _ => b.getD 0 (.Pass ⟨0, 0, 0, 0⟩)
  | s => s
theorem scI_0 : FnScope ["self", "word", "at"] ["self", "word", "at"] (defScope stI_0) := ⟨rfl, rfl, rfl, by decide +kernel, rfl, by decide +kernel, by decide +kernel⟩
/-- what is known of the error classes and their names -/
structure Errs (K : PySem.W.Frag) (mg : PySem.Str → Option Value) (C0 : Addr) : Prop where
  e0 : ErrN K mg "InvalidPaper" "InvalidPaper.__init__" ["word", "at"] stI_0 C0
theorem eC_is {k : Nat} {C : Addr} {ns : List PySem.Str} (h : eCof [(C0, ["word", "at"])] k = some (C, ns)) : (k = 0 ∧ C = C0 ∧ ns = (["word", "at"] : List PySem.Str)) := by
  match k, h with
  | 0, h => have h2 : some (C0, (["word", "at"] : List PySem.Str)) = some (C, ns) := h; cases h2; exact ⟨rfl, rfl, rfl⟩
  | _ + 1, h => cases (show (none : Option (Addr × List PySem.Str)) = some (C, ns) from h)
theorem fld_ok (e : Errs K mg C0) {k : Nat} {C : Addr} {ns : List PySem.Str} (h : eCof [(C0, ["word", "at"])] k = some (C, ns)) : XfC K C := by
  rcases eC_is h with ⟨rfl, rfl, rfl⟩
  · exact e.e0.xf
theorem md0 {W : Wd} (hK : K = W.K) (hC : W.eC = eCof [(C0, ["word", "at"])]) (e : Errs K mg C0) (zb : ∀ x ∈ bltNames, mg x = none) : Md P w K mg base W [] (cf [] [] []) 2 := by
  have hc : ∀ p ∈ ([("InvalidPaper", 0, ["word", "at"])] : List (PySem.Str × Nat × List PySem.Str)), ClsRow P w K mg base W.eC 2 p.1 p.2.1 p.2.2 := by
    intro p hp
    simp only [List.mem_cons, List.not_mem_nil, or_false] at hp
    rcases hp with rfl
    · obtain ⟨fI, fd, h1, h2, h3, h4⟩ := e.e0.fn2 (P := P) (w := w) (base := base) scI_0 rfl (.inl rfl) (.inl rfl) (.inl rfl) (by decide +kernel) (by decide +kernel) (by decide +kernel) (by decide +kernel) (by decide +kernel)
      exact ⟨C0, fI, fd, by rw [hC]; rfl, e.e0.m, e.e0.ox, h1, h2, h3, h4, Nat.le_refl 2⟩
  have hx : ∀ p ∈ ([("InvalidPaper", [0])] : List (PySem.Str × List Nat)), ExcRow K W.eC mg ["word", "at"] p.1 p.2 := by
    intro p hp
    rw [hC]
    simp only [List.mem_cons, List.not_mem_nil, or_false] at hp
    rcases hp with rfl
    · refine row_own (A := C0) e.e0.m (fun c1 C ns h => ?_) (fun c1 C ns h hc => ⟨fld_ok e h, by
        rcases eC_is h with ⟨rfl, rfl, rfl⟩
        · exact e.e0.no⟩)
      rcases eC_is h with ⟨rfl, rfl, rfl⟩
      · exact e.e0.em
  exact {
    hK := hK
    fns := fun x i m h => by cases h
    kw := fun x n ks i perm h => by cases h
    blt := fun x hx _ => zb x hx
    gc := fun h => by cases h
    cls := cls_tab hc
    exc := fun x cs h => by
      rw [← hK]
      exact (exc_tab hx x cs h).1
    exn := fun x cs h => (exc_tab hx x cs h).2
    exs := fun c1 C ns h => by
      rw [← hK]
      rw [hC] at h
      rcases eC_is h with ⟨rfl, rfl, rfl⟩
      · exact ⟨e.e0.ec, e.e0.em⟩ }
/-- all defs, where they stand -/
structure Defs (K : PySem.W.Frag) (mg : PySem.Str → Option Value) : Prop where
  d_let : ∃ f fd, DefK K mg "let" st_let ["fault"] f fd
  d_merged : ∃ f fd, DefK K mg "merged" st_merged ["triples"] f fd
  d_is_integer : ∃ f fd, DefK K mg "is_integer" st_is_integer ["thing"] f fd
  d_is_number : ∃ f fd, DefK K mg "is_number" st_is_number ["thing"] f fd
  d_is_count : ∃ f fd, DefK K mg "is_count" st_is_count ["thing"] f fd
  d_is_index : ∃ f fd, DefK K mg "is_index" st_is_index ["thing", "many"] f fd
  d_is_tuple_of : ∃ f fd, DefK K mg "is_tuple_of" st_is_tuple_of ["thing", "many"] f fd
  d_is_span : ∃ f fd, DefK K mg "is_span" st_is_span ["thing"] f fd
  d_is_kind : ∃ f fd, DefK K mg "is_kind" st_is_kind ["lists", "thing"] f fd
  d_is_span_within : ∃ f fd, DefK K mg "is_span_within" st_is_span_within ["thing", "many"] f fd
  d_is_box : ∃ f fd, DefK K mg "is_box" st_is_box ["lists", "stock", "thing"] f fd
  d_shares_of : ∃ f fd, DefK K mg "shares_of" st_shares_of ["box"] f fd
  d_span_ground : ∃ f fd, DefK K mg "span_ground" st_span_ground ["span", "size"] f fd
  d_ground_in : ∃ f fd, DefK K mg "ground_in" st_ground_in ["lists", "box"] f fd
  d_grounds_meet : ∃ f fd, DefK K mg "grounds_meet" st_grounds_meet ["ground", "its_ground"] f fd
  d_is_box_like : ∃ f fd, DefK K mg "is_box_like" st_is_box_like ["lists", "thing"] f fd
  d_first_meeting : ∃ f fd, DefK K mg "first_meeting" st_first_meeting ["lists", "boxes"] f fd
  d_laying_fault : ∃ f fd, DefK K mg "laying_fault" st_laying_fault ["lists", "stock", "thing"] f fd
  d_lot_of_boxes : ∃ f fd, DefK K mg "lot_of_boxes" st_lot_of_boxes ["boxes"] f fd
  d_lets_laying : ∃ f fd, DefK K mg "lets_laying" st_lets_laying ["lists", "stock", "thing"] f fd
  d__law_pick : ∃ f fd, DefK K mg "_law_pick" st__law_pick ["_law_script", "_law_feed", "_law_many"] f fd
  d__law_big : ∃ f fd, DefK K mg "_law_big" st__law_big ["_law_script", "_law_feed", "_law_top"] f fd
  d__law_row : ∃ f fd, DefK K mg "_law_row" st__law_row ["_law_script", "_law_feed", "_law_scene"] f fd
  d__law_stock : ∃ f fd, DefK K mg "_law_stock" st__law_stock ["_law_script", "_law_feed", "_law_scene", "_law_lys"] f fd
  d__law_span : ∃ f fd, DefK K mg "_law_span" st__law_span ["_law_script", "_law_feed", "_law_top"] f fd
  d__law_box : ∃ f fd, DefK K mg "_law_box" st__law_box ["_law_script", "_law_feed", "_law_lys", "_law_stk"] f fd
  d__law_number : ∃ f fd, DefK K mg "_law_number" st__law_number ["_law_item"] f fd
  d__law_formed : ∃ f fd, DefK K mg "_law_formed" st__law_formed ["_law_lys", "_law_box_here"] f fd
  d__law_within : ∃ f fd, DefK K mg "_law_within" st__law_within ["_law_lys", "_law_stk", "_law_box_here"] f fd
  d__law_common : ∃ f fd, DefK K mg "_law_common" st__law_common ["_law_low", "_law_top", "_law_low2", "_law_top2"] f fd
  d__law_meet : ∃ f fd, DefK K mg "_law_meet" st__law_meet ["_law_lys", "_law_p", "_law_q"] f fd
  d__law_counts : ∃ f fd, DefK K mg "_law_counts" st__law_counts ["_law_boxes"] f fd
  d__law_due : ∃ f fd, DefK K mg "_law_due" st__law_due ["_law_lys", "_law_stk", "_law_told"] f fd
  d__law_answer : ∃ f fd, DefK K mg "_law_answer" st__law_answer ["_law_lys", "_law_stk", "_law_told", "_law_named"] f fd
  d__law_laying : ∃ f fd, DefK K mg "_law_laying" st__law_laying ["_law_script", "_law_feed", "_law_lys", "_law_stk", "_law_many"] f fd
  d__law_over : ∃ f fd, DefK K mg "_law_over" st__law_over ["_law_script", "_law_feed", "_law_lys", "_law_stk", "_law_box_here"] f fd
  d__law_beside : ∃ f fd, DefK K mg "_law_beside" st__law_beside ["_law_script", "_law_feed", "_law_box_here"] f fd
  d__law_strange : ∃ f fd, DefK K mg "_law_strange" st__law_strange ["_law_script", "_law_feed", "_law_lys", "_law_stk", "_law_box_here"] f fd
  d__law_bent : ∃ f fd, DefK K mg "_law_bent" st__law_bent ["_law_script", "_law_feed", "_law_lys", "_law_stk", "_law_good"] f fd
  d_law : ∃ f fd, DefK K mg "law" st_law ["_law_script"] f fd
theorem m0 (t : Addr) (e : Errs K mg C0) (zb : ∀ x ∈ bltNames, mg x = none) : Md P w K mg base (wd1 K t (eCof [(C0, ["word", "at"])])) g0 (cf [] l0 []) 2 := md0 rfl rfl e zb
theorem m1 (t : Addr) (e : Errs K mg C0) (zb : ∀ x ∈ bltNames, mg x = none) (D : Defs K mg) : Md P w K mg base (wd1 K t (eCof [(C0, ["word", "at"])])) g1 (cf [] l1 []) 3 := by
  obtain ⟨f, fd, d⟩ := D.d_let
  exact ((m0 t e zb).up (by decide)).more (d.ok (W := (wd1 K t (eCof [(C0, ["word", "at"])]))) (m0 t e zb) sc_let cp_let) rfl (by decide +kernel)
theorem m2 (t : Addr) (e : Errs K mg C0) (zb : ∀ x ∈ bltNames, mg x = none) (D : Defs K mg) : Md P w K mg base (wd1 K t (eCof [(C0, ["word", "at"])])) g2 (cf [] l2 []) 4 := by
  obtain ⟨f, fd, d⟩ := D.d_merged
  exact ((m1 t e zb D).up (by decide)).more (d.ok (W := (wd1 K t (eCof [(C0, ["word", "at"])]))) (m1 t e zb D) sc_merged cp_merged) rfl (by decide +kernel)
theorem m3 (t : Addr) (e : Errs K mg C0) (zb : ∀ x ∈ bltNames, mg x = none) (D : Defs K mg) : Md P w K mg base (wd1 K t (eCof [(C0, ["word", "at"])])) g3 (cf [] l3 []) 5 := by
  obtain ⟨f, fd, d⟩ := D.d_is_integer
  exact ((m2 t e zb D).up (by decide)).more (d.ok (W := (wd1 K t (eCof [(C0, ["word", "at"])]))) (m2 t e zb D) sc_is_integer cp_is_integer) rfl (by decide +kernel)
theorem m4 (t : Addr) (e : Errs K mg C0) (zb : ∀ x ∈ bltNames, mg x = none) (D : Defs K mg) : Md P w K mg base (wd1 K t (eCof [(C0, ["word", "at"])])) g4 (cf [] l4 []) 6 := by
  obtain ⟨f, fd, d⟩ := D.d_is_number
  exact ((m3 t e zb D).up (by decide)).more (d.ok (W := (wd1 K t (eCof [(C0, ["word", "at"])]))) (m3 t e zb D) sc_is_number cp_is_number) rfl (by decide +kernel)
theorem m5 (t : Addr) (e : Errs K mg C0) (zb : ∀ x ∈ bltNames, mg x = none) (D : Defs K mg) : Md P w K mg base (wd1 K t (eCof [(C0, ["word", "at"])])) g5 (cf [] l5 []) 7 := by
  obtain ⟨f, fd, d⟩ := D.d_is_count
  exact ((m4 t e zb D).up (by decide)).more (d.ok (W := (wd1 K t (eCof [(C0, ["word", "at"])]))) (m4 t e zb D) sc_is_count cp_is_count) rfl (by decide +kernel)
theorem m6 (t : Addr) (e : Errs K mg C0) (zb : ∀ x ∈ bltNames, mg x = none) (D : Defs K mg) : Md P w K mg base (wd1 K t (eCof [(C0, ["word", "at"])])) g6 (cf [] l6 []) 8 := by
  obtain ⟨f, fd, d⟩ := D.d_is_index
  exact ((m5 t e zb D).up (by decide)).more (d.ok (W := (wd1 K t (eCof [(C0, ["word", "at"])]))) (m5 t e zb D) sc_is_index cp_is_index) rfl (by decide +kernel)
theorem m7 (t : Addr) (e : Errs K mg C0) (zb : ∀ x ∈ bltNames, mg x = none) (D : Defs K mg) : Md P w K mg base (wd1 K t (eCof [(C0, ["word", "at"])])) g7 (cf [] l7 []) 9 := by
  obtain ⟨f, fd, d⟩ := D.d_is_tuple_of
  exact ((m6 t e zb D).up (by decide)).more (d.ok (W := (wd1 K t (eCof [(C0, ["word", "at"])]))) (m6 t e zb D) sc_is_tuple_of cp_is_tuple_of) rfl (by decide +kernel)
theorem m8 (t : Addr) (e : Errs K mg C0) (zb : ∀ x ∈ bltNames, mg x = none) (D : Defs K mg) : Md P w K mg base (wd1 K t (eCof [(C0, ["word", "at"])])) g8 (cf [] l8 []) 10 := by
  obtain ⟨f, fd, d⟩ := D.d_is_span
  exact ((m7 t e zb D).up (by decide)).more (d.ok (W := (wd1 K t (eCof [(C0, ["word", "at"])]))) (m7 t e zb D) sc_is_span cp_is_span) rfl (by decide +kernel)
theorem m9 (t : Addr) (e : Errs K mg C0) (zb : ∀ x ∈ bltNames, mg x = none) (D : Defs K mg) : Md P w K mg base (wd1 K t (eCof [(C0, ["word", "at"])])) g9 (cf [] l9 []) 11 := by
  obtain ⟨f, fd, d⟩ := D.d_is_kind
  exact ((m8 t e zb D).up (by decide)).more (d.ok (W := (wd1 K t (eCof [(C0, ["word", "at"])]))) (m8 t e zb D) sc_is_kind cp_is_kind) rfl (by decide +kernel)
theorem m10 (t : Addr) (e : Errs K mg C0) (zb : ∀ x ∈ bltNames, mg x = none) (D : Defs K mg) : Md P w K mg base (wd1 K t (eCof [(C0, ["word", "at"])])) g10 (cf [] l10 []) 12 := by
  obtain ⟨f, fd, d⟩ := D.d_is_span_within
  exact ((m9 t e zb D).up (by decide)).more (d.ok (W := (wd1 K t (eCof [(C0, ["word", "at"])]))) (m9 t e zb D) sc_is_span_within cp_is_span_within) rfl (by decide +kernel)
theorem m11 (t : Addr) (e : Errs K mg C0) (zb : ∀ x ∈ bltNames, mg x = none) (D : Defs K mg) : Md P w K mg base (wd1 K t (eCof [(C0, ["word", "at"])])) g11 (cf [] l11 []) 13 := by
  obtain ⟨f, fd, d⟩ := D.d_is_box
  exact ((m10 t e zb D).up (by decide)).more (d.ok (W := (wd1 K t (eCof [(C0, ["word", "at"])]))) (m10 t e zb D) sc_is_box cp_is_box) rfl (by decide +kernel)
theorem m12 (t : Addr) (e : Errs K mg C0) (zb : ∀ x ∈ bltNames, mg x = none) (D : Defs K mg) : Md P w K mg base (wd1 K t (eCof [(C0, ["word", "at"])])) g12 (cf [] l12 []) 14 := by
  obtain ⟨f, fd, d⟩ := D.d_shares_of
  exact ((m11 t e zb D).up (by decide)).more (d.ok (W := (wd1 K t (eCof [(C0, ["word", "at"])]))) (m11 t e zb D) sc_shares_of cp_shares_of) rfl (by decide +kernel)
theorem m13 (t : Addr) (e : Errs K mg C0) (zb : ∀ x ∈ bltNames, mg x = none) (D : Defs K mg) : Md P w K mg base (wd1 K t (eCof [(C0, ["word", "at"])])) g13 (cf [] l13 []) 15 := by
  obtain ⟨f, fd, d⟩ := D.d_span_ground
  exact ((m12 t e zb D).up (by decide)).more (d.ok (W := (wd1 K t (eCof [(C0, ["word", "at"])]))) (m12 t e zb D) sc_span_ground cp_span_ground) rfl (by decide +kernel)
theorem m14 (t : Addr) (e : Errs K mg C0) (zb : ∀ x ∈ bltNames, mg x = none) (D : Defs K mg) : Md P w K mg base (wd1 K t (eCof [(C0, ["word", "at"])])) g14 (cf [] l14 []) 16 := by
  obtain ⟨f, fd, d⟩ := D.d_ground_in
  exact ((m13 t e zb D).up (by decide)).more (d.ok (W := (wd1 K t (eCof [(C0, ["word", "at"])]))) (m13 t e zb D) sc_ground_in cp_ground_in) rfl (by decide +kernel)
theorem m15 (t : Addr) (e : Errs K mg C0) (zb : ∀ x ∈ bltNames, mg x = none) (D : Defs K mg) : Md P w K mg base (wd1 K t (eCof [(C0, ["word", "at"])])) g15 (cf [] l15 []) 17 := by
  obtain ⟨f, fd, d⟩ := D.d_grounds_meet
  exact ((m14 t e zb D).up (by decide)).more (d.ok (W := (wd1 K t (eCof [(C0, ["word", "at"])]))) (m14 t e zb D) sc_grounds_meet cp_grounds_meet) rfl (by decide +kernel)
theorem m16 (t : Addr) (e : Errs K mg C0) (zb : ∀ x ∈ bltNames, mg x = none) (D : Defs K mg) : Md P w K mg base (wd1 K t (eCof [(C0, ["word", "at"])])) g16 (cf [] l16 []) 18 := by
  obtain ⟨f, fd, d⟩ := D.d_is_box_like
  exact ((m15 t e zb D).up (by decide)).more (d.ok (W := (wd1 K t (eCof [(C0, ["word", "at"])]))) (m15 t e zb D) sc_is_box_like cp_is_box_like) rfl (by decide +kernel)
theorem m17 (t : Addr) (e : Errs K mg C0) (zb : ∀ x ∈ bltNames, mg x = none) (D : Defs K mg) : Md P w K mg base (wd1 K t (eCof [(C0, ["word", "at"])])) g17 (cf [] l17 []) 19 := by
  obtain ⟨f, fd, d⟩ := D.d_first_meeting
  exact ((m16 t e zb D).up (by decide)).more (d.ok (W := (wd1 K t (eCof [(C0, ["word", "at"])]))) (m16 t e zb D) sc_first_meeting cp_first_meeting) rfl (by decide +kernel)
theorem m18 (t : Addr) (e : Errs K mg C0) (zb : ∀ x ∈ bltNames, mg x = none) (D : Defs K mg) : Md P w K mg base (wd1 K t (eCof [(C0, ["word", "at"])])) g18 (cf [] l18 []) 20 := by
  obtain ⟨f, fd, d⟩ := D.d_laying_fault
  exact ((m17 t e zb D).up (by decide)).more (d.ok (W := (wd1 K t (eCof [(C0, ["word", "at"])]))) (m17 t e zb D) sc_laying_fault cp_laying_fault) rfl (by decide +kernel)
theorem m19 (t : Addr) (e : Errs K mg C0) (zb : ∀ x ∈ bltNames, mg x = none) (D : Defs K mg) : Md P w K mg base (wd1 K t (eCof [(C0, ["word", "at"])])) g19 (cf [] l19 []) 21 := by
  obtain ⟨f, fd, d⟩ := D.d_lot_of_boxes
  exact ((m18 t e zb D).up (by decide)).more (d.ok (W := (wd1 K t (eCof [(C0, ["word", "at"])]))) (m18 t e zb D) sc_lot_of_boxes cp_lot_of_boxes) rfl (by decide +kernel)
theorem m20 (t : Addr) (e : Errs K mg C0) (zb : ∀ x ∈ bltNames, mg x = none) (D : Defs K mg) : Md P w K mg base (wd1 K t (eCof [(C0, ["word", "at"])])) g20 (cf [] l20 []) 22 := by
  obtain ⟨f, fd, d⟩ := D.d_lets_laying
  exact ((m19 t e zb D).up (by decide)).more (d.ok (W := (wd1 K t (eCof [(C0, ["word", "at"])]))) (m19 t e zb D) sc_lets_laying cp_lets_laying) rfl (by decide +kernel)
theorem m21 (t : Addr) (e : Errs K mg C0) (zb : ∀ x ∈ bltNames, mg x = none) (D : Defs K mg) : Md P w K mg base (wd1 K t (eCof [(C0, ["word", "at"])])) g21 (cf [] l21 []) 23 := by
  obtain ⟨f, fd, d⟩ := D.d__law_pick
  exact ((m20 t e zb D).up (by decide)).more (d.ok (W := (wd1 K t (eCof [(C0, ["word", "at"])]))) (m20 t e zb D) sc__law_pick cp__law_pick) rfl (by decide +kernel)
theorem m22 (t : Addr) (e : Errs K mg C0) (zb : ∀ x ∈ bltNames, mg x = none) (D : Defs K mg) : Md P w K mg base (wd1 K t (eCof [(C0, ["word", "at"])])) g22 (cf [] l22 []) 24 := by
  obtain ⟨f, fd, d⟩ := D.d__law_big
  exact ((m21 t e zb D).up (by decide)).more (d.ok (W := (wd1 K t (eCof [(C0, ["word", "at"])]))) (m21 t e zb D) sc__law_big cp__law_big) rfl (by decide +kernel)
theorem m23 (t : Addr) (e : Errs K mg C0) (zb : ∀ x ∈ bltNames, mg x = none) (D : Defs K mg) : Md P w K mg base (wd1 K t (eCof [(C0, ["word", "at"])])) g23 (cf [] l23 []) 25 := by
  obtain ⟨f, fd, d⟩ := D.d__law_row
  exact ((m22 t e zb D).up (by decide)).more (d.ok (W := (wd1 K t (eCof [(C0, ["word", "at"])]))) (m22 t e zb D) sc__law_row cp__law_row) rfl (by decide +kernel)
theorem m24 (t : Addr) (e : Errs K mg C0) (zb : ∀ x ∈ bltNames, mg x = none) (D : Defs K mg) : Md P w K mg base (wd1 K t (eCof [(C0, ["word", "at"])])) g24 (cf [] l24 []) 26 := by
  obtain ⟨f, fd, d⟩ := D.d__law_stock
  exact ((m23 t e zb D).up (by decide)).more (d.ok (W := (wd1 K t (eCof [(C0, ["word", "at"])]))) (m23 t e zb D) sc__law_stock cp__law_stock) rfl (by decide +kernel)
theorem m25 (t : Addr) (e : Errs K mg C0) (zb : ∀ x ∈ bltNames, mg x = none) (D : Defs K mg) : Md P w K mg base (wd1 K t (eCof [(C0, ["word", "at"])])) g25 (cf [] l25 []) 27 := by
  obtain ⟨f, fd, d⟩ := D.d__law_span
  exact ((m24 t e zb D).up (by decide)).more (d.ok (W := (wd1 K t (eCof [(C0, ["word", "at"])]))) (m24 t e zb D) sc__law_span cp__law_span) rfl (by decide +kernel)
theorem m26 (t : Addr) (e : Errs K mg C0) (zb : ∀ x ∈ bltNames, mg x = none) (D : Defs K mg) : Md P w K mg base (wd1 K t (eCof [(C0, ["word", "at"])])) g26 (cf [] l26 []) 28 := by
  obtain ⟨f, fd, d⟩ := D.d__law_box
  exact ((m25 t e zb D).up (by decide)).more (d.ok (W := (wd1 K t (eCof [(C0, ["word", "at"])]))) (m25 t e zb D) sc__law_box cp__law_box) rfl (by decide +kernel)
theorem m27 (t : Addr) (e : Errs K mg C0) (zb : ∀ x ∈ bltNames, mg x = none) (D : Defs K mg) : Md P w K mg base (wd1 K t (eCof [(C0, ["word", "at"])])) g27 (cf [] l27 []) 29 := by
  obtain ⟨f, fd, d⟩ := D.d__law_number
  exact ((m26 t e zb D).up (by decide)).more (d.ok (W := (wd1 K t (eCof [(C0, ["word", "at"])]))) (m26 t e zb D) sc__law_number cp__law_number) rfl (by decide +kernel)
theorem m28 (t : Addr) (e : Errs K mg C0) (zb : ∀ x ∈ bltNames, mg x = none) (D : Defs K mg) : Md P w K mg base (wd1 K t (eCof [(C0, ["word", "at"])])) g28 (cf [] l28 []) 30 := by
  obtain ⟨f, fd, d⟩ := D.d__law_formed
  exact ((m27 t e zb D).up (by decide)).more (d.ok (W := (wd1 K t (eCof [(C0, ["word", "at"])]))) (m27 t e zb D) sc__law_formed cp__law_formed) rfl (by decide +kernel)
theorem m29 (t : Addr) (e : Errs K mg C0) (zb : ∀ x ∈ bltNames, mg x = none) (D : Defs K mg) : Md P w K mg base (wd1 K t (eCof [(C0, ["word", "at"])])) g29 (cf [] l29 []) 31 := by
  obtain ⟨f, fd, d⟩ := D.d__law_within
  exact ((m28 t e zb D).up (by decide)).more (d.ok (W := (wd1 K t (eCof [(C0, ["word", "at"])]))) (m28 t e zb D) sc__law_within cp__law_within) rfl (by decide +kernel)
theorem m30 (t : Addr) (e : Errs K mg C0) (zb : ∀ x ∈ bltNames, mg x = none) (D : Defs K mg) : Md P w K mg base (wd1 K t (eCof [(C0, ["word", "at"])])) g30 (cf [] l30 []) 32 := by
  obtain ⟨f, fd, d⟩ := D.d__law_common
  exact ((m29 t e zb D).up (by decide)).more (d.ok (W := (wd1 K t (eCof [(C0, ["word", "at"])]))) (m29 t e zb D) sc__law_common cp__law_common) rfl (by decide +kernel)
theorem m31 (t : Addr) (e : Errs K mg C0) (zb : ∀ x ∈ bltNames, mg x = none) (D : Defs K mg) : Md P w K mg base (wd1 K t (eCof [(C0, ["word", "at"])])) g31 (cf [] l31 []) 33 := by
  obtain ⟨f, fd, d⟩ := D.d__law_meet
  exact ((m30 t e zb D).up (by decide)).more (d.ok (W := (wd1 K t (eCof [(C0, ["word", "at"])]))) (m30 t e zb D) sc__law_meet cp__law_meet) rfl (by decide +kernel)
theorem m32 (t : Addr) (e : Errs K mg C0) (zb : ∀ x ∈ bltNames, mg x = none) (D : Defs K mg) : Md P w K mg base (wd1 K t (eCof [(C0, ["word", "at"])])) g32 (cf [] l32 []) 34 := by
  obtain ⟨f, fd, d⟩ := D.d__law_counts
  exact ((m31 t e zb D).up (by decide)).more (d.ok (W := (wd1 K t (eCof [(C0, ["word", "at"])]))) (m31 t e zb D) sc__law_counts cp__law_counts) rfl (by decide +kernel)
theorem m33 (t : Addr) (e : Errs K mg C0) (zb : ∀ x ∈ bltNames, mg x = none) (D : Defs K mg) : Md P w K mg base (wd1 K t (eCof [(C0, ["word", "at"])])) g33 (cf [] l33 []) 35 := by
  obtain ⟨f, fd, d⟩ := D.d__law_due
  exact ((m32 t e zb D).up (by decide)).more (d.ok (W := (wd1 K t (eCof [(C0, ["word", "at"])]))) (m32 t e zb D) sc__law_due cp__law_due) rfl (by decide +kernel)
theorem m33k (t : Addr) (e : Errs K mg C0) (zb : ∀ x ∈ bltNames, mg x = none) (D : Defs K mg) : Md P w K mg base (wd1 K t (eCof [(C0, ["word", "at"])])) g33 (cf [] l33 kwL) 35 := by
  refine (m33 t e zb D).kws fun x n ks i perm h => ?_
  unfold kwL at h
  unfold kwOf at h
  split at h
  · rename_i q
    cases h
    cases q
    obtain ⟨f, fd, d⟩ := D.d_lets_laying
    exact ⟨_, rfl, d.kw (W := (wd1 K t (eCof [(C0, ["word", "at"])]))) (m19 t e zb D) sc_lets_laying cp_lets_laying (by decide) fun _ _ _ _ _ _ us ws h1 h2 => match us, ws, h1, h2 with | [], [_, _, _], _, _ => rfl⟩
  cases h
theorem m34 (t : Addr) (e : Errs K mg C0) (zb : ∀ x ∈ bltNames, mg x = none) (D : Defs K mg) : Md P w K mg base (wd1 K t (eCof [(C0, ["word", "at"])])) g34 (cf [] l34 kwL) 36 := by
  obtain ⟨f, fd, d⟩ := D.d__law_answer
  exact ((m33k t e zb D).up (by decide)).more (d.ok (W := (wd1 K t (eCof [(C0, ["word", "at"])]))) (m33k t e zb D) sc__law_answer cp__law_answer) rfl (by decide +kernel)
theorem m35 (t : Addr) (e : Errs K mg C0) (zb : ∀ x ∈ bltNames, mg x = none) (D : Defs K mg) : Md P w K mg base (wd1 K t (eCof [(C0, ["word", "at"])])) g35 (cf [] l35 kwL) 37 := by
  obtain ⟨f, fd, d⟩ := D.d__law_laying
  exact ((m34 t e zb D).up (by decide)).more (d.ok (W := (wd1 K t (eCof [(C0, ["word", "at"])]))) (m34 t e zb D) sc__law_laying cp__law_laying) rfl (by decide +kernel)
theorem m36 (t : Addr) (e : Errs K mg C0) (zb : ∀ x ∈ bltNames, mg x = none) (D : Defs K mg) : Md P w K mg base (wd1 K t (eCof [(C0, ["word", "at"])])) g36 (cf [] l36 kwL) 38 := by
  obtain ⟨f, fd, d⟩ := D.d__law_over
  exact ((m35 t e zb D).up (by decide)).more (d.ok (W := (wd1 K t (eCof [(C0, ["word", "at"])]))) (m35 t e zb D) sc__law_over cp__law_over) rfl (by decide +kernel)
theorem m37 (t : Addr) (e : Errs K mg C0) (zb : ∀ x ∈ bltNames, mg x = none) (D : Defs K mg) : Md P w K mg base (wd1 K t (eCof [(C0, ["word", "at"])])) g37 (cf [] l37 kwL) 39 := by
  obtain ⟨f, fd, d⟩ := D.d__law_beside
  exact ((m36 t e zb D).up (by decide)).more (d.ok (W := (wd1 K t (eCof [(C0, ["word", "at"])]))) (m36 t e zb D) sc__law_beside cp__law_beside) rfl (by decide +kernel)
theorem m38 (t : Addr) (e : Errs K mg C0) (zb : ∀ x ∈ bltNames, mg x = none) (D : Defs K mg) : Md P w K mg base (wd1 K t (eCof [(C0, ["word", "at"])])) g38 (cf [] l38 kwL) 40 := by
  obtain ⟨f, fd, d⟩ := D.d__law_strange
  exact ((m37 t e zb D).up (by decide)).more (d.ok (W := (wd1 K t (eCof [(C0, ["word", "at"])]))) (m37 t e zb D) sc__law_strange cp__law_strange) rfl (by decide +kernel)
theorem m39 (t : Addr) (e : Errs K mg C0) (zb : ∀ x ∈ bltNames, mg x = none) (D : Defs K mg) : Md P w K mg base (wd1 K t (eCof [(C0, ["word", "at"])])) g39 (cf [] l39 kwL) 41 := by
  obtain ⟨f, fd, d⟩ := D.d__law_bent
  exact ((m38 t e zb D).up (by decide)).more (d.ok (W := (wd1 K t (eCof [(C0, ["word", "at"])]))) (m38 t e zb D) sc__law_bent cp__law_bent) rfl (by decide +kernel)
def poolE : Expr := match defBody st_law with
  | .Assign _ e _ :: _ => e
  | _ => .Constant .none 0 ⟨0, 0, 0, 0⟩
def poolI : IEs := (IEs.cons (IE.c (D.int 0)) (IEs.cons (IE.c (D.int 0)) (IEs.cons (IE.c (D.int 60013)) IEs.nil)))
theorem pool_cp : comp (cf N_law [] []) 200 (defScope st_law) (defScope st_law) poolE = some (.lst poolI) := by kernel_rfl
theorem pool_ev (ρ : Env) : @evE SL slOps [] false (.lst poolI) ρ [] = .ok (.lst (([0, 0, 60013] : List Int).map D.int)) [] := by
  simp [poolI]
theorem rest_is : ∃ p1 p5, defBody st_law = .Assign [.Name "_law_feed" p1] poolE p5 :: (defBody st_law).tail := ⟨_, _, rfl⟩
theorem cp_law : compSs (cf N_law l39 kwL) 200 (defScope st_law) (defBody st_law).tail = some ir_rest := by kernel_rfl
theorem ok_law (e : Errs K mg C0) (zb : ∀ x ∈ bltNames, mg x = none) (D : Defs K mg) : ∃ f fd, DefK K mg "law" st_law ["_law_script"] f fd ∧ FnG P w K mg base (L2.CX P w) 42 f fd ["_law_script"] (spLaw K) := by
  obtain ⟨f, fd, d⟩ := D.d_law
  obtain ⟨p1, p5, hb⟩ := rest_is
  exact ⟨f, fd, d, law_pool (k := 41) (eC := eCof [(C0, ["word", "at"])]) (c := cf [] l39 kwL) (n := 200) d.F sc_law hb rfl rfl (by decide +kernel) rfl (Md.up (k := 41) (md0 rfl rfl e zb) (by decide)) pool_cp pool_ev (fun t => m39 t e zb D) cp_law fun ns _ => rest_ok ns⟩
/-- what the row leaves to be shown of the top -/
theorem all_mk {h : Heap} {fa : Addr} (X : K.In h) (G : h.Ns mainGlobals mg) (hfa : mg "law" = some (.ref fa))
    (a_let : DefAt K "let" st_let)
    (a_merged : DefAt K "merged" st_merged)
    (a_is_integer : DefAt K "is_integer" st_is_integer)
    (a_is_number : DefAt K "is_number" st_is_number)
    (a_is_count : DefAt K "is_count" st_is_count)
    (a_is_index : DefAt K "is_index" st_is_index)
    (a_is_tuple_of : DefAt K "is_tuple_of" st_is_tuple_of)
    (a_is_span : DefAt K "is_span" st_is_span)
    (a_is_kind : DefAt K "is_kind" st_is_kind)
    (a_is_span_within : DefAt K "is_span_within" st_is_span_within)
    (a_is_box : DefAt K "is_box" st_is_box)
    (a_shares_of : DefAt K "shares_of" st_shares_of)
    (a_span_ground : DefAt K "span_ground" st_span_ground)
    (a_ground_in : DefAt K "ground_in" st_ground_in)
    (a_grounds_meet : DefAt K "grounds_meet" st_grounds_meet)
    (a_is_box_like : DefAt K "is_box_like" st_is_box_like)
    (a_first_meeting : DefAt K "first_meeting" st_first_meeting)
    (a_laying_fault : DefAt K "laying_fault" st_laying_fault)
    (a_lot_of_boxes : DefAt K "lot_of_boxes" st_lot_of_boxes)
    (a_lets_laying : DefAt K "lets_laying" st_lets_laying)
    (a__law_pick : DefAt K "_law_pick" st__law_pick)
    (a__law_big : DefAt K "_law_big" st__law_big)
    (a__law_row : DefAt K "_law_row" st__law_row)
    (a__law_stock : DefAt K "_law_stock" st__law_stock)
    (a__law_span : DefAt K "_law_span" st__law_span)
    (a__law_box : DefAt K "_law_box" st__law_box)
    (a__law_number : DefAt K "_law_number" st__law_number)
    (a__law_formed : DefAt K "_law_formed" st__law_formed)
    (a__law_within : DefAt K "_law_within" st__law_within)
    (a__law_common : DefAt K "_law_common" st__law_common)
    (a__law_meet : DefAt K "_law_meet" st__law_meet)
    (a__law_counts : DefAt K "_law_counts" st__law_counts)
    (a__law_due : DefAt K "_law_due" st__law_due)
    (a__law_answer : DefAt K "_law_answer" st__law_answer)
    (a__law_laying : DefAt K "_law_laying" st__law_laying)
    (a__law_over : DefAt K "_law_over" st__law_over)
    (a__law_beside : DefAt K "_law_beside" st__law_beside)
    (a__law_strange : DefAt K "_law_strange" st__law_strange)
    (a__law_bent : DefAt K "_law_bent" st__law_bent)
    (a_law : DefAt K "law" st_law)
    (e_0 : ErrT K "InvalidPaper" "InvalidPaper.__init__" ["word", "at"] stI_0 C0)
    (zb : ∀ x ∈ bltNames, PySem.W.nsIn K mainGlobals x = some none) :
    ∃ fd : FuncData, (∀ (s : Shared) (v : Value), BindsTo s fd ⟨[v], []⟩ [("_law_script", v)]) ∧ ∀ base : Heap, K.In base → base.Ns mainGlobals mg → FnG P w K mg base (L2.CX P w) 42 fa fd ["_law_script"] (spLaw K) := by
  have e : Errs K mg C0 := ⟨e_0.k mg (PySem.W.mg_of X G e_0.a)⟩
  have D : Defs K mg := ⟨a_let.dk X G fun _ _ _ _ _ _ us hl => match us, hl with | [_], _ => rfl, a_merged.dk X G fun _ _ _ _ _ _ us hl => match us, hl with | [_], _ => rfl, a_is_integer.dk X G fun _ _ _ _ _ _ us hl => match us, hl with | [_], _ => rfl, a_is_number.dk X G fun _ _ _ _ _ _ us hl => match us, hl with | [_], _ => rfl, a_is_count.dk X G fun _ _ _ _ _ _ us hl => match us, hl with | [_], _ => rfl, a_is_index.dk X G fun _ _ _ _ _ _ us hl => match us, hl with | [_, _], _ => rfl, a_is_tuple_of.dk X G fun _ _ _ _ _ _ us hl => match us, hl with | [_, _], _ => rfl, a_is_span.dk X G fun _ _ _ _ _ _ us hl => match us, hl with | [_], _ => rfl, a_is_kind.dk X G fun _ _ _ _ _ _ us hl => match us, hl with | [_, _], _ => rfl, a_is_span_within.dk X G fun _ _ _ _ _ _ us hl => match us, hl with | [_, _], _ => rfl, a_is_box.dk X G fun _ _ _ _ _ _ us hl => match us, hl with | [_, _, _], _ => rfl, a_shares_of.dk X G fun _ _ _ _ _ _ us hl => match us, hl with | [_], _ => rfl, a_span_ground.dk X G fun _ _ _ _ _ _ us hl => match us, hl with | [_, _], _ => rfl, a_ground_in.dk X G fun _ _ _ _ _ _ us hl => match us, hl with | [_, _], _ => rfl, a_grounds_meet.dk X G fun _ _ _ _ _ _ us hl => match us, hl with | [_, _], _ => rfl, a_is_box_like.dk X G fun _ _ _ _ _ _ us hl => match us, hl with | [_, _], _ => rfl, a_first_meeting.dk X G fun _ _ _ _ _ _ us hl => match us, hl with | [_, _], _ => rfl, a_laying_fault.dk X G fun _ _ _ _ _ _ us hl => match us, hl with | [_, _, _], _ => rfl, a_lot_of_boxes.dk X G fun _ _ _ _ _ _ us hl => match us, hl with | [_], _ => rfl, a_lets_laying.dk X G fun _ _ _ _ _ _ us hl => match us, hl with | [_, _, _], _ => rfl, a__law_pick.dk X G fun _ _ _ _ _ _ us hl => match us, hl with | [_, _, _], _ => rfl, a__law_big.dk X G fun _ _ _ _ _ _ us hl => match us, hl with | [_, _, _], _ => rfl, a__law_row.dk X G fun _ _ _ _ _ _ us hl => match us, hl with | [_, _, _], _ => rfl, a__law_stock.dk X G fun _ _ _ _ _ _ us hl => match us, hl with | [_, _, _, _], _ => rfl, a__law_span.dk X G fun _ _ _ _ _ _ us hl => match us, hl with | [_, _, _], _ => rfl, a__law_box.dk X G fun _ _ _ _ _ _ us hl => match us, hl with | [_, _, _, _], _ => rfl, a__law_number.dk X G fun _ _ _ _ _ _ us hl => match us, hl with | [_], _ => rfl, a__law_formed.dk X G fun _ _ _ _ _ _ us hl => match us, hl with | [_, _], _ => rfl, a__law_within.dk X G fun _ _ _ _ _ _ us hl => match us, hl with | [_, _, _], _ => rfl, a__law_common.dk X G fun _ _ _ _ _ _ us hl => match us, hl with | [_, _, _, _], _ => rfl, a__law_meet.dk X G fun _ _ _ _ _ _ us hl => match us, hl with | [_, _, _], _ => rfl, a__law_counts.dk X G fun _ _ _ _ _ _ us hl => match us, hl with | [_], _ => rfl, a__law_due.dk X G fun _ _ _ _ _ _ us hl => match us, hl with | [_, _, _], _ => rfl, a__law_answer.dk X G fun _ _ _ _ _ _ us hl => match us, hl with | [_, _, _, _], _ => rfl, a__law_laying.dk X G fun _ _ _ _ _ _ us hl => match us, hl with | [_, _, _, _, _], _ => rfl, a__law_over.dk X G fun _ _ _ _ _ _ us hl => match us, hl with | [_, _, _, _, _], _ => rfl, a__law_beside.dk X G fun _ _ _ _ _ _ us hl => match us, hl with | [_, _, _], _ => rfl, a__law_strange.dk X G fun _ _ _ _ _ _ us hl => match us, hl with | [_, _, _, _, _], _ => rfl, a__law_bent.dk X G fun _ _ _ _ _ _ us hl => match us, hl with | [_, _, _, _, _], _ => rfl, a_law.dk X G fun _ _ _ _ _ _ us hl => match us, hl with | [_], _ => rfl⟩
  have zm : ∀ x ∈ bltNames, mg x = none := fun x hx => PySem.W.mg_none_of X G (zb x hx)
  obtain ⟨f, fd, d⟩ := D.d_law
  have ef := hfa.symm.trans d.m
  cases ef
  refine ⟨fd, fun s v => ?_, fun base _ _ => ?_⟩
  · obtain ⟨oc, od, kV, doc, pm, an, cdv, ct, osl, rfl, lk, hcd⟩ := d.F.ex
    exact .of_eq rfl
  · obtain ⟨f2, fd2, d2, hF⟩ := ok_law (P := P) (w := w) (base := base) e zm D
    have e1 := d2.m.symm.trans d.m
    cases e1
    obtain ⟨oc, od, kV, doc, pm, an, cdv, ct, osl, rfl, lk, hcd⟩ := d.F.ex
    obtain ⟨oc2, od2, kV2, doc2, pm2, an2, cdv2, ct2, osl2, rfl, lk2, hcd2⟩ := d2.F.ex
    rw [lk] at lk2
    cases lk2
    exact hF
end K20
end Ev
end
set_option Elab.async false
set_option linter.all false
open PySem PySem.W PyProof.Rows
set_option maxRecDepth 100000 in
set_option maxHeartbeats 0 in
theorem PySem.Challenge.cw_onesheetmore_k20_whole_checker_of_laying_holds : PySem.Challenge.rw_onesheetmore_k20_whole_checker_of_laying.Holds := by
  w_on; o_law; k_head; (case hw => w_witness2)
  k_fill
  refine Ev.law_walk (x := "_law_script") (l := PySem.Challenge.rw_onesheetmore_k20_whole_checker_of_laying) 42 rfl rfl ⟨rfl, by decide, by decide⟩ ?hNL (fun w h Y => PySem.W.kIn_of Y) ?hF
  case hNL =>
    intro p
    rfl
  case hF =>
    intro w mg fa h KX G hmg
    refine' Ev.K20.all_mk KX G hmg ?d0 ?d1 ?d2 ?d3 ?d4 ?d5 ?d6 ?d7 ?d8 ?d9 ?d10 ?d11 ?d12 ?d13 ?d14 ?d15 ?d16 ?d17 ?d18 ?d19 ?d20 ?d21 ?d22 ?d23 ?d24 ?d25 ?d26 ?d27 ?d28 ?d29 ?d30 ?d31 ?d32 ?d33 ?d34 ?d35 ?d36 ?d37 ?d38 ?d39 ?zg0 ?zb
    (case d0 => (refine' Ev.defAt_mk ?qa ?ql ?qc ?qk; (case qa => k_is); (case ql => k_is); (case qc => k_is); (case qk => k_is)))
    (case d1 => (refine' Ev.defAt_mk ?qa ?ql ?qc ?qk; (case qa => k_is); (case ql => k_is); (case qc => k_is); (case qk => k_is)))
    (case d2 => (refine' Ev.defAt_mk ?qa ?ql ?qc ?qk; (case qa => k_is); (case ql => k_is); (case qc => k_is); (case qk => k_is)))
    (case d3 => (refine' Ev.defAt_mk ?qa ?ql ?qc ?qk; (case qa => k_is); (case ql => k_is); (case qc => k_is); (case qk => k_is)))
    (case d4 => (refine' Ev.defAt_mk ?qa ?ql ?qc ?qk; (case qa => k_is); (case ql => k_is); (case qc => k_is); (case qk => k_is)))
    (case d5 => (refine' Ev.defAt_mk ?qa ?ql ?qc ?qk; (case qa => k_is); (case ql => k_is); (case qc => k_is); (case qk => k_is)))
    (case d6 => (refine' Ev.defAt_mk ?qa ?ql ?qc ?qk; (case qa => k_is); (case ql => k_is); (case qc => k_is); (case qk => k_is)))
    (case d7 => (refine' Ev.defAt_mk ?qa ?ql ?qc ?qk; (case qa => k_is); (case ql => k_is); (case qc => k_is); (case qk => k_is)))
    (case d8 => (refine' Ev.defAt_mk ?qa ?ql ?qc ?qk; (case qa => k_is); (case ql => k_is); (case qc => k_is); (case qk => k_is)))
    (case d9 => (refine' Ev.defAt_mk ?qa ?ql ?qc ?qk; (case qa => k_is); (case ql => k_is); (case qc => k_is); (case qk => k_is)))
    (case d10 => (refine' Ev.defAt_mk ?qa ?ql ?qc ?qk; (case qa => k_is); (case ql => k_is); (case qc => k_is); (case qk => k_is)))
    (case d11 => (refine' Ev.defAt_mk ?qa ?ql ?qc ?qk; (case qa => k_is); (case ql => k_is); (case qc => k_is); (case qk => k_is)))
    (case d12 => (refine' Ev.defAt_mk ?qa ?ql ?qc ?qk; (case qa => k_is); (case ql => k_is); (case qc => k_is); (case qk => k_is)))
    (case d13 => (refine' Ev.defAt_mk ?qa ?ql ?qc ?qk; (case qa => k_is); (case ql => k_is); (case qc => k_is); (case qk => k_is)))
    (case d14 => (refine' Ev.defAt_mk ?qa ?ql ?qc ?qk; (case qa => k_is); (case ql => k_is); (case qc => k_is); (case qk => k_is)))
    (case d15 => (refine' Ev.defAt_mk ?qa ?ql ?qc ?qk; (case qa => k_is); (case ql => k_is); (case qc => k_is); (case qk => k_is)))
    (case d16 => (refine' Ev.defAt_mk ?qa ?ql ?qc ?qk; (case qa => k_is); (case ql => k_is); (case qc => k_is); (case qk => k_is)))
    (case d17 => (refine' Ev.defAt_mk ?qa ?ql ?qc ?qk; (case qa => k_is); (case ql => k_is); (case qc => k_is); (case qk => k_is)))
    (case d18 => (refine' Ev.defAt_mk ?qa ?ql ?qc ?qk; (case qa => k_is); (case ql => k_is); (case qc => k_is); (case qk => k_is)))
    (case d19 => (refine' Ev.defAt_mk ?qa ?ql ?qc ?qk; (case qa => k_is); (case ql => k_is); (case qc => k_is); (case qk => k_is)))
    (case d20 => (refine' Ev.defAt_mk ?qa ?ql ?qc ?qk; (case qa => k_is); (case ql => k_is); (case qc => k_is); (case qk => k_is)))
    (case d21 => (refine' Ev.defAt_mk ?qa ?ql ?qc ?qk; (case qa => k_is); (case ql => k_is); (case qc => k_is); (case qk => k_is)))
    (case d22 => (refine' Ev.defAt_mk ?qa ?ql ?qc ?qk; (case qa => k_is); (case ql => k_is); (case qc => k_is); (case qk => k_is)))
    (case d23 => (refine' Ev.defAt_mk ?qa ?ql ?qc ?qk; (case qa => k_is); (case ql => k_is); (case qc => k_is); (case qk => k_is)))
    (case d24 => (refine' Ev.defAt_mk ?qa ?ql ?qc ?qk; (case qa => k_is); (case ql => k_is); (case qc => k_is); (case qk => k_is)))
    (case d25 => (refine' Ev.defAt_mk ?qa ?ql ?qc ?qk; (case qa => k_is); (case ql => k_is); (case qc => k_is); (case qk => k_is)))
    (case d26 => (refine' Ev.defAt_mk ?qa ?ql ?qc ?qk; (case qa => k_is); (case ql => k_is); (case qc => k_is); (case qk => k_is)))
    (case d27 => (refine' Ev.defAt_mk ?qa ?ql ?qc ?qk; (case qa => k_is); (case ql => k_is); (case qc => k_is); (case qk => k_is)))
    (case d28 => (refine' Ev.defAt_mk ?qa ?ql ?qc ?qk; (case qa => k_is); (case ql => k_is); (case qc => k_is); (case qk => k_is)))
    (case d29 => (refine' Ev.defAt_mk ?qa ?ql ?qc ?qk; (case qa => k_is); (case ql => k_is); (case qc => k_is); (case qk => k_is)))
    (case d30 => (refine' Ev.defAt_mk ?qa ?ql ?qc ?qk; (case qa => k_is); (case ql => k_is); (case qc => k_is); (case qk => k_is)))
    (case d31 => (refine' Ev.defAt_mk ?qa ?ql ?qc ?qk; (case qa => k_is); (case ql => k_is); (case qc => k_is); (case qk => k_is)))
    (case d32 => (refine' Ev.defAt_mk ?qa ?ql ?qc ?qk; (case qa => k_is); (case ql => k_is); (case qc => k_is); (case qk => k_is)))
    (case d33 => (refine' Ev.defAt_mk ?qa ?ql ?qc ?qk; (case qa => k_is); (case ql => k_is); (case qc => k_is); (case qk => k_is)))
    (case d34 => (refine' Ev.defAt_mk ?qa ?ql ?qc ?qk; (case qa => k_is); (case ql => k_is); (case qc => k_is); (case qk => k_is)))
    (case d35 => (refine' Ev.defAt_mk ?qa ?ql ?qc ?qk; (case qa => k_is); (case ql => k_is); (case qc => k_is); (case qk => k_is)))
    (case d36 => (refine' Ev.defAt_mk ?qa ?ql ?qc ?qk; (case qa => k_is); (case ql => k_is); (case qc => k_is); (case qk => k_is)))
    (case d37 => (refine' Ev.defAt_mk ?qa ?ql ?qc ?qk; (case qa => k_is); (case ql => k_is); (case qc => k_is); (case qk => k_is)))
    (case d38 => (refine' Ev.defAt_mk ?qa ?ql ?qc ?qk; (case qa => k_is); (case ql => k_is); (case qc => k_is); (case qk => k_is)))
    (case d39 => (refine' Ev.defAt_mk ?qa ?ql ?qc ?qk; (case qa => k_is); (case ql => k_is); (case qc => k_is); (case qk => k_is)))
    case zg0 =>
      refine' Ev.err_mk ?aC ?xL ?rf ?sa ?ex ?ty ?kc ?ga ?gg ?hd ?no ?i1 ?t1 ?l1 ?c1 ?k1 ?bI ?em ?ha ?hn ?ht ?hm
      (case aC => k_is); (case xL => k_is); (case rf => decide +kernel); (case sa => k_is); (case ex => k_is); (case ty => k_is); (case kc => k_is); (case ga => k_is); (case gg => k_is); (case hd => k_is)
      (case no => first | rfl | decide +kernel | k_is); (case i1 => k_is); (case t1 => k_is); (case l1 => k_is); (case c1 => k_is); (case k1 => k_is)
      (case bI => exact fun us hl => match us, hl with | [_, _, _], _ => rfl)
      (case em => refine' Ev.exm_two ?e1 ?e2 ?e3 ?e4; (case e1 => k_is); (case e2 => k_is); (case e3 => k_is); (case e4 => first | rfl | k_is))
      (case ha => k_is); (case hn => first | rfl | k_is); (case ht => first | rfl | k_is); (case hm => first | rfl | k_is)
    case zb =>
      intro x hx
      simp only [Ev.bltNames, List.mem_cons, List.not_mem_nil, or_false] at hx
      rcases hx with rfl | rfl | rfl | rfl | rfl | rfl | rfl | rfl | rfl | rfl | rfl | rfl | rfl | rfl | rfl | rfl | rfl | rfl | rfl | rfl <;> k_is

