import PyProof.Rows.All
import PySem.PyData
import HandS.ForMost
import HandS.ForExc
import HandS.TupAny
import HandS.IsInst
import HandS.Deep
import HandS.TupMul
import KE.KTupSum
import HandS.WordsDict
import HandS.Zip
import KE.GoesEnum
import KE.GoesZip
import KE.GoesMore
import HandS.Flt
import HandS.Conv
import KE.DatumOrd
import HandS.Style
import HandS.SortInts
import KE.DataFind
import HandS.DictComp
import HandS.TupSets
import HandS.Iter
import HandS.Gcd
import HandS.SortKw
import HandS.DictTup
import HandS.ExcIs
import PyProof.DictStraight
import KE.SortData
import HandS.SortOrd
import HandS.ExcInit
import HandS.ExcField
import HandS.FStr
import KE.KExcIs
import KE.DatumIndex
import KE.DataMinMax
import HandS.SetKeys
import PyProof.DictMoreH
import PyProof.ListMulRight
import KE.DataMinKey
import HandS.TryOnly
import KE.KDictSum
import KE.KDictCopyH
import KE.KDictWalk
import HandS.TupLen
import PySem.Challenge.RW_rateflows_k16_whole_all_tokens_that_come
/-! The plain reading of a program: values without a heap, what an expression, a statement, a def gives. -/
set_option linter.all false
namespace J
open PySem (Str)
abbrev Ky := Sum Int Str
/-- a value: data, or the place of an object that may change -/
inductive D where
  | non | bl (b : Bool) | int (i : Int) | str (x : Str) | ty (n : String)
  | tup (ds : List D) | lst (ds : List D) | rdl (ds : List D) | dct (ks : List Ky) (ds : List D)
  | dcT (ks : List (List Ky)) (ds : List D)
  | tuk (ds : List D)
  | loc (n : Nat)
instance : Inhabited D := ⟨.non⟩
abbrev Env := List (Option D)
/-- an end: a value and the store; an exception; nothing is known -/
inductive R (α : Type) where
  | ok (a : α) (S : List D)
  | exc (c : Str) (fs : List (Str × D)) (S : List D)
  | bad
inductive O where
  | nx (E : Env) (S : List D)
  | rt (d : D) (S : List D)
  | bk (E : Env) (S : List D)
  | ct (E : Env) (S : List D)
  | exc (c : Str) (fs : List (Str × D)) (E : Env) (S : List D)
  | bad
abbrev ME := Env → List D → R D
abbrev MA := Env → List D → R (List D)
abbrev MT := Env → List D → R Bool
abbrev MS := Env → List D → O
abbrev MF := List D → List D → R D

mutual
/-- no place of an object within -/
def D.flat : D → Bool
  | .tup ds => D.flats ds
  | .lst ds => D.flats ds
  | .rdl ds => D.flats ds
  | .dct _ ds => D.flats ds
  | .dcT _ ds => D.flats ds
  | .tuk ds => D.flats ds
  | .loc _ => false
  | _ => true
def D.flats : List D → Bool
  | [] => true
  | d :: ds => d.flat && D.flats ds
end
mutual
def D.depth : D → Nat
  | .tup ds => D.depths ds + 1
  | .lst ds => D.depths ds + 1
  | .rdl ds => D.depths ds + 1
  | .dct _ ds => D.depths ds + 1
  | .dcT _ ds => D.depths ds + 1
  | .tuk ds => D.depths ds + 1
  | _ => 0
def D.depths : List D → Nat
  | [] => 0
  | d :: ds => max d.depth (D.depths ds)
end
mutual
/-- == of data -/
def D.eqB : D → D → Bool
  | .non, .non => true
  | .bl a, .bl b => a == b
  | .bl a, .int j => (if a then 1 else 0) == j
  | .int i, .bl b => i == (if b then 1 else 0)
  | .int i, .int j => i == j
  | .str x, .str y => x == y
  | .tup xs, .tup ys => D.eqBs xs ys
  | .lst xs, .lst ys => D.eqBs xs ys
  | .rdl xs, .lst ys => D.eqBs xs ys
  | .lst xs, .rdl ys => D.eqBs xs ys
  | .rdl xs, .rdl ys => D.eqBs xs ys
  | _, _ => false
def D.eqBs : List D → List D → Bool
  | [], [] => true
  | x :: xs, y :: ys => x.eqB y && D.eqBs xs ys
  | _, _ => false
end
mutual
/-- what == can be asked of -/
def D.cmpb : D → Bool
  | .tup ds => D.cmpbs ds
  | .lst ds => D.cmpbs ds
  | .rdl ds => D.cmpbs ds
  | .dct _ _ => false
  | .dcT _ _ => false
  | .tuk _ => false
  | .loc _ => false
  | .ty _ => false
  | .str x => x.cps.all (· < 1114112)
  | .non => true
  | .bl _ => true
  | .int _ => true
def D.cmpbs : List D → Bool
  | [] => true
  | d :: ds => d.cmpb && D.cmpbs ds
end

/-! ### ends in a row -/
def R.bind {α β : Type} (r : R α) (k : α → List D → R β) : R β := match r with
  | .ok a S => k a S
  | .exc c fs S => .exc c fs S
  | .bad => .bad
def R.toO (r : R D) (E : Env) (k : D → List D → O) : O := match r with
  | .ok a S => k a S
  | .exc c fs S => .exc c fs E S
  | .bad => .bad
def R.tO (r : R Bool) (E : Env) (k : Bool → List D → O) : O := match r with
  | .ok a S => k a S
  | .exc c fs S => .exc c fs E S
  | .bad => .bad
@[simp] theorem bind_ok {α β : Type} (a : α) (S : List D) (k : α → List D → R β) : (R.ok a S).bind k = k a S := id rfl
@[simp] theorem toO_ok (a : D) (S : List D) (E : Env) (k : D → List D → O) : (R.ok a S).toO E k = k a S := id rfl
@[simp] theorem tO_ok (a : Bool) (S : List D) (E : Env) (k : Bool → List D → O) : (R.ok a S).tO E k = k a S := id rfl
def onBl {α : Type} (d : D) (k : Bool → R α) : R α := match d with
  | .bl c => k c
  | _ => .bad
@[simp] theorem onBl_bl {α : Type} (c : Bool) (k : Bool → R α) : onBl (.bl c) k = k c := id rfl
/-- the greatest length of a list, of a text -/
def SL : Nat := 16777216

/-! ### what is in a value -/
/-- the items of a list (not one that is only read) -/
def lstOf (S : List D) : D → Option (List D)
  | .lst ds => some ds
  | .loc n => match S[n]? with
    | some (.lst ds) => some ds
    | _ => none
  | _ => none
/-- the items of a list or tuple -/
def seqOf (S : List D) : D → Option (List D)
  | .tup ds => some ds
  | .lst ds => some ds
  | .rdl ds => some ds
  | .loc n => match S[n]? with
    | some (.lst ds) => some ds
    | _ => none
  | _ => none
/-- data alone: the objects as they stand (one deep) -/
def seen (S : List D) : D → D
  | .loc n => match S[n]? with
    | some (.lst ds) => .lst ds
    | _ => .loc n
  | d => d
def keyOf : D → Option Ky
  | .int i => some (.inl i)
  | .str x => some (.inr x)
  | _ => none
/-- a key that is a tuple -/
def keysOf : List D → Option (List Ky)
  | [] => some []
  | d :: ds => match keyOf d, keysOf ds with
    | some k, some ks => some (k :: ks)
    | _, _ => none
def keyT : D → Option (List Ky)
  | .tup ds => keysOf ds
  | _ => none
def dctOf (S : List D) : D → Option (List Ky × List D)
  | .dct ks ds => some (ks, ds)
  | .loc n => match S[n]? with
    | some (.dct ks ds) => some (ks, ds)
    | _ => none
  | _ => none
/-- a place, from either end -/
def ixOf (n : Nat) (i : Int) : Option Nat := if 0 ≤ i then (if i < n then some i.toNat else none) else if -(n : Int) ≤ i then some (i + n).toNat else none
def atOf (xs : List D) (i : Int) : Option D := (ixOf xs.length i).bind fun j => xs[j]?

/-! ### expressions -/
def eVar (i : Nat) : ME := fun E S => match E[i]? with
  | some (some d) => .ok d S
  | _ => .bad
def eC (d : D) : ME := fun _ S => .ok d S
def eOp (f : D → D → List D → R D) (a b : ME) : ME := fun E S => (a E S).bind fun x S1 => (b E S1).bind fun y S2 => f x y S2
def eUn (f : D → List D → R D) (a : ME) : ME := fun E S => (a E S).bind fun x S1 => f x S1
def aNil : MA := fun _ S => .ok [] S
def aCons (a : ME) (r : MA) : MA := fun E S => (a E S).bind fun x S1 => (r E S1).bind fun xs S2 => .ok (x :: xs) S2
def eArgs (f : List D → List D → R D) (a : MA) : ME := fun E S => (a E S).bind fun xs S1 => f xs S1
def eIf (t : MT) (a b : ME) : ME := fun E S => (t E S).bind fun c S1 => if c = true then a E S1 else b E S1
def eAnd (a b : ME) : ME := fun E S => (a E S).bind fun x S1 => onBl x fun c => if c = true then b E S1 else .ok (.bl false) S1
def eOr (a b : ME) : ME := fun E S => (a E S).bind fun x S1 => onBl x fun c => if c = true then .ok (.bl true) S1 else b E S1
def eNot (a : ME) : ME := fun E S => (a E S).bind fun x S1 => onBl x fun c => .ok (.bl (!c)) S1
/-- a < b < c -/
def eChain (f h : D → D → List D → R D) (a b c : ME) : ME := fun E S => (a E S).bind fun x S1 => (b E S1).bind fun y S2 => (f x y S2).bind fun t S3 => onBl t fun k => if k = true then (c E S3).bind fun z S4 => h y z S4 else .ok (.bl false) S3
/-! tests -/
def tV (a : ME) : MT := fun E S => (a E S).bind fun x S1 => onBl x fun c => .ok c S1
def truth (S : List D) : D → Option Bool
  | .bl c => some c
  | .int i => some (i != 0)
  | .non => some false
  | .dct ks _ => some (!ks.isEmpty)
  | .tup ds => some (!ds.isEmpty)
  | .lst ds => some (!ds.isEmpty)
  | .rdl ds => some (!ds.isEmpty)
  | .loc n => match S[n]? with
    | some (.lst ds) => some (!ds.isEmpty)
    | some (.dct ks _) => some (!ks.isEmpty)
    | _ => none
  | _ => none
def tTr (a : ME) : MT := fun E S => (a E S).bind fun x S1 => match truth S1 x with
  | some c => .ok c S1
  | none => .bad
def tAnd (a b : MT) : MT := fun E S => (a E S).bind fun c S1 => if c = true then b E S1 else .ok false S1
def tOr (a b : MT) : MT := fun E S => (a E S).bind fun c S1 => if c = true then .ok true S1 else b E S1
def tNot (a : MT) : MT := fun E S => (a E S).bind fun c S1 => .ok (!c) S1
def tYes : MT := fun _ S => .ok true S

/-! ### operators by values -/
def oAdd : D → D → List D → R D
  | .int i, .int j, S => .ok (.int (i + j)) S
  | .tup xs, .tup ys, S => if xs.length + ys.length ≤ SL then .ok (.tup (xs ++ ys)) S else .bad
  | x, y, S => match lstOf S x, lstOf S y with
    | some xs, some ys => if xs.length + ys.length ≤ SL then .ok (.lst (xs ++ ys)) S else .bad
    | _, _ => .bad
def iAdd : D → D → List D → R D
  | .int i, .int j, S => .ok (.int (i + j)) S
  | _, _, _ => .bad
def oSub : D → D → List D → R D
  | .int i, .int j, S => .ok (.int (i - j)) S
  | _, _, _ => .bad
def smallI (i : Int) : Bool := decide (-(18446744073709551616) < i) && decide (i < 18446744073709551616)
def oMul : D → D → List D → R D
  | .int i, .int j, S => if smallI i = true ∨ smallI j = true then .ok (.int (i * j)) S else .bad
  | .tup xs, .int k, S => if xs ≠ [] ∧ 1 ≤ k ∧ k ≤ 1000 ∧ xs.length ≤ 1000 then .ok (.tup (List.replicate k.toNat xs).flatten) S else .bad
  | x, .int k, S => match lstOf S x with
    | some xs => if -9223372036854775808 ≤ k ∧ k < 9223372036854775808 ∧ xs.length * k.toNat ≤ SL then .ok (.lst (List.replicate k.toNat xs).flatten) S else .bad
    | none => .bad
  | _, _, _ => .bad
def mkL : R D → R D
  | .ok (.lst ds) S => .ok (.loc S.length) (S ++ [.lst ds])
  | _ => .bad
def oMulL (x y : D) (S : List D) : R D := mkL (oMul x y S)
def oDiv : D → D → List D → R D
  | .int i, .int j, S => if j ≠ 0 ∧ j.natAbs < 1073741824 then .ok (.int (i.fdiv j)) S else .bad
  | _, _, _ => .bad
def oMod : D → D → List D → R D
  | .int i, .int j, S => if j ≠ 0 then .ok (.int (i.fmod j)) S else .bad
  | _, _, _ => .bad
def oPow : D → D → List D → R D
  | .int i, .int j, S => if 0 ≤ j ∧ j ≤ 1000000 ∧ i.natAbs < 18446744073709551616 then .ok (.int (i ^ j.toNat)) S else .bad
  | _, _, _ => .bad
def oLt : D → D → List D → R D
  | .int i, .int j, S => .ok (.bl (decide (i < j))) S
  | _, _, _ => .bad
def oLe : D → D → List D → R D
  | .int i, .int j, S => .ok (.bl (decide (i ≤ j))) S
  | _, _, _ => .bad
def oGt : D → D → List D → R D
  | .int i, .int j, S => .ok (.bl (decide (j < i))) S
  | _, _, _ => .bad
def oGe : D → D → List D → R D
  | .int i, .int j, S => .ok (.bl (decide (j ≤ i))) S
  | _, _, _ => .bad
/-- == and != : of scalars and of data no deeper than 64 -/
def cmpOk (x : D) : Bool := x.cmpb && decide (x.depth ≤ 64)
def oEq (x y : D) (S : List D) : R D := if cmpOk (seen S x) = true ∧ cmpOk (seen S y) = true then .ok (.bl (D.eqB (seen S x) (seen S y))) S else .bad
def oNe (x y : D) (S : List D) : R D := if cmpOk (seen S x) = true ∧ cmpOk (seen S y) = true then .ok (.bl (!D.eqB (seen S x) (seen S y))) S else .bad
def D.isNon : D → Bool
  | .non => true
  | _ => false
def oIsN (x : D) (S : List D) : R D := .ok (.bl x.isNon) S
def oNotN (x : D) (S : List D) : R D := .ok (.bl (!x.isNon)) S
def oNeg : D → List D → R D
  | .int i, S => .ok (.int (-i)) S
  | _, _ => .bad
/-- x in xs, x in d -/
def keyIn (ks : List Ky) (k : Ky) : Bool := ks.any fun q => decide (q = k)
def inD (x : D) (xs : List D) : Bool := xs.any fun y => y.eqB x
def oIn (x y : D) (S : List D) : R D := match seqOf S y with
  | some xs => if cmpOk (seen S x) = true ∧ xs.all cmpOk = true then .ok (.bl (inD (seen S x) xs)) S else .bad
  | none => match dctOf S y, keyOf x with
    | some (ks, _), some k => .ok (.bl (keyIn ks k)) S
    | _, _ => .bad
def oNin (x y : D) (S : List D) : R D := match seqOf S y with
  | some xs => if cmpOk (seen S x) = true ∧ xs.all cmpOk = true then .ok (.bl (!inD (seen S x) xs)) S else .bad
  | none => match dctOf S y, keyOf x with
    | some (ks, _), some k => .ok (.bl (!keyIn ks k)) S
    | _, _ => .bad
def getK : List Ky → List D → Ky → Option D
  | q :: ks, d :: ds, k => if q = k then some d else getK ks ds k
  | _, _, _ => none
/-- x[i] -/
def oIx (x i : D) (S : List D) : R D := match seqOf S x, i with
  | some xs, .int k => match atOf xs k with
    | some d => .ok d S
    | none => .bad
  | _, _ => match dctOf S x, keyOf i with
    | some (ks, ds), some k => match getK ks ds k with
      | some d => .ok d S
      | none => .bad
    | _, _ => .bad
/-- the bounds of a slice -/
def sIxOf (n d : Nat) : Option Int → Nat
  | none => d
  | some v => if v < 0 then (v + (n : Int)).toNat else min v.toNat n
def cutOf (xs : List D) (lo hi : Option Int) : List D := (xs.drop (sIxOf xs.length 0 lo)).take (sIxOf xs.length xs.length hi - sIxOf xs.length 0 lo)
def ePart (a : Option ME) : Env → List D → R (Option Int) := match a with
  | none => fun _ S => .ok none S
  | some m => fun E S => (m E S).bind fun x S1 => match x with
    | .int i => .ok (some i) S1
    | _ => .bad
def oSl (x : D) (lo hi : Option Int) (S : List D) : R D := match x with
  | .tup xs => .ok (.tup (cutOf xs lo hi)) S
  | _ => match seqOf S x with
    | some xs => .ok (.lst (cutOf xs lo hi)) S
    | none => .bad
def eSl (a : ME) (lo hi : Option ME) : ME := fun E S => (a E S).bind fun x S1 => (ePart lo E S1).bind fun l S2 => (ePart hi E S2).bind fun h S3 => oSl x l h S3

/-! ### built-ins by their arguments -/
def bTup (xs : List D) (S : List D) : R D := if xs.length ≤ SL then .ok (.tup xs) S else .bad
def bLst (xs : List D) (S : List D) : R D := if xs.length ≤ SL then .ok (.lst xs) S else .bad
/-- a new list that will be changed -/
def bLstL (xs : List D) (S : List D) : R D := if xs.length ≤ SL then .ok (.loc S.length) (S ++ [.lst xs]) else .bad
def bLen : List D → List D → R D
  | [x], S => match seqOf S x with
    | some xs => .ok (.int xs.length) S
    | none => match dctOf S x with
      | some (ks, _) => .ok (.int ks.length) S
      | none => .bad
  | _, _ => .bad
def bInt : List D → List D → R D
  | [.int i], S => .ok (.int i) S
  | [.bl b], S => .ok (.int (if b then 1 else 0)) S
  | _, _ => .bad
def bAbs : List D → List D → R D
  | [.int i], S => .ok (.int (if i < 0 then -i else i)) S
  | _, _ => .bad
def intsOf : List D → Option (List Int)
  | [] => some []
  | .int i :: r => (intsOf r).map (i :: ·)
  | _ :: _ => none
def bSum : List D → List D → R D
  | [x], S => match seqOf S x with
    | some xs => match intsOf xs with
      | some ns => .ok (.int ns.sum) S
      | none => .bad
    | none => .bad
  | _, _ => .bad
def bTuple : List D → List D → R D
  | [x], S => match seqOf S x with
    | some xs => .ok (.tup xs) S
    | none => .bad
  | _, _ => .bad
def bList : List D → List D → R D
  | [x], S => match seqOf S x with
    | some xs => .ok (.lst xs) S
    | none => .bad
  | _, _ => .bad
def bListL : List D → List D → R D
  | [x], S => match seqOf S x with
    | some xs => .ok (.loc S.length) (S ++ [.lst xs])
    | none => .bad
  | _, _ => .bad
/-- the built-in class of a value -/
def tyOf (S : List D) : D → Option String
  | .non => some "NoneType"
  | .bl _ => some "bool"
  | .int _ => some "int"
  | .str _ => some "str"
  | .tup _ => some "tuple"
  | .tuk _ => some "tuple"
  | .lst _ => some "list"
  | .rdl _ => some "list"
  | .dct _ _ => some "dict"
  | .loc n => match S[n]? with
    | some (.lst _) => some "list"
    | some (.dct _ _) => some "dict"
    | _ => none
  | _ => none
def isiB (t n : String) : Bool := t == n || (t == "bool" && n == "int")
def isiNames : List String := ["bool", "int", "str", "tuple", "list", "dict"]
/-- isinstance(x, (n1, n2, ..)) of built-in classes -/
def oIsi (ns : List String) (x : D) (S : List D) : R D := match tyOf S x with
  | some t => .ok (.bl (ns.any (isiB t))) S
  | none => .bad
def bMax3 : List D → List D → R D
  | [.int i, .int j, .int k], S => .ok (.int (if k > (if j > i then j else i) then k else (if j > i then j else i))) S
  | _, _ => .bad
/-- {k: v}, to be changed -/
def kDisp1 (x y : D) (S : List D) : R D := match keyOf x with
  | some q => .ok (.loc S.length) (S ++ [.dct [q] [y]])
  | none => .bad
def eDisp1L (k v : ME) : ME := fun E S => (k E S).bind fun x S1 => (v E S1).bind fun y S2 => kDisp1 x y S2
def eDctL : ME := fun _ S => .ok (.loc S.length) (S ++ [.dct [] []])
def eDct : ME := fun _ S => .ok (.dct [] []) S
def bMax2 : List D → List D → R D
  | [.int i, .int j], S => .ok (.int (if j > i then j else i)) S
  | _, _ => .bad
def bMin2 : List D → List D → R D
  | [.int i, .int j], S => .ok (.int (if j < i then j else i)) S
  | _, _ => .bad
/-- max(xs), min(xs) of ints -/
def bMax1 : List D → List D → R D
  | [x], S => match seqOf S x with
    | some xs => match intsOf xs with
      | some (n :: ns) => .ok (.int (ns.foldl (fun a y => if a < y then y else a) n)) S
      | _ => .bad
    | none => .bad
  | _, _ => .bad
def bMin1 : List D → List D → R D
  | [x], S => match seqOf S x with
    | some xs => match intsOf xs with
      | some (n :: ns) => .ok (.int (ns.foldl (fun a y => if y < a then y else a) n)) S
      | _ => .bad
    | none => .bad
  | _, _ => .bad
/-- any(xs), all(xs) of bools and ints -/
def scal : D → Option Bool
  | .bl b => some b
  | .int i => some (i != 0)
  | _ => none
def scals : List D → Option (List Bool)
  | [] => some []
  | d :: ds => (scal d).bind fun b => (scals ds).map (b :: ·)
def bAny : List D → List D → R D
  | [x], S => match lstOf S x with
    | some xs => match scals xs with
      | some bs => .ok (.bl (bs.any id)) S
      | none => .bad
    | none => .bad
  | _, _ => .bad
def bAll : List D → List D → R D
  | [x], S => match lstOf S x with
    | some xs => match scals xs with
      | some bs => .ok (.bl (bs.all id)) S
      | none => .bad
    | none => .bad
  | _, _ => .bad
/-- list(range(n)), to be changed -/
def eLstRgL (a : ME) : ME := fun E S => (a E S).bind fun x S1 => match x with
  | .int n => if 0 ≤ n ∧ n ≤ SL then .ok (.loc S1.length) (S1 ++ [.lst ((List.range n.toNat).map fun i : Nat => .int (i : Int))]) else .bad
  | _ => .bad
/-! ### statements -/
def sSeq (a b : MS) : MS := fun E S => match a E S with
  | .nx E1 S1 => b E1 S1
  | o => o
def sNext : MS := fun E S => .nx E S
def sBreak : MS := fun E S => .bk E S
def sCont : MS := fun E S => .ct E S
def sNever : MS := fun _ _ => .bad
def sExpr (a : ME) : MS := fun E S => (a E S).toO E fun _ S1 => .nx E S1
def sRet (a : ME) : MS := fun E S => (a E S).toO E fun d S1 => .rt d S1
def sRetN : MS := fun _ S => .rt .non S
def sIf (t : MT) (a b : MS) : MS := fun E S => (t E S).tO E fun c S1 => if c = true then a E S1 else b E S1
def sSet (i : Nat) (a : ME) : MS := fun E S => (a E S).toO E fun d S1 => .nx (E.set i (some d)) S1
def sAug (i : Nat) (f : D → D → List D → R D) (a : ME) : MS := fun E S => match E[i]? with
  | some (some x) => (a E S).toO E fun y S1 => (f x y S1).toO E fun z S2 => .nx (E.set i (some z)) S2
  | _ => .bad
/-- a target of names -/
inductive Tg where
  | nm (i : Nat)
  | tp (ts : List Tg)
mutual
def Tg.bind : Tg → D → Env → Option Env
  | .nm i, d, E => some (E.set i (some d))
  | .tp ts, .tup ds, E => Tg.binds ts ds E
  | .tp _, _, _ => none
def Tg.binds : List Tg → List D → Env → Option Env
  | [], [], E => some E
  | t :: ts, d :: ds, E => match t.bind d E with
    | some E1 => Tg.binds ts ds E1
    | none => none
  | _, _, _ => none
end
def sAsg (t : Tg) (a : ME) : MS := fun E S => (a E S).toO E fun d S1 => match t.bind d E with
  | some E1 => .nx E1 S1
  | none => .bad
/-- a body of which no exception comes -/
def sTry (b : MS) : MS := fun E S => match b E S with
  | .exc _ _ _ _ => .bad
  | o => o
/-- a, b = e, f (no tuple is made) -/
def sPar (is_ : List Nat) (a : MA) : MS := fun E S => match a E S with
  | .ok ds S1 => match Tg.binds (is_.map .nm) ds E with
    | some E1 => .nx E1 S1
    | none => .bad
  | .exc c fs S1 => .exc c fs E S1
  | .bad => .bad
/-- o[i] = e -/
def putAt (o i v : D) (S : List D) : Option (List D) := match o with
  | .loc n => match S[n]? with
    | some (.lst xs) => match i with
      | .int k => match ixOf xs.length k with
        | some j => some (S.set n (.lst (xs.set j v)))
        | none => none
      | _ => none
    | some (.dct ks ds) => match keyOf i with
      | some k => if ks.length < SL then some (S.set n (putK ks ds k v)) else none
      | none => none
    | some (.dcT ks ds) => match keyT i with
      | some k => if ks.length < SL then some (S.set n (putT ks ds k v)) else none
      | none => none
    | _ => none
  | _ => none
where
  putT (ks : List (List Ky)) (ds : List D) (k : List Ky) (v : D) : D := if (ks.any fun q => decide (q = k)) = true then .dcT ks (ks.zipWith (fun q d => if q = k then v else d) ds) else .dcT (ks ++ [k]) (ds ++ [v])
  putK (ks : List Ky) (ds : List D) (k : Ky) (v : D) : D := if keyIn ks k = true then .dct ks (ks.zipWith (fun q d => if q = k then v else d) ds) else .dct (ks ++ [k]) (ds ++ [v])
def sPut (o i e : ME) : MS := fun E S => (e E S).toO E fun v S1 => (o E S1).toO E fun x S2 => (i E S2).toO E fun k S3 => match putAt x k v S3 with
  | some S4 => .nx E S4
  | none => .bad
/-- x, o[i] = e -/
def sAsgSub (i j l : Nat) (a : ME) : MS := fun E S => (a E S).toO E fun d S1 => match d with
  | .tup [dx, dy] => match (E.set i (some dx))[j]?, (E.set i (some dx))[l]? with
    | some (some ov), some (some kv) => match putAt ov kv dy S1 with
      | some S2 => .nx (E.set i (some dx)) S2
      | none => .bad
    | _, _ => .bad
  | _ => .bad
/-- o[i] += e -/
def sPutAug (f : D → D → List D → R D) (o i e : ME) : MS := fun E S => (o E S).toO E fun x S1 => (i E S1).toO E fun k S2 => (oIx x k S2).toO E fun y S3 => (e E S3).toO E fun z S4 => (f y z S4).toO E fun v S5 => match putAt x k v S5 with
  | some S6 => .nx E S6
  | none => .bad
/-- o.append(e) -/
def mAppend : D → List D → List D → R D
  | .loc n, [y], S => match S[n]? with
    | some (.lst xs) => if xs.length < SL then .ok .non (S.set n (.lst (xs ++ [y]))) else .bad
    | _ => .bad
  | _, _, _ => .bad
def mPop : D → List D → List D → R D
  | .loc n, [], S => match S[n]? with
    | some (.lst xs) => match xs[xs.length - 1]? with
      | some y => .ok y (S.set n (.lst xs.dropLast))
      | none => .bad
    | _ => .bad
  | _, _, _ => .bad
/-- a method of a list -/
def eMeth (f : D → List D → List D → R D) (o : ME) (a : MA) : ME := fun E S => (o E S).bind fun x S1 => if (lstOf S1 x).isSome = true then (a E S1).bind fun xs S2 => f x xs S2 else .bad

/-! ### what a loop goes over -/
structure Src where
  len : Nat
  at_ : List D → Nat → Option D
  alive : List D → Bool
def Src.its (ds : List D) : Src := ⟨ds.length, fun _ i => ds[i]?, fun _ => true⟩
def Src.live (n len : Nat) : Src := ⟨len, fun S i => match S[n]? with | some (.lst ds) => ds[i]? | _ => none, fun S => match S[n]? with | some (.lst ds) => ds.length == len | _ => false⟩
def Src.rng (lo : Int) (n : Nat) : Src := ⟨n, fun _ i => some (.int (lo + i)), fun _ => true⟩
def Src.enum (s : Src) : Src := ⟨s.len, fun S i => (s.at_ S i).map fun d => .tup [.int i, d], s.alive⟩
def Src.zip (s t : Src) : Src := ⟨min s.len t.len, fun S i => match s.at_ S i, t.at_ S i with | some a, some b => some (.tup [a, b]) | _, _ => none, fun S => s.alive S && t.alive S⟩
abbrev MI := Env → List D → R Src
def srcOf (S : List D) : D → Option Src
  | .tup ds => some (.its ds)
  | .tuk ds => some (.its ds)
  | .lst ds => some (.its ds)
  | .rdl ds => some (.its ds)
  | .loc n => match S[n]? with
    | some (.lst ds) => some (.live n ds.length)
    | _ => none
  | _ => none
def iSeq (a : ME) : MI := fun E S => (a E S).bind fun x S1 => match srcOf S1 x with
  | some s => .ok s S1
  | none => .bad
def okR (i : Int) : Bool := decide (-4611686018427387904 ≤ i) && decide (i < 4611686018427387904)
def iRng1 (a : ME) : MI := fun E S => (a E S).bind fun x S1 => match x with
  | .int j => if okR j = true then .ok (.rng 0 j.toNat) S1 else .bad
  | _ => .bad
def iRng2 (a b : ME) : MI := fun E S => (a E S).bind fun x S1 => (b E S1).bind fun y S2 => match x, y with
  | .int i, .int j => if okR i = true ∧ okR j = true then .ok (.rng i (j - i).toNat) S2 else .bad
  | _, _ => .bad
def iEnum (a : ME) : MI := fun E S => (a E S).bind fun x S1 => match srcOf S1 x with
  | some s => .ok s.enum S1
  | none => .bad
def iZip (a b : ME) : MI := fun E S => (a E S).bind fun x S1 => (b E S1).bind fun y S2 => match srcOf S2 x, srcOf S2 y with
  | some s, some t => .ok (s.zip t) S2
  | _, _ => .bad

/-! ### loops -/
/-- the objects that a turn has made are given up -/
def gone (n : Nat) : Option D → Option D
  | some d => if D.flat d = true then some d else match d with
    | .loc k => if k < n then some (.loc k) else none
    | _ => none
  | none => none
def gcE (n : Nat) (E : Env) (S : List D) : Option (Env × List D) :=
  if S.length = n then some (E, S) else if n ≤ S.length ∧ (S.take n).all D.flat = true then some (E.map (gone n), S.take n) else none
def forGo (src : Src) (t : Tg) (b : MS) (n : Nat) : Nat → Nat → Env → List D → O
  | 0, _, E, S => if src.alive S = true then .nx E S else .bad
  | k + 1, i, E, S => if src.alive S = true then match src.at_ S i with
    | none => .bad
    | some d => match t.bind d E with
      | none => .bad
      | some E1 => match b E1 S with
        | .nx E2 S2 => match gcE n E2 S2 with
          | some (E3, S3) => forGo src t b n k (i + 1) E3 S3
          | none => .bad
        | .ct E2 S2 => match gcE n E2 S2 with
          | some (E3, S3) => forGo src t b n k (i + 1) E3 S3
          | none => .bad
        | .bk E2 S2 => .nx E2 S2
        | o => o
    else .bad
def sFor (t : Tg) (m : MI) (b : MS) : MS := fun E S => match m E S with
  | .ok src S1 => forGo src t b S1.length src.len 0 E S1
  | .exc c fs S1 => .exc c fs E S1
  | .bad => .bad
def whileGo (t : MT) (b : MS) (n : Nat) : Nat → Env → List D → O
  | 0, _, _ => .bad
  | k + 1, E, S => (t E S).tO E fun c S1 => if c = true then match b E S1 with
      | .nx E2 S2 => match gcE n E2 S2 with
        | some (E3, S3) => whileGo t b n k E3 S3
        | none => .bad
      | .ct E2 S2 => match gcE n E2 S2 with
        | some (E3, S3) => whileGo t b n k E3 S3
        | none => .bad
      | .bk E2 S2 => .nx E2 S2
      | o => o
    else .nx E S1
def sWhile (fuel : Nat) (t : MT) (b : MS) : MS := fun E S => whileGo t b S.length fuel E S
def wipeE (E : Env) : List Nat → Env
  | [] => E
  | v :: vs => (wipeE E vs).set v none
def lcGo (src : Src) (t : Tg) (c : MT) (e : ME) (E : Env) (n : Nat) : Nat → Nat → List D → List D → R (List D)
  | 0, _, acc, S => if src.alive S = true then .ok acc S else .bad
  | k + 1, i, acc, S => if src.alive S = true then match src.at_ S i with
    | none => .bad
    | some d => match t.bind d E with
      | none => .bad
      | some E1 => match c E1 S with
        | .ok b S1 => if b = true then match e E1 S1 with
            | .ok x S2 => if n ≤ S2.length then lcGo src t c e E n k (i + 1) (acc ++ [x]) S2 else .bad
            | _ => .bad
          else if n ≤ S1.length then lcGo src t c e E n k (i + 1) acc S1 else .bad
        | _ => .bad
    else .bad
def lcRun (own : List Nat) (t : Tg) (m : MI) (c : MT) (e : ME) : Env → List D → R (List D) := fun E S => match m E S with
  | .ok src S1 => if src.len ≤ SL then lcGo src t c e (wipeE E own) S1.length src.len 0 [] S1 else .bad
  | .exc c fs S1 => .exc c fs S1
  | .bad => .bad
def eLc (own : List Nat) (t : Tg) (m : MI) (c : MT) (e : ME) : ME := fun E S => (lcRun own t m c e E S).bind fun acc S1 => .ok (.lst acc) S1
def eLcL (own : List Nat) (t : Tg) (m : MI) (c : MT) (e : ME) : ME := fun E S => (lcRun own t m c e E S).bind fun acc S1 => .ok (.loc S1.length) (S1 ++ [.lst acc])

/-! ### defs -/
/-- what is handed back stays as it is -/
def fz (n : Nat) (S : List D) : Nat → D → Option D
  | 0, _ => none
  | k + 1, d => if d.flat = true then some d else match d with
    | .loc m => if m < n then none else match S[m]? with
      | some (.lst ds) => ((ds.mapM (fz n S k)).map .lst)
      | some (.dct ks ds) => ((ds.mapM (fz n S k)).map (.dct ks))
      | some (.dcT ks ds) => ((ds.mapM (fz n S k)).map (.dcT ks))
      | _ => none
    | .tup ds => (ds.mapM (fz n S k)).map .tup
    | .lst ds => (ds.mapM (fz n S k)).map .lst
    | _ => none
def retF (n : Nat) (d : D) (S : List D) : R D := if n ≤ S.length ∧ (S.take n).all D.flat = true then match fz n S 8 d with
    | some d' => .ok d' (S.take n)
    | none => .bad
  else .bad
def excF (n : Nat) (c : Str) (fs : List (Str × D)) (S : List D) : R D := if n ≤ S.length ∧ (S.take n).all D.flat = true ∧ fs.all (fun p => p.2.flat) = true then .exc c fs (S.take n) else .bad
/-- a def of np parameters, nn names, its body -/
def fnF (np nn : Nat) (b : MS) : MF := fun ds S => if ds.length = np then match b (ds.map some ++ List.replicate (nn - np) none) S with
    | .nx _ S1 => retF S.length .non S1
    | .rt d S1 => retF S.length d S1
    | .exc c fs _ S1 => excF S.length c fs S1
    | _ => .bad
  else .bad
/-- arguments: the objects among them are handed on by their places -/
def byRef : List D → Nat → Option (List D × List Nat)
  | [], _ => some ([], [])
  | .loc n :: r, k => (byRef r (k + 1)).bind fun (ds, ns) => if ns.contains n then none else some (.loc k :: ds, n :: ns)
  | d :: r, k => if d.flat = true then (byRef r k).map fun (ds, ns) => (d :: ds, ns) else none
def setAll : List D → List Nat → List D → List D
  | S, n :: ns, d :: ds => setAll (S.set n d) ns ds
  | S, _, _ => S
def callF (F : MF) (xs : List D) (S : List D) : R D := match byRef xs 0 with
  | none => .bad
  | some (ds, ns) => match ns.mapM (fun n => S[n]?) with
    | none => .bad
    | some Sc => if Sc.all D.flat = true then match F ds Sc with
        | .ok d S' => if d.flat = true ∧ S'.length = ns.length ∧ S'.all D.flat = true then .ok d (setAll S ns S') else .bad
        | .exc c fs S' => if S'.length = ns.length ∧ S'.all D.flat = true ∧ fs.all (fun p => p.2.flat) = true then .exc c fs (setAll S ns S') else .bad
        | .bad => .bad
      else .bad
end J
set_option linter.all false
namespace J
open PySem (Str)
def oRev : D → List D → R D
  | .tup ds, S => .ok (.tup ds.reverse) S
  | x, S => match lstOf S x with
    | some ds => .ok (.lst ds.reverse) S
    | none => .bad
def eRev (ma : ME) : ME := eUn oRev ma
def insI (n : Int) : List Int → List Int
  | [] => [n]
  | m :: ms => if n ≤ m then n :: m :: ms else m :: insI n ms
def sortI : List Int → List Int
  | [] => []
  | n :: ns => insI n (sortI ns)
def bSorted : List D → List D → R D
  | [x], S => match seqOf S x with
    | some xs => match intsOf xs with
      | some ns => .ok (.lst ((sortI ns).map D.int)) S
      | none => .bad
    | none => .bad
  | _, _ => .bad
def bBool : List D → List D → R D
  | [.int i], S => .ok (.bl (i != 0)) S
  | [.bl b], S => .ok (.bl b) S
  | _, _ => .bad
def mCountT : D → List D → List D → R D
  | .tup xs, [.int k], S => match intsOf xs with
    | some ns => .ok (.int (ns.count k : Nat)) S
    | none => .bad
  | _, _, _ => .bad
def oMulT : D → D → List D → R D
  | .tup xs, .int 0, S => if xs ≠ [] then .ok (.tup []) S else .bad
  | x, y, S => oMul x y S
def putKs (ks : List Ky) (k : Ky) : List Ky := if keyIn ks k = true then ks else ks ++ [k]
def putDs (ks : List Ky) (ds : List D) (k : Ky) (v : D) : List D := if keyIn ks k = true then ks.zipWith (fun q d => if q = k then v else d) ds else ds ++ [v]
/-- {k: v for t in xs if c} -/
def dcGo (src : Src) (t : Tg) (c : MT) (ek ev : ME) (E : Env) (n : Nat) : Nat → Nat → List Ky → List D → List D → R D
  | 0, _, ks, ds, S => if src.alive S = true then .ok (.dct ks ds) S else .bad
  | k + 1, i, ks, ds, S => if src.alive S = true then match src.at_ S i with
    | none => .bad
    | some d => match t.bind d E with
      | none => .bad
      | some E1 => match c E1 S with
        | .ok b S1 => if b = true then match ek E1 S1 with
            | .ok x S2 => match keyOf x with
              | none => .bad
              | some q => match ev E1 S2 with
                | .ok y S3 => if n ≤ S3.length then dcGo src t c ek ev E n k (i + 1) (putKs ks q) (putDs ks ds q y) S3 else .bad
                | _ => .bad
            | _ => .bad
          else if n ≤ S1.length then dcGo src t c ek ev E n k (i + 1) ks ds S1 else .bad
        | _ => .bad
    else .bad
def eDc (own : List Nat) (t : Tg) (m : MI) (c : MT) (ek ev : ME) : ME := fun E S => match m E S with
  | .ok src S1 => if src.len ≤ SL then dcGo src t c ek ev (wipeE E own) S1.length src.len 0 [] [] S1 else .bad
  | .exc c fs S1 => .exc c fs S1
  | .bad => .bad
/-- min(d) -/
def intKys : List Ky → Option (List Int)
  | [] => some []
  | .inl i :: ks => (intKys ks).map (i :: ·)
  | _ :: _ => none
def bMinD : List D → List D → R D
  | [x], S => match dctOf S x with
    | some (ks, _) => match intKys ks with
      | some (n :: ns) => .ok (.int (ns.foldl (fun a y => if y < a then y else a) n)) S
      | _ => .bad
    | none => .bad
  | _, _ => .bad
/-- d.get(k, x) -/
def eGet2 (o a b : ME) : ME := fun E S => (o E S).bind fun x S1 => if (dctOf S1 x).isSome = true then (a E S1).bind fun y S2 => (b E S2).bind fun z S3 => match dctOf S3 x, keyOf y with
  | some (ks, ds), some q => .ok ((getK ks ds q).getD z) S3
  | _, _ => .bad else .bad
def oIsB : D → D → List D → R D
  | .bl a, .bl b, S => .ok (.bl (decide (a = b))) S
  | _, _, _ => .bad
/-- tuple(range(n)) -/
def eTupRg (a : ME) : ME := fun E S => (a E S).bind fun x S1 => match x with
  | .int n => if 0 ≤ n ∧ n ≤ SL then .ok (.tup ((List.range n.toNat).map fun i : Nat => .int (i : Int))) S1 else .bad
  | _ => .bad
def kD : Ky → D
  | .inl i => .int i
  | .inr x => .str x
def itemsS (ks : List Ky) (ds : List D) : List D := List.zipWith (fun k d => D.tup [kD k, d]) ks ds
def iItemsJ (ma : ME) : MI := fun E S => (ma E S).bind fun x S1 => match x with
  | .dct ks ds => .ok (Src.its (itemsS ks ds)) S1
  | _ => .bad
def iMul : D → D → List D → R D
  | .int i, .int j, S => if smallI i = true ∨ smallI j = true then .ok (.int (i * j)) S else .bad
  | _, _, _ => .bad
def bGcd : List D → List D → R D
  | [.int i, .int j], S => .ok (.int (Nat.gcd i.natAbs j.natAbs : Nat)) S
  | _, _ => .bad
def bLcm : List D → List D → R D
  | [.int i, .int j], S => if i.natAbs < 18446744073709551616 ∧ j.natAbs < 18446744073709551616 then .ok (.int (Nat.lcm i.natAbs j.natAbs : Nat)) S else .bad
  | _, _ => .bad
end J
set_option linter.all false
set_option maxRecDepth 100000
/-! more values and operations: `is not True` -/
namespace J
def oNotB : D → D → List D → R D
  | .bl a, .bl b, S => .ok (.bl (!decide (a = b))) S
  | _, _, _ => .bad
end J
namespace J
/-- min(xs, default=None), ints -/
def bMinN : List D → List D → R D
  | [x], S => match seqOf S x with
    | some xs => match intsOf xs with
      | some (n :: ns) => .ok (.int (ns.foldl (fun a y => if y < a then y else a) n)) S
      | some [] => .ok .non S
      | none => .bad
    | none => .bad
  | _, _ => .bad
end J
namespace J
/-- any(xs) of a list or tuple -/
def bAnyS : List D → List D → R D
  | [x], S => match seqOf S x with
    | some xs => match scals xs with
      | some bs => .ok (.bl (bs.any id)) S
      | none => .bad
    | none => .bad
  | _, _ => .bad
end J
set_option linter.all false
set_option maxRecDepth 100000
/-! dicts whose keys are tuples -/
namespace J
def dctT (S : List D) : D → Option (List (List Ky) × List D)
  | .dcT ks ds => some (ks, ds)
  | .loc n => match S[n]? with
    | some (.dcT ks ds) => some (ks, ds)
    | _ => none
  | _ => none
def getT : List (List Ky) → List D → List Ky → Option D
  | q :: ks, d :: ds, k => if q = k then some d else getT ks ds k
  | _, _, _ => none
/-- {}, its keys will be tuples -/
def eDctTL : ME := fun _ S => .ok (.loc S.length) (S ++ [.dcT [] []])
/-- {k: v}, k a tuple; it stays -/
def kDispT (x y : D) (S : List D) : R D := match keyT x with
  | some q => .ok (.dcT [q] [y]) S
  | none => .bad
def eDispT (k v : ME) : ME := fun E S => (k E S).bind fun x S1 => (v E S1).bind fun y S2 => kDispT x y S2
/-- d.get(k, x) -/
def eGet2T (o a b : ME) : ME := fun E S => (o E S).bind fun x S1 => if (dctT S1 x).isSome = true then (a E S1).bind fun y S2 => (b E S2).bind fun z S3 => match dctT S3 x, keyT y with
  | some (ks, ds), some q => .ok ((getT ks ds q).getD z) S3
  | _, _ => .bad else .bad
/-- for k, v in d.items() -/
def itemsT (ks : List (List Ky)) (ds : List D) : List D := List.zipWith (fun k d => D.tup [.tup (k.map kD), d]) ks ds
def iItemsT (ma : ME) : MI := fun E S => (ma E S).bind fun x S1 => match x with
  | .dcT ks ds => .ok (Src.its (itemsT ks ds)) S1
  | _ => .bad
end J
set_option linter.all false
set_option maxRecDepth 100000
/-! exceptions of own classes without fields; tuples of known make -/
namespace J
open PySem (Str)
/-- raise C('..') -/
def sRaise (c : Str) : MS := fun E S => .exc c [] E S
/-- try: .. except B as n: x = u if isinstance(n, C) else v; i the slot of n, j the slot of x; kt c: is a c a C -/
def sTryIs (kt : Str → Option Bool) (i j : Nat) (u v : D) (mb : MS) : MS := fun E S => match mb E S with
  | .exc c fs E1 S1 => if (fs.isEmpty && decide (i < E1.length)) = true then (match kt c with
    | some b => .nx ((E1.set j (some (if b = true then u else v))).set i none) S1
    | none => .bad) else .bad
  | o => o
/-- tuple(l): a tuple of known make -/
def bTupK : List D → List D → R D
  | [x], S => match lstOf S x with
    | some xs => .ok (.tuk xs) S
    | none => .bad
  | _, _ => .bad
/-- t.count(k), t of known make -/
def mCountK : D → List D → List D → R D
  | .tuk xs, [.int k], S => match intsOf xs with
    | some ns => .ok (.int (ns.count k : Nat)) S
    | none => .bad
  | _, _, _ => .bad
def isTuk : D → Bool
  | .tuk _ => true
  | _ => false
def eMethK (f : D → List D → List D → R D) (o : ME) (a : MA) : ME := fun E S => (o E S).bind fun x S1 => if isTuk x = true then (a E S1).bind fun xs S2 => f x xs S2 else .bad
end J
set_option linter.all false
set_option maxRecDepth 100000
/-! comprehensions with two fors: the new list stands at the end of the store while the second source is gone over -/
namespace J
def lcIn (src : Src) (t : Tg) (c : MT) (e : ME) (E : Env) (p : Nat) : Nat → Nat → List D → Option (List D)
  | 0, _, S => if src.alive S = true then some S else none
  | k + 1, i, S => if src.alive S = true then match src.at_ S i with
    | none => none
    | some d => match t.bind d E with
      | none => none
      | some E1 => match c E1 S with
        | .ok b S1 => if b = true then match e E1 S1 with
            | .ok x S2 => match S2[p]? with
              | some (.lst acc) => if S2.length = p + 1 ∧ acc.length < SL then lcIn src t c e E p k (i + 1) (S2.set p (.lst (acc ++ [x]))) else none
              | _ => none
            | _ => none
          else if S1.length = p + 1 then lcIn src t c e E p k (i + 1) S1 else none
        | _ => none
    else none
def lcGo2 (src : Src) (t : Tg) (c : MT) (own1 : List Nat) (m1 : MI) (t1 : Tg) (c1 : MT) (e : ME) (E : Env) : Nat → Nat → List D → List D → R (List D)
  | 0, _, acc, S => if src.alive S = true then .ok acc S else .bad
  | k + 1, i, acc, S => if src.alive S = true then match src.at_ S i with
    | none => .bad
    | some d => match t.bind d E with
      | none => .bad
      | some E1 => match c E1 S with
        | .ok b S1 => if b = true then match m1 E1 (S1 ++ [.lst acc]) with
            | .ok src1 S2 => match lcIn src1 t1 c1 e (wipeE E1 own1) S1.length src1.len 0 S2 with
              | some S3 => if S2.length = S1.length + 1 ∧ S3.length = S1.length + 1 ∧ S3.all D.flat = true then match S3[S1.length]? with
                | some (.lst acc3) => lcGo2 src t c own1 m1 t1 c1 e E k (i + 1) acc3 (S3.take S1.length)
                | _ => .bad else .bad
              | none => .bad
            | _ => .bad
          else lcGo2 src t c own1 m1 t1 c1 e E k (i + 1) acc S1
        | _ => .bad
    else .bad
def lcRun2 (own : List Nat) (t : Tg) (m : MI) (c : MT) (own1 : List Nat) (m1 : MI) (t1 : Tg) (c1 : MT) (e : ME) : Env → List D → R (List D) := fun E S => match m E S with
  | .ok src S1 => lcGo2 src t c own1 m1 t1 c1 e (wipeE E own) src.len 0 [] S1
  | .exc c fs S1 => .exc c fs S1
  | .bad => .bad
def eLc2 (own : List Nat) (t : Tg) (m : MI) (c : MT) (own1 : List Nat) (m1 : MI) (t1 : Tg) (c1 : MT) (e : ME) : ME := fun E S => (lcRun2 own t m c own1 m1 t1 c1 e E S).bind fun acc S1 => .ok (.lst acc) S1
def eLc2L (own : List Nat) (t : Tg) (m : MI) (c : MT) (own1 : List Nat) (m1 : MI) (t1 : Tg) (c1 : MT) (e : ME) : ME := fun E S => (lcRun2 own t m c own1 m1 t1 c1 e E S).bind fun acc S1 => .ok (.loc S1.length) (S1 ++ [.lst acc])
end J
set_option linter.all false
set_option maxRecDepth 100000
/-! order of tuples: sorted, min, max of data -/
namespace J
mutual
def D.lt : D → D → Bool
  | .int a, .int b => decide (a < b)
  | .tup xs, .tup ys => D.lts xs ys
  | _, _ => false
def D.lts : List D → List D → Bool
  | [], [] => false
  | [], _ :: _ => true
  | _ :: _, [] => false
  | x :: xs, y :: ys => if D.eqB x y = true then D.lts xs ys else D.lt x y
end
mutual
/-- of one shape -/
def D.shp : D → D → Bool
  | .int _, .int _ => true
  | .tup xs, .tup ys => D.shps xs ys
  | _, _ => false
def D.shps : List D → List D → Bool
  | [], [] => true
  | x :: xs, y :: ys => x.shp y && D.shps xs ys
  | _, _ => false
end
def allInt : List D → Bool
  | [] => true
  | .int _ :: r => allInt r
  | _ :: _ => false
def intTup : D → Bool
  | .tup (x :: xs) => allInt (x :: xs)
  | _ => false
def sortHd : D → Bool
  | .tup (_ :: _) => true
  | .int _ => true
  | _ => false
def insD (n : D) : List D → List D
  | [] => [n]
  | m :: ms => if D.lt m n = true then m :: insD n ms else n :: m :: ms
def sortD : List D → List D
  | [] => []
  | n :: ns => insD n (sortD ns)
def ordOk (x : D) : Bool := x.cmpb && decide (x.depth ≤ 60)
def okSort (xs : List D) : Bool := match xs with
  | [] => true
  | [_] => true
  | x :: _ => xs.all ordOk && (xs.all intTup || (sortHd x && xs.all fun y => x.shp y))
def lstAny (S : List D) : D → Option (List D)
  | .lst ds => some ds
  | .rdl ds => some ds
  | .loc n => match S[n]? with
    | some (.lst ds) => some ds
    | _ => none
  | _ => none
def bSortedD : List D → List D → R D
  | [x], S => match lstAny S x with
    | some xs => if okSort xs = true then .ok (.lst (sortD xs)) S else .bad
    | none => .bad
  | _, _ => .bad
end J
namespace J
/-- names are given up -/
def sDrop (ids : List Nat) (m : MS) : MS := fun E S => match m E S with
  | .nx E1 S1 => .nx (wipeE E1 ids) S1
  | _ => .bad
end J
set_option linter.all false
set_option maxRecDepth 100000
/-! exceptions of own classes that keep a whole number as their field -/
namespace J
open PySem (Str)
/-- raise C(e), kept as the field f -/
def sRaiseF (c f : Str) (a : ME) : MS := fun E S => (a E S).toO E fun d S1 => match d with
  | .int i => if i.natAbs.log2 < 1920 then .exc c [(f, .int i)] E S1 else .bad
  | _ => .bad
/-- try: .. except B as n: x = n.f if isinstance(n, C) else v; i the slot of n, j the slot of x; kt c: is a c a C -/
def sTryFld (kt : Str → Option Bool) (f : Str) (i j : Nat) (v : D) (mb : MS) : MS := fun E S => match mb E S with
  | .exc c fs E1 S1 => if i < E1.length then (match kt c with
    | some true => (match fs with
      | [(g, d)] => if g = f then .nx ((E1.set j (some d)).set i none) S1 else .bad
      | _ => .bad)
    | some false => .nx ((E1.set j (some v)).set i none) S1
    | none => .bad) else .bad
  | o => o
end J
set_option linter.all false
set_option maxRecDepth 100000
/-! more of tuples of known make: len, in, index; list(range(n)) -/
namespace J
def bLenK : List D → List D → R D
  | [.tuk xs], S => .ok (.int xs.length) S
  | xs, S => bLen xs S
def oInK (x y : D) (S : List D) : R D := match y with
  | .tuk xs => if cmpOk (seen S x) = true ∧ xs.all cmpOk = true then .ok (.bl (inD (seen S x) xs)) S else .bad
  | _ => oIn x y S
def oNinK (x y : D) (S : List D) : R D := match y with
  | .tuk xs => if cmpOk (seen S x) = true ∧ xs.all cmpOk = true then .ok (.bl (!inD (seen S x) xs)) S else .bad
  | _ => oNin x y S
/-- t.index(k), t of known make, k in it -/
def mIndexK : D → List D → List D → R D
  | .tuk xs, [.int k], S => match intsOf xs with
    | some ns => if k ∈ ns then .ok (.int (ns.idxOf k : Nat)) S else .bad
    | none => .bad
  | _, _, _ => .bad
/-- l.index(k), k in it -/
def mIndexL : D → List D → List D → R D
  | x, [.int k], S => match lstAny S x with
    | some xs => match intsOf xs with
      | some ns => if k ∈ ns then .ok (.int (ns.idxOf k : Nat)) S else .bad
      | none => .bad
    | none => .bad
  | _, _, _ => .bad
/-- list(range(n)) -/
def eLstRg (a : ME) : ME := fun E S => (a E S).bind fun x S1 => match x with
  | .int n => if 0 ≤ n ∧ n ≤ SL then .ok (.lst ((List.range n.toNat).map fun i : Nat => .int (i : Int))) S1 else .bad
  | _ => .bad
end J
set_option linter.all false
set_option maxRecDepth 100000
/-! l.extend(l2) -/
namespace J
def mExtend : D → List D → List D → R D
  | .loc n, [y], S => match S[n]? with
    | some (.lst xs) => match lstOf S y with
      | some zs => if xs.length + zs.length ≤ SL then .ok .non (S.set n (.lst (xs ++ zs))) else .bad
      | none => .bad
    | _ => .bad
  | _, _, _ => .bad
end J
set_option linter.all false
set_option maxRecDepth 100000
/-! min of tuples of one shape -/
namespace J
def minT (x : D) (xs : List D) : D := xs.foldl (fun a y => if D.lt y a = true then y else a) x
def okMin (x : D) (xs : List D) : Bool := (x :: xs).all ordOk && (x :: xs).all fun y => x.shp y
def bMinT : List D → List D → R D
  | [x], S => match lstAny S x with
    | some (y :: ys) => if okMin y ys = true then .ok (minT y ys) S else .bad
    | _ => .bad
  | _, _ => .bad
end J
set_option linter.all false
set_option maxRecDepth 100000
/-! an except that returns -/
namespace J
open PySem (Str)
/-- try: .. except B as n: return isinstance(n, C) and n.f == k; i the slot of n -/
def sTryRet (kt : Str → Option Bool) (f : Str) (i : Nat) (k : Int) (mb : MS) : MS := fun E S => match mb E S with
  | .exc c fs E1 S1 => if i < E1.length then (match kt c with
    | some true => (match fs with
      | [(g, .int m)] => if g = f then .rt (.bl (decide (m = k))) S1 else .bad
      | _ => .bad)
    | some false => .rt (.bl false) S1
    | none => .bad) else .bad
  | o => o
end J
set_option linter.all false
set_option maxRecDepth 100000
/-! range(a, b, -1); d.setdefault(k, x) of a dict that changes -/
namespace J
def iRngDn (a b c : ME) : MI := fun E S => (a E S).bind fun x S1 => (b E S1).bind fun y S2 => (c E S2).bind fun z S3 => match x, y, z with
  | .int i, .int j, .int k => if okR i = true ∧ okR j = true ∧ k = -1 then .ok (.its ((List.range (i - j).toNat).map fun t : Nat => .int (i + (t : Nat) * -1))) S3 else .bad
  | _, _, _ => .bad
def isDctB (S : List D) : D → Bool
  | .loc n => match S[n]? with
    | some (.dct _ _) => true
    | some (.dcT _ _) => true
    | _ => false
  | _ => false
/-- what the dict at n holds -/
def kSetd (x y z : D) (S : List D) : R D := match x with
  | .loc n => match S[n]? with
    | some (.dct ks ds) => match keyOf y with
      | some k => match getK ks ds k with
        | some d => if ks.length < SL then .ok d S else .bad
        | none => if ks.length < SL then .ok z (S.set n (.dct (ks ++ [k]) (ds ++ [z]))) else .bad
      | none => .bad
    | some (.dcT ks ds) => match keyT y with
      | some k => match getT ks ds k with
        | some d => if ks.length < SL then .ok d S else .bad
        | none => if ks.length < SL then .ok z (S.set n (.dcT (ks ++ [k]) (ds ++ [z]))) else .bad
      | none => .bad
    | _ => .bad
  | _ => .bad
def eSetd (o a b : ME) : ME := fun E S => (o E S).bind fun x S1 => if isDctB S1 x = true then (a E S1).bind fun y S2 => (b E S2).bind fun z S3 => kSetd x y z S3 else .bad
/-- a loop whose turns may leave new objects behind -/
def forGoN (src : Src) (t : Tg) (b : MS) : Nat → Nat → Env → List D → O
  | 0, _, E, S => if src.alive S = true then .nx E S else .bad
  | k + 1, i, E, S => if src.alive S = true then match src.at_ S i with
    | none => .bad
    | some d => match t.bind d E with
      | none => .bad
      | some E1 => match b E1 S with
        | .nx E2 S2 => forGoN src t b k (i + 1) E2 S2
        | .ct E2 S2 => forGoN src t b k (i + 1) E2 S2
        | .bk E2 S2 => .nx E2 S2
        | o => o
    else .bad
def sForN (t : Tg) (m : MI) (b : MS) : MS := fun E S => match m E S with
  | .ok src S1 => forGoN src t b src.len 0 E S1
  | .exc c fs S1 => .exc c fs E S1
  | .bad => .bad
/-- an int times a tuple, a list -/
def oMulR : D → D → List D → R D
  | .int k, .tup xs, S => if xs ≠ [] ∧ 2 ≤ k ∧ k ≤ 1000 ∧ xs.length ≤ 1000 then .ok (.tup (List.replicate k.toNat xs).flatten) S else .bad
  | .int k, y, S => match lstOf S y with
    | some xs => if -9223372036854775808 ≤ k ∧ k < 9223372036854775808 ∧ xs.length * k.toNat ≤ SL then .ok (.lst (List.replicate k.toNat xs).flatten) S else .bad
    | none => .bad
  | _, _, _ => .bad
/-- a dict comprehension whose dict changes afterwards -/
def dcGoL (src : Src) (t : Tg) (c : MT) (ek ev : ME) (E : Env) (n : Nat) : Nat → Nat → List Ky → List D → List D → R D
  | 0, _, ks, ds, S => if src.alive S = true then .ok (.loc S.length) (S ++ [.dct ks ds]) else .bad
  | k + 1, i, ks, ds, S => if src.alive S = true then match src.at_ S i with
    | none => .bad
    | some d => match t.bind d E with
      | none => .bad
      | some E1 => match c E1 S with
        | .ok b S1 => if b = true then match ek E1 S1 with
            | .ok x S2 => match keyOf x with
              | none => .bad
              | some q => match ev E1 S2 with
                | .ok y S3 => if n ≤ S3.length then dcGoL src t c ek ev E n k (i + 1) (putKs ks q) (putDs ks ds q y) S3 else .bad
                | _ => .bad
            | _ => .bad
          else if n ≤ S1.length then dcGoL src t c ek ev E n k (i + 1) ks ds S1 else .bad
        | _ => .bad
    else .bad
def eDcL (own : List Nat) (t : Tg) (m : MI) (c : MT) (ek ev : ME) : ME := fun E S => match m E S with
  | .ok src S1 => if src.len ≤ SL then dcGoL src t c ek ev (wipeE E own) S1.length src.len 0 [] [] S1 else .bad
  | .exc c fs S1 => .exc c fs S1
  | .bad => .bad
/-- list(d) of a dict that changes: its keys -/
def bListD : List D → List D → R D
  | [.loc n], S => match S[n]? with
    | some (.dct ks _) => .ok (.lst (ks.map kD)) S
    | _ => .bad
  | _, _ => .bad
end J
set_option linter.all false
set_option maxRecDepth 100000
/-! min(xs, key=f), f a def that gives an int and changes nothing -/
namespace J
def keyF (F : MF) (d : D) : Option (D × Int) := if d.flat = true then match F [d] [] with
  | .ok (.int k) [] => some (d, k)
  | _ => none else none
def minK (p : D × Int) (ps : List (D × Int)) : D × Int := ps.foldl (fun a y => if decide (y.2 < a.2) = true then y else a) p
def bMinK (F : MF) : List D → List D → R D
  | [x], S => match lstAny S x with
    | some ys => match ys.mapM (keyF F) with
      | some (p :: ps) => .ok (minK p ps).1 S
      | _ => .bad
    | none => .bad
  | _, _ => .bad
/-! dicts whose keys are tuples: d[k], in; {k: v} that changes -/
def keyInT (ks : List (List Ky)) (k : List Ky) : Bool := ks.any fun q => decide (q = k)
def oIxT (x i : D) (S : List D) : R D := match dctT S x with
  | some (ks, ds) => match keyT i with
    | some k => match getT ks ds k with
      | some d => .ok d S
      | none => .bad
    | none => .bad
  | none => .bad
def oInT (x y : D) (S : List D) : R D := match dctT S y with
  | some (ks, _) => match keyT x with
    | some k => .ok (.bl (keyInT ks k)) S
    | none => .bad
  | none => .bad
def oNinT (x y : D) (S : List D) : R D := match dctT S y with
  | some (ks, _) => match keyT x with
    | some k => .ok (.bl (!keyInT ks k)) S
    | none => .bad
  | none => .bad
def kDisp1T (x y : D) (S : List D) : R D := match keyT x with
  | some q => .ok (.loc S.length) (S ++ [.dcT [q] [y]])
  | none => .bad
def eDisp1TL (k v : ME) : ME := fun E S => (k E S).bind fun x S1 => (v E S1).bind fun y S2 => kDisp1T x y S2
end J
namespace J
open PySem (Str)
/-- try: .. except B: return v, v a constant -/
def sTryC (kt : Str → Option Bool) (v : D) (mb : MS) : MS := fun E S => match mb E S with
  | .exc c _ _ S1 => match kt c with
    | some _ => .rt v S1
    | none => .bad
  | o => o
end J
namespace J
/-- a new list by + -/
def oAddL (x y : D) (S : List D) : R D := mkL (oAdd x y S)
end J
set_option linter.all false
set_option maxRecDepth 100000
/-! tuples of known make that are made by +, slices, * n; what else is asked of them -/
namespace J
def bTupD (xs : List D) (S : List D) : R D := if xs.length ≤ SL then .ok (.tuk xs) S else .bad
def oAddK (x y : D) (S : List D) : R D := match x, y with
  | .tuk xs, .tuk ys => if xs.length + ys.length ≤ SL then .ok (.tuk (xs ++ ys)) S else .bad
  | _, _ => oAdd x y S
def oSlK (x : D) (lo hi : Option Int) (S : List D) : R D := match x with
  | .tuk xs => .ok (.tuk (cutOf xs lo hi)) S
  | _ => oSl x lo hi S
def eSlK (a : ME) (lo hi : Option ME) : ME := fun E S => (a E S).bind fun x S1 => (ePart lo E S1).bind fun l S2 => (ePart hi E S2).bind fun h S3 => oSlK x l h S3
def oRevK (x : D) (S : List D) : R D := match x with
  | .tuk xs => .ok (.tuk xs.reverse) S
  | _ => .bad
def eRevK (ma : ME) : ME := eUn oRevK ma
/-- (x,) * n -/
def oMulK (x y : D) (S : List D) : R D := match x, y with
  | .tuk [d], .int k => if 0 ≤ k ∧ k ≤ 1000 then .ok (.tuk (List.replicate k.toNat d)) S else .bad
  | _, _ => .bad
def oIxK (x i : D) (S : List D) : R D := match x with
  | .tuk xs => match i with
    | .int k => match atOf xs k with
      | some d => .ok d S
      | none => .bad
    | _ => .bad
  | _ => oIx x i S
/-- t != () -/
def oNeK (x y : D) (S : List D) : R D := match x, y with
  | .tuk xs, .tup [] => if cmpOk (.tup xs) = true then .ok (.bl (!xs.isEmpty)) S else .bad
  | _, _ => oNe x y S
def bListK : List D → List D → R D
  | [.tuk xs], S => .ok (.lst xs) S
  | xs, S => bList xs S
def bSortedK : List D → List D → R D
  | [.tuk xs], S => match intsOf xs with
    | some ns => .ok (.lst ((sortI ns).map D.int)) S
    | none => .bad
  | xs, S => bSorted xs S
end J
set_option linter.all false
set_option maxRecDepth 100000
/-! a tuple of known make of any items, n times -/
namespace J
def oMulG (x y : D) (S : List D) : R D := match x, y with
  | .tuk xs, .int k => if xs ≠ [] ∧ 2 ≤ k ∧ k ≤ 1000 ∧ xs.length ≤ 1000 then .ok (.tuk (List.replicate k.toNat xs).flatten) S else .bad
  | _, _ => .bad
end J
set_option linter.all false
set_option maxRecDepth 100000
/-! dicts whose keys are tuples: list(d), sorted(d.keys()) -/
namespace J
open PySem (Str)
def tupK (k : List Ky) : D := .tup (k.map kD)
def bListT : List D → List D → R D
  | [x], S => match dctT S x with
    | some (ks, _) => if ks.length ≤ SL then .ok (.lst (ks.map tupK)) S else .bad
    | none => .bad
  | _, _ => .bad
def kSortT (x : D) (S : List D) : R D := match dctT S x with
  | some (ks, _) => if okSort (ks.map tupK) = true then .ok (.lst (sortD (ks.map tupK))) S else .bad
  | none => .bad
def eSortT (a : ME) : ME := fun E S => (a E S).bind fun x S1 => kSortT x S1
def bLenT : List D → List D → R D
  | [.loc n], S => match S[n]? with
    | some (.dcT ks _) => .ok (.int ks.length) S
    | _ => .bad
  | _, _ => .bad
/-! loops whose turns leave new objects in names: these stay as they are from then on -/
def goneF (n : Nat) (S : List D) : Option D → Option D
  | some d => if D.flat d = true then some d else match d with
    | .loc k => if k < n then some (.loc k) else match S[k]? with
      | some o => if D.flat o = true then some o else none
      | none => none
    | _ => none
  | none => none
def gcF (n : Nat) (E : Env) (S : List D) : Option (Env × List D) :=
  if S.length = n then some (E, S) else if n ≤ S.length ∧ (S.take n).all D.flat = true then some (E.map (goneF n S), S.take n) else none
def forGoF (src : Src) (t : Tg) (b : MS) (n : Nat) : Nat → Nat → Env → List D → O
  | 0, _, E, S => if src.alive S = true then .nx E S else .bad
  | k + 1, i, E, S => if src.alive S = true then match src.at_ S i with
    | none => .bad
    | some d => match t.bind d E with
      | none => .bad
      | some E1 => match b E1 S with
        | .nx E2 S2 => match gcF n E2 S2 with
          | some (E3, S3) => forGoF src t b n k (i + 1) E3 S3
          | none => .bad
        | .ct E2 S2 => match gcF n E2 S2 with
          | some (E3, S3) => forGoF src t b n k (i + 1) E3 S3
          | none => .bad
        | .bk E2 S2 => .nx E2 S2
        | o => o
    else .bad
def sForF (t : Tg) (m : MI) (b : MS) : MS := fun E S => match m E S with
  | .ok src S1 => forGoF src t b S1.length src.len 0 E S1
  | .exc c fs S1 => .exc c fs E S1
  | .bad => .bad
def whileGoF (t : MT) (b : MS) (n : Nat) : Nat → Env → List D → O
  | 0, _, _ => .bad
  | k + 1, E, S => (t E S).tO E fun c S1 => if c = true then match b E S1 with
      | .nx E2 S2 => match gcF n E2 S2 with
        | some (E3, S3) => whileGoF t b n k E3 S3
        | none => .bad
      | .ct E2 S2 => match gcF n E2 S2 with
        | some (E3, S3) => whileGoF t b n k E3 S3
        | none => .bad
      | .bk E2 S2 => .nx E2 S2
      | o => o
    else .nx E S1
def sWhileF (fuel : Nat) (t : MT) (b : MS) : MS := fun E S => whileGoF t b S.length fuel E S
end J
set_option Elab.async false
set_option linter.all false
set_option maxRecDepth 100000
namespace J
open PySem PySem.Spec PyProof.Rows L2

/-! ### the world: which addresses may change, which of them stand in the store, the heap -/
structure W where
  thA : Addr → Prop
  rhA : List Addr
  H : Hp
structure G where
  K : PySem.W.Frag
  mg : Str → Option Value
def WrT (K : PySem.W.Frag) (a : Addr) (xs : List V) : Prop :=
  ∃ (o : Obj) (its : Array Value) (n : Nat), K.lookup a = some o ∧ o.cls = .type "tuple" ∧ o.data = .seq its n ∧ its.size ≤ sizeLine ∧ Vals xs its.toList
def WrL (K : PySem.W.Frag) (a : Addr) (xs : List V) : Prop :=
  ∃ (o : Obj) (its : Array Value) (n : Nat), K.lookup a = some o ∧ o.cls = .type "list" ∧ o.dict = none ∧ o.data = .seq its n ∧ its.size ≤ sizeLine ∧ Vals xs its.toList
def TupAt (g : G) (w : W) (a : Addr) (xs : List V) : Prop := w.H a = some (.tup xs) ∧ ¬ w.thA a
def RdlAt (g : G) (w : W) (a : Addr) (xs : List V) : Prop := (Rd w.H a (.lst xs) ∧ ¬ w.thA a) ∨ WrL g.K a xs
theorem TupAt.sq {g : G} {w : W} {a : Addr} {xs : List V} (h : TupAt g w a xs) : SqT g.K w.H a xs := .inl (.inl h.1)
theorem RdlAt.sq {g : G} {w : W} {a : Addr} {xs : List V} (h : RdlAt g w a xs) : SqL g.K w.H a xs := h.elim (fun h => .inl h.1) .inr

mutual
def RD (g : G) (w : W) : D → V → Prop
  | .non, v => v = .non
  | .bl b, v => v = .bl b
  | .int i, v => v = .int i
  | .str x, v => v = .str x
  | .ty n, v => v = .ty n
  | .tup ds, v => ∃ a vs, v = .ref a ∧ TupAt g w a vs ∧ RDs g w ds vs
  | .lst ds, v => ∃ a vs, v = .ref a ∧ w.H a = some (.lst vs) ∧ ¬ w.thA a ∧ RDs g w ds vs
  | .rdl ds, v => ∃ a vs, v = .ref a ∧ RdlAt g w a vs ∧ RDs g w ds vs
  | .dct ks ds, v => ∃ a vs, v = .ref a ∧ Rd w.H a (.dK (ks.zip vs)) ∧ ks.length = vs.length ∧ ¬ w.thA a ∧ RDs g w ds vs
  | .dcT ks ds, v => ∃ a vs, v = .ref a ∧ Rd w.H a (.dT (ks.zip vs)) ∧ ks.length = vs.length ∧ ¬ w.thA a ∧ RDs g w ds vs
  | .tuk ds, v => ∃ a vs o, v = .ref a ∧ w.H a = some (.frz o (.tup vs)) ∧ o.dict = none ∧ ¬ w.thA a ∧ RDs g w ds vs
  | .loc n, v => ∃ a, v = .ref a ∧ w.rhA[n]? = some a
def RDs (g : G) (w : W) : List D → List V → Prop
  | [], vs => vs = []
  | d :: ds, vs => ∃ v r, vs = v :: r ∧ RD g w d v ∧ RDs g w ds r
end
def RO (g : G) (w : W) : D → Addr → Prop
  | .lst ds, a => ∃ vs, w.H a = some (.lst vs) ∧ RDs g w ds vs
  | .dct ks ds, a => ∃ vs, w.H a = some (.dK (ks.zip vs)) ∧ ks.length = vs.length ∧ RDs g w ds vs
  | .dcT ks ds, a => ∃ vs, w.H a = some (.dT (ks.zip vs)) ∧ ks.length = vs.length ∧ RDs g w ds vs
  | _, _ => False
/-- a dict of either kind -/
def dkt : Sum (List (Key × V)) (List (List Key × V)) → HO
  | .inl k => .dK k
  | .inr k => .dT k
theorem dkt_frz {o : Obj} {u : HO} (k : Sum (List (Key × V)) (List (List Key × V))) : HO.frz o u ≠ dkt k := by
  cases k <;> (intro z; simp [dkt] at z)
theorem dkt_lst {u : List V} (k : Sum (List (Key × V)) (List (List Key × V))) : HO.lst u ≠ dkt k := by
  cases k <;> (intro z; simp [dkt] at z)
theorem dkt_tup {u : List V} (k : Sum (List (Key × V)) (List (List Key × V))) : HO.tup u ≠ dkt k := by
  cases k <;> (intro z; simp [dkt] at z)
structure Good (w : W) : Prop where
  nd : w.rhA.Nodup
  sub : ∀ a, a ∈ w.rhA → w.thA a
  al : ∀ a, w.thA a → w.H a ≠ none
  nt : ∀ a, w.thA a → ∀ xs, w.H a ≠ some (.tup xs)
structure Ext (w w' : W) : Prop where
  rho : ∃ τ, w'.rhA = w.rhA ++ τ ∧ ∀ a, a ∈ τ → w.H a = none
  th1 : ∀ a, w.thA a → w'.thA a
  th2 : ∀ a, w'.thA a → w.thA a ∨ w.H a = none
  kp : ∀ a o, w.H a = some o → a ∉ w.rhA → w'.H a = some o ∨ (¬ w.thA a ∧ ∃ od kvs, o = dkt kvs ∧ w'.H a = some (.frz od (dkt kvs)))
  al : ∀ a, w.H a ≠ none → w'.H a ≠ none
theorem Ext.refl (w : W) : Ext w w := ⟨⟨[], by simp, by simp⟩, fun _ h => h, fun _ h => .inl h, fun _ _ h _ => .inl h, fun _ h => h⟩
theorem none_or {H : Hp} (a : Addr) : H a = none ∨ ∃ o, H a = some o := by
  cases h : H a with
  | none => exact .inl rfl
  | some o => exact .inr ⟨o, rfl⟩
theorem Ext.trans {w w1 w2 : W} (x : Ext w w1) (y : Ext w1 w2) : Ext w w2 := by
  obtain ⟨τ, e1, f1⟩ := x.rho
  obtain ⟨τ2, e2, f2⟩ := y.rho
  have back : ∀ a, w1.H a = none → w.H a = none := fun a h => by
    rcases none_or (H := w.H) a with q | ⟨o, q⟩
    · exact q
    · exact absurd h (x.al a (by rw [q]; simp))
  refine ⟨⟨τ ++ τ2, by rw [e2, e1, List.append_assoc], fun a h => ?_⟩, fun a h => y.th1 a (x.th1 a h), fun a h => ?_, fun a o h n => ?_, fun a h => y.al a (x.al a h)⟩
  · rcases List.mem_append.mp h with h | h
    · exact f1 a h
    · exact back a (f2 a h)
  · rcases y.th2 a h with h | h
    · exact x.th2 a h
    · exact .inr (back a h)
  · have n1 : a ∉ w1.rhA := fun h2 => by
      rw [e1] at h2
      rcases List.mem_append.mp h2 with h2 | h2
      · exact n h2
      · rw [f1 a h2] at h; cases h
    rcases x.kp a o h n with q | ⟨nt, od, kvs, eo, q⟩
    · rcases y.kp a o q n1 with q2 | ⟨nt, od, kvs, eo, q2⟩
      · exact .inl q2
      · exact .inr ⟨fun z => nt (x.th1 a z), od, kvs, eo, q2⟩
    · rcases y.kp a _ q n1 with q2 | ⟨_, od2, kvs2, eo2, q2⟩
      · exact .inr ⟨nt, od, kvs, eo, q2⟩
      · exact absurd eo2 (dkt_frz _)
/-- but for dicts that are looked through -/
theorem Ext.kpN {w w' : W} (x : Ext w w') {a : Addr} {o : HO} (h : w.H a = some o) (n : a ∉ w.rhA) (hn : ∀ kvs, o ≠ dkt kvs) : w'.H a = some o := by
  rcases x.kp a o h n with q | ⟨_, od, kvs, eo, q⟩
  · exact q
  · exact absurd eo (hn kvs)
theorem Ext.kpT {w w' : W} (x : Ext w w') {a : Addr} {o : HO} (h : w.H a = some o) (n : a ∉ w.rhA) (ht : w.thA a) : w'.H a = some o := by
  rcases x.kp a o h n with q | ⟨nt, od, kvs, eo, q⟩
  · exact q
  · exact absurd ht nt
theorem Ext.free {w w' : W} (x : Ext w w') {a : Addr} (h : w'.H a = none) : w.H a = none := by
  rcases none_or (H := w.H) a with q | ⟨o, q⟩
  · exact q
  · exact absurd h (x.al a (by rw [q]; simp))
theorem Ext.get {w w' : W} (x : Ext w w') {n : Nat} {a : Addr} (h : w.rhA[n]? = some a) : w'.rhA[n]? = some a := by
  obtain ⟨τ, e, _⟩ := x.rho
  rw [e, List.getElem?_append_left (List.getElem?_eq_some_iff.mp h).1]
  exact h
theorem Ext.th {w w' : W} (x : Ext w w') {a : Addr} {o : HO} (h : w.H a = some o) (n : ¬ w.thA a) : ¬ w'.thA a := fun z => by
  rcases x.th2 a z with z | z
  · exact n z
  · rw [h] at z; cases z
theorem Ext.fz {w w' : W} (G : Good w) (x : Ext w w') {a : Addr} {o : HO} (h : w.H a = some o) (n : ¬ w.thA a) (hn : ∀ kvs, o ≠ dkt kvs := by first | exact dkt_lst | exact dkt_tup | exact dkt_frz) : w'.H a = some o := x.kpN h (fun z => n (G.sub a z)) hn
theorem Ext.fzD {w w' : W} (G : Good w) (x : Ext w w') {a : Addr} {u : HO} (h : Rd w.H a u) (n : ¬ w.thA a) : Rd w'.H a u := by
  have na : a ∉ w.rhA := fun z => n (G.sub a z)
  rcases h with h | ⟨o, h⟩
  · rcases x.kp a _ h na with q | ⟨_, od, kvs2, eo, q⟩
    · exact .inl q
    · exact .inr ⟨od, by rw [eo]; exact q⟩
  · exact .inr ⟨o, x.kpN h na dkt_frz⟩
theorem Ext.thD {w w' : W} (x : Ext w w') {a : Addr} {u : HO} (h : Rd w.H a u) (n : ¬ w.thA a) : ¬ w'.thA a := by
  rcases h with h | ⟨o, h⟩
  · exact x.th h n
  · exact x.th h n
theorem TupAt.mono {g : G} {w w' : W} (G : Good w) (x : Ext w w') {a : Addr} {vs : List V} (h : TupAt g w a vs) : TupAt g w' a vs :=
  ⟨x.fz G h.1 h.2, x.th h.1 h.2⟩
theorem RdlAt.mono {g : G} {w w' : W} (G : Good w) (x : Ext w w') {a : Addr} {vs : List V} (h : RdlAt g w a vs) : RdlAt g w' a vs := by
  rcases h with ⟨h | ⟨o, h⟩, n⟩ | h
  · exact .inl ⟨.inl (x.fz G h n), x.th h n⟩
  · exact .inl ⟨.inr ⟨o, x.fz G h n⟩, x.th h n⟩
  · exact .inr h
mutual
theorem RD.mono {g : G} {w w' : W} (G : Good w) (x : Ext w w') : ∀ (d : D) (v : V), RD g w d v → RD g w' d v
  | .non, _, h => h
  | .bl _, _, h => h
  | .int _, _, h => h
  | .str _, _, h => h
  | .ty _, _, h => h
  | .tup ds, v, h => by
    obtain ⟨a, vs, e, t, r⟩ := h
    exact ⟨a, vs, e, t.mono G x, RDs.mono G x ds vs r⟩
  | .lst ds, v, h => by
    obtain ⟨a, vs, e, t, n, r⟩ := h
    exact ⟨a, vs, e, x.fz G t n, x.th t n, RDs.mono G x ds vs r⟩
  | .rdl ds, v, h => by
    obtain ⟨a, vs, e, t, r⟩ := h
    exact ⟨a, vs, e, t.mono G x, RDs.mono G x ds vs r⟩
  | .dct ks ds, v, h => by
    obtain ⟨a, vs, e, t, l, n, r⟩ := h
    exact ⟨a, vs, e, x.fzD G t n, l, x.thD t n, RDs.mono G x ds vs r⟩
  | .dcT ks ds, v, h => by
    obtain ⟨a, vs, e, t, l, n, r⟩ := h
    exact ⟨a, vs, e, x.fzD G t n, l, x.thD t n, RDs.mono G x ds vs r⟩
  | .tuk ds, v, h => by
    obtain ⟨a, vs, o, e, t, l, n, r⟩ := h
    exact ⟨a, vs, o, e, x.fz G t n, l, x.th t n, RDs.mono G x ds vs r⟩
  | .loc n, v, h => by
    obtain ⟨a, e, t⟩ := h
    exact ⟨a, e, x.get t⟩
theorem RDs.mono {g : G} {w w' : W} (G : Good w) (x : Ext w w') : ∀ (ds : List D) (vs : List V), RDs g w ds vs → RDs g w' ds vs
  | [], _, h => h
  | d :: ds, vs, h => by
    obtain ⟨v, r, e, h1, h2⟩ := h
    exact ⟨v, r, e, RD.mono G x d v h1, RDs.mono G x ds r h2⟩
end
/-! lists of values -/
theorem RDs.length {g : G} {w : W} : ∀ {ds : List D} {vs : List V}, RDs g w ds vs → vs.length = ds.length
  | [], _, h => by cases h; rfl
  | d :: ds, _, h => by
    obtain ⟨v, r, rfl, _, h2⟩ := h
    simp [RDs.length h2]
theorem RDs.get {g : G} {w : W} : ∀ {ds : List D} {vs : List V} {i : Nat} {d : D}, RDs g w ds vs → ds[i]? = some d → ∃ v, vs[i]? = some v ∧ RD g w d v
  | [], _, _, _, _, e => by simp at e
  | d :: ds, _, 0, _, h, e => by
    obtain ⟨v, r, rfl, h1, h2⟩ := h
    simp at e
    subst e
    exact ⟨v, rfl, h1⟩
  | d :: ds, _, i + 1, _, h, e => by
    obtain ⟨v, r, rfl, h1, h2⟩ := h
    obtain ⟨u, h3, h4⟩ := RDs.get (i := i) h2 (by simpa using e)
    exact ⟨u, by simpa using h3, h4⟩
theorem RDs.back {g : G} {w : W} {ds : List D} {vs : List V} {i : Nat} {v : V} (h : RDs g w ds vs) (e : vs[i]? = some v) : ∃ d, ds[i]? = some d ∧ RD g w d v := by
  have l := h.length
  have hi : i < ds.length := by rw [← l]; exact (List.getElem?_eq_some_iff.mp e).1
  obtain ⟨v', h1, h2⟩ := h.get (List.getElem?_eq_getElem hi)
  rw [e] at h1
  cases h1
  exact ⟨_, List.getElem?_eq_getElem hi, h2⟩
theorem RDs.append {g : G} {w : W} : ∀ {ds es : List D} {vs us : List V}, RDs g w ds vs → RDs g w es us → RDs g w (ds ++ es) (vs ++ us)
  | [], _, _, _, h, k => by cases h; exact k
  | d :: ds, _, _, _, h, k => by
    obtain ⟨v, r, rfl, h1, h2⟩ := h
    exact ⟨v, r ++ _, rfl, h1, RDs.append h2 k⟩
theorem RDs.one {g : G} {w : W} {d : D} {v : V} (h : RD g w d v) : RDs g w [d] [v] := ⟨v, [], rfl, h, rfl⟩
theorem RDs.cons {g : G} {w : W} {d : D} {v : V} {ds : List D} {vs : List V} (h : RD g w d v) (t : RDs g w ds vs) : RDs g w (d :: ds) (v :: vs) := ⟨v, vs, rfl, h, t⟩
theorem RDs.drop {g : G} {w : W} : ∀ {ds : List D} {vs : List V} (n : Nat), RDs g w ds vs → RDs g w (ds.drop n) (vs.drop n)
  | _, _, 0, h => h
  | [], _, n + 1, h => by cases h; rfl
  | d :: ds, _, n + 1, h => by
    obtain ⟨v, r, rfl, h1, h2⟩ := h
    exact RDs.drop n h2
theorem RDs.take {g : G} {w : W} : ∀ {ds : List D} {vs : List V} (n : Nat), RDs g w ds vs → RDs g w (ds.take n) (vs.take n)
  | _, _, 0, h => rfl
  | [], _, n + 1, h => by cases h; rfl
  | d :: ds, _, n + 1, h => by
    obtain ⟨v, r, rfl, h1, h2⟩ := h
    exact ⟨v, r.take n, rfl, h1, RDs.take n h2⟩
theorem RDs.set {g : G} {w : W} : ∀ {ds : List D} {vs : List V} (n : Nat) {d : D} {v : V}, RDs g w ds vs → RD g w d v → RDs g w (ds.set n d) (vs.set n v)
  | [], _, _, _, _, h, k => by cases h; rfl
  | e :: ds, _, 0, _, _, h, k => by
    obtain ⟨v, r, rfl, h1, h2⟩ := h
    exact ⟨_, r, rfl, k, h2⟩
  | e :: ds, _, n + 1, _, _, h, k => by
    obtain ⟨v, r, rfl, h1, h2⟩ := h
    exact ⟨v, _, rfl, h1, RDs.set n h2 k⟩
theorem RDs.reverse {g : G} {w : W} : ∀ {ds : List D} {vs : List V}, RDs g w ds vs → RDs g w ds.reverse vs.reverse
  | [], _, h => by cases h; rfl
  | d :: ds, _, h => by
    obtain ⟨v, r, rfl, h1, h2⟩ := h
    rw [List.reverse_cons, List.reverse_cons]
    exact (RDs.reverse h2).append (RDs.one h1)
theorem RDs.rep {g : G} {w : W} {ds : List D} {vs : List V} (h : RDs g w ds vs) : ∀ k : Nat, RDs g w (List.replicate k ds).flatten (List.replicate k vs).flatten
  | 0 => rfl
  | k + 1 => by
    rw [List.replicate_succ, List.replicate_succ, List.flatten_cons, List.flatten_cons]
    exact h.append (RDs.rep h k)
/-! the environment, the store -/
def RE (g : G) (w : W) (E : Env) (σ : L2.St) : Prop := E.length = σ.length ∧ ∀ (i : Nat) (d : D), E[i]? = some (some d) → ∃ v, σ[i]? = some (some v) ∧ RD g w d v
def RS (g : G) (w : W) (S : List D) : Prop := S.length = w.rhA.length ∧ ∀ (n : Nat) (d : D), S[n]? = some d → ∃ a, w.rhA[n]? = some a ∧ RO g w d a
theorem RE.mono {g : G} {w w' : W} {E : Env} {σ : L2.St} (G : Good w) (x : Ext w w') (h : RE g w E σ) : RE g w' E σ := ⟨h.1, fun i d e => by
  obtain ⟨v, h1, h2⟩ := h.2 i d e
  exact ⟨v, h1, h2.mono G x⟩⟩
theorem RO.mono {g : G} {w w' : W} {d : D} {a : Addr} (G : Good w) (x : Ext w w') (e : w'.H a = w.H a) (h : RO g w d a) : RO g w' d a := by
  cases d <;> try exact h.elim
  · obtain ⟨vs, h1, h2⟩ := h
    exact ⟨vs, e.trans h1, h2.mono G x⟩
  · obtain ⟨vs, h1, h3, h2⟩ := h
    exact ⟨vs, e.trans h1, h3, h2.mono G x⟩
  · obtain ⟨vs, h1, h3, h2⟩ := h
    exact ⟨vs, e.trans h1, h3, h2.mono G x⟩
theorem RO.there {g : G} {w : W} {d : D} {a : Addr} (h : RO g w d a) : w.H a ≠ none := by
  cases d <;> try exact h.elim
  · obtain ⟨vs, h1, _⟩ := h
    rw [h1]; simp
  · obtain ⟨vs, h1, _⟩ := h
    rw [h1]; simp
  · obtain ⟨vs, h1, _⟩ := h
    rw [h1]; simp
/-- the store stands where its objects stand -/
theorem RS.keep {g : G} {w w' : W} {S : List D} (G : Good w) (x : Ext w w') (hr : w'.rhA = w.rhA) (hk : ∀ a, a ∈ w.rhA → w'.H a = w.H a) (h : RS g w S) : RS g w' S := ⟨by rw [hr]; exact h.1, fun n d e => by
  obtain ⟨a, h1, h2⟩ := h.2 n d e
  exact ⟨a, by rw [hr]; exact h1, h2.mono G x (hk a (List.mem_of_getElem? h1))⟩⟩
/-- a new object that stays as it is -/
abbrev W.put (w : W) (p : Addr) (o : HO) : W := { w with H := upd w.H p o }
theorem put_ext {w : W} {p : Addr} {o : HO} (hp : w.H p = none) : Ext w (w.put p o) := by
  refine ⟨⟨[], by simp, by simp⟩, fun _ h => h, fun _ h => .inl h, fun a u h _ => ?_, fun a h => ?_⟩
  · refine .inl ?_
    show upd w.H p o a = some u
    exact (upd_ne (ne_of_none h hp)).trans h
  · show upd w.H p o a ≠ none
    by_cases e : a = p
    · rw [e, upd_same]; simp
    · rw [upd_ne e]; exact h
theorem put_good {w : W} {p : Addr} {o : HO} (G : Good w) (hp : w.H p = none) : Good (w.put p o) := ⟨G.nd, G.sub, fun a h => by
  show upd w.H p o a ≠ none
  by_cases e : a = p
  · rw [e, upd_same]; simp
  · rw [upd_ne e]; exact G.al a h, fun a h xs => by
  show upd w.H p o a ≠ some (.tup xs)
  rw [upd_ne fun e => G.al a h (by rw [e]; exact hp)]
  exact G.nt a h xs⟩
theorem put_store {g : G} {w : W} {p : Addr} {o : HO} {S : List D} (G : Good w) (hp : w.H p = none) (h : RS g w S) : RS g (w.put p o) S :=
  h.keep G (put_ext hp) rfl fun a ha => by
    have := G.al a (G.sub a ha)
    exact upd_ne fun e => this (by rw [e]; exact hp)
theorem put_th {w : W} {p : Addr} (G : Good w) (hp : w.H p = none) : ¬ w.thA p := fun h => G.al p h hp
/-- a new object of the store -/
abbrev W.add (w : W) (p : Addr) (o : HO) : W := ⟨fun a => w.thA a ∨ a = p, w.rhA ++ [p], upd w.H p o⟩
theorem add_ext {w : W} {p : Addr} {o : HO} (hp : w.H p = none) : Ext w (w.add p o) := by
  refine ⟨⟨[p], rfl, fun a h => ?_⟩, fun _ h => .inl h, fun a h => ?_, fun a u h _ => ?_, fun a h => ?_⟩
  · rw [List.mem_singleton.mp h]; exact hp
  · rcases h with h | h
    · exact .inl h
    · rw [h]; exact .inr hp
  · refine .inl ?_
    show upd w.H p o a = some u
    exact (upd_ne (ne_of_none h hp)).trans h
  · show upd w.H p o a ≠ none
    by_cases e : a = p
    · rw [e, upd_same]; simp
    · rw [upd_ne e]; exact h
theorem add_good {w : W} {p : Addr} {o : HO} (G : Good w) (hp : w.H p = none) (hno : ∀ xs, o ≠ .tup xs := by intro _ z; cases z) : Good (w.add p o) := by
  refine ⟨?_, fun a h => ?_, fun a h => ?_, fun a h xs => ?_⟩
  · show (w.rhA ++ [p]).Nodup
    rw [List.nodup_append]
    refine ⟨G.nd, by simp, fun a ha b hb e => ?_⟩
    rw [List.mem_singleton.mp hb] at e
    exact G.al a (G.sub a ha) (by rw [e]; exact hp)
  · rcases List.mem_append.mp h with h | h
    · exact .inl (G.sub a h)
    · exact .inr (List.mem_singleton.mp h)
  · show upd w.H p o a ≠ none
    by_cases e : a = p
    · rw [e, upd_same]; simp
    · rw [upd_ne e]
      rcases h with h | h
      · exact G.al a h
      · exact absurd h e
  · show upd w.H p o a ≠ some (.tup xs)
    by_cases e : a = p
    · rw [e, upd_same]
      intro z
      exact hno xs (Option.some.inj z)
    · rw [upd_ne e]
      rcases h with h | h
      · exact G.nt a h xs
      · exact absurd h e
theorem add_store {g : G} {w : W} {p : Addr} {o : HO} {S : List D} {d : D} (G : Good w) (hp : w.H p = none) (h : RS g w S) (hd : RO g (w.add p o) d p) : RS g (w.add p o) (S ++ [d]) := by
  refine ⟨by simp [h.1], fun n e he => ?_⟩
  by_cases hn : n < S.length
  · rw [List.getElem?_append_left hn] at he
    obtain ⟨a, h1, h2⟩ := h.2 n e he
    have ha := List.mem_of_getElem? h1
    refine ⟨a, by rw [List.getElem?_append_left (by rw [← h.1]; exact hn)]; exact h1, h2.mono G (add_ext hp) ?_⟩
    exact upd_ne fun e => G.al a (G.sub a ha) (by rw [e]; exact hp)
  · have hl : n = S.length := by
      have := (List.getElem?_eq_some_iff.mp he).1
      simp at this
      omega
    subst hl
    simp at he
    subst he
    exact ⟨p, by rw [h.1]; simp, hd⟩
/-- an object that may change is changed -/
theorem upd_ext {w : W} {a : Addr} {o : HO} (ha : a ∈ w.rhA) : Ext w { w with H := upd w.H a o } := by
  refine ⟨⟨[], by simp, by simp⟩, fun _ h => h, fun _ h => .inl h, fun b u h n => ?_, fun b h => ?_⟩
  · refine .inl ?_
    show upd w.H a o b = some u
    rw [upd_ne fun e => n (by rw [e]; exact ha)]
    exact h
  · show upd w.H a o b ≠ none
    by_cases e : b = a
    · rw [e, upd_same]; simp
    · rw [upd_ne e]; exact h
theorem upd_store {g : G} {w : W} {a : Addr} {o : HO} {S : List D} {n : Nat} {d : D} (G : Good w) (h : RS g w S) (ha : w.rhA[n]? = some a) (hd : RO g { w with H := upd w.H a o } d a) : RS g { w with H := upd w.H a o } (S.set n d) := by
  have mem := List.mem_of_getElem? ha
  refine ⟨by simp [h.1], fun m e he => ?_⟩
  by_cases hm : m = n
  · subst hm
    have : m < S.length := by rw [h.1]; exact (List.getElem?_eq_some_iff.mp ha).1
    rw [List.getElem?_set_self this] at he
    cases he
    exact ⟨a, ha, hd⟩
  · rw [List.getElem?_set_ne (Ne.symm hm)] at he
    obtain ⟨b, h1, h2⟩ := h.2 m e he
    refine ⟨b, h1, h2.mono G (upd_ext mem) ?_⟩
    refine upd_ne fun e => hm ?_
    subst e
    exact nd_ix G.nd h1 ha
theorem RS.obj {g : G} {w : W} {S : List D} {n : Nat} {a : Addr} {d : D} (h : RS g w S) (ha : w.rhA[n]? = some a) (hd : S[n]? = some d) : RO g w d a := by
  obtain ⟨b, h1, h2⟩ := h.2 n d hd
  rw [ha] at h1
  cases h1
  exact h2
end J
set_option Elab.async false
set_option linter.all false
set_option maxRecDepth 100000
namespace J
open PySem PySem.Spec PyProof.Rows L2

/-! ### readings -/
abbrev _root_.L2.Cx.g (X : L2.Cx) : G := ⟨X.K, X.mg⟩
def RX (g : G) (w : W) (c : Str) (fs : List (Str × D)) (cls : Value) (dx : Option Addr) : Prop :=
  ∃ C, g.mg c = some (.ref C) ∧ cls = .ref C ∧ ((fs = [] ∧ dx = none) ∨ ∃ d vs, fs ≠ [] ∧ dx = some d ∧ w.H d = some (.xd ((fs.map (·.1)).zip vs)) ∧ ¬ w.thA d ∧ RDs g w (fs.map (·.2)) vs)
/-- from the world w the end r is met -/
def PR {α β : Type} (g : G) (Wx : WX) (σ : L2.St) (w : W) (rel : W → α → β → Prop) (Q : β → Hp → Prop) : R α → Prop
  | .ok d S => ∀ v w', Ext w w' → Good w' → rel w' d v → RS g w' S → Q v w'.H
  | .exc c fs S => ∀ cls dx w', Ext w w' → Good w' → RX g w' c fs cls dx → RS g w' S → Wx cls dx σ w'.H
  | .bad => False
structure At (g : G) (w : W) (E : Env) (σ : L2.St) (H : Hp) (S : List D) : Prop where
  hp : w.H = H
  good : Good w
  env : RE g w E σ
  sto : RS g w S
def relB (_ : W) (a b : Bool) : Prop := a = b
def relO (_ : W) (a b : Option Int) : Prop := a = b
def TEof (g : G) (Wx : WX) (m : ME) : TE := fun σ H Q => ∃ w E S, At g w E σ H S ∧ PR g Wx σ w (RD g) Q (m E S)
def TTof (g : G) (Wx : WX) (m : MT) : TT := fun σ H Q => ∃ w E S, At g w E σ H S ∧ PR g Wx σ w relB Q (m E S)
def TAof (g : G) (Wx : WX) (m : MA) : TA := fun σ H Q => ∃ w E S, At g w E σ H S ∧ PR g Wx σ w (RDs g) Q (m E S)
theorem PR.at {α β : Type} {g : G} {Wx : WX} {σ : L2.St} {w w1 : W} {rel : W → α → β → Prop} {Q : β → Hp → Prop} {r : R α} (h : PR g Wx σ w rel Q r) (x : Ext w w1) : PR g Wx σ w1 rel Q r := by
  cases r with
  | ok d S => exact fun v w' y => h v w' (x.trans y)
  | exc c fs S => exact fun cls dx w' y => h cls dx w' (x.trans y)
  | bad => exact h
theorem PR.bind {α β γ δ : Type} {g : G} {Wx : WX} {σ : L2.St} {w : W} {E : Env} {rel1 : W → α → β → Prop} {rel2 : W → γ → δ → Prop} {Q : δ → Hp → Prop} {r : R α} {k : α → List D → R γ} (G : Good w) (he : RE g w E σ)
    (h : PR g Wx σ w rel2 Q (r.bind k)) : PR g Wx σ w rel1 (fun x H1 => ∃ w1 a S1, At g w1 E σ H1 S1 ∧ Ext w w1 ∧ rel1 w1 a x ∧ PR g Wx σ w1 rel2 Q (k a S1)) r := by
  cases r with
  | ok d S => exact fun v w' x G' rl rs => ⟨w', d, S, ⟨rfl, G', he.mono G x, rs⟩, x, rl, PR.at h x⟩
  | exc c fs S => exact h
  | bad => exact h
theorem PR.imp {α β : Type} {g : G} {Wx : WX} {σ : L2.St} {w : W} {rel : W → α → β → Prop} {Q Q' : β → Hp → Prop} {r : R α} (h : PR g Wx σ w rel Q r) (i : ∀ v H, Q v H → Q' v H) : PR g Wx σ w rel Q' r := by
  cases r with
  | ok d S => exact fun v w' x y z t => i _ _ (h v w' x y z t)
  | exc c fs S => exact h
  | bad => exact h
theorem peImp {X : Cx} {e : Expr} {t t' : TE} (h : PE X e t) (f : ∀ σ H Q, t' σ H Q → t σ H Q) : PE X e t' := ⟨fun pins s σ H Q I hw => h.run pins s σ H Q I (f _ _ _ hw)⟩
theorem ptImp {X : Cx} {e : Expr} {t t' : TT} (h : PT X e t) (f : ∀ σ H Q, t' σ H Q → t σ H Q) : PT X e t' := ⟨fun pins s σ H Q I hw => h.run pins s σ H Q I (f _ _ _ hw)⟩
theorem pwImp {X : Cx} {e : Expr} {t t' : TT} (h : PW X e t) (f : ∀ σ H Q, t' σ H Q → t σ H Q) : PW X e t' := ⟨fun wh pins s σ H Q I hw => h.run wh pins s σ H Q I (f _ _ _ hw)⟩
theorem paImp {X : Cx} {es : List Expr} {t t' : TA} (h : PA X es t) (f : ∀ σ H Q, t' σ H Q → t σ H Q) : PA X es t' := ⟨fun pos pins s σ H Q I hw => h.run pos pins s σ H Q I (f _ _ _ hw)⟩
theorem psImp {X : Cx} {st : Stmt} {t t' : TS} (h : PS X st t) (f : ∀ D σ H, t' D σ H → t D σ H) : PS X st t' := ⟨fun pins s σ H D I hw => h.run pins s σ H D I (f _ _ _ hw)⟩
theorem pssImp {X : Cx} {st : List Stmt} {t t' : TS} (h : PSs X st t) (f : ∀ D σ H, t' D σ H → t D σ H) : PSs X st t' := ⟨fun pins s σ H D I hw => h.run pins s σ H D I (f _ _ _ hw)⟩

/-! ### what a reading asks of operations -/
def opOf (g : G) (f : D → D → List D → R D) : R2 := fun x y H Q => ∃ Wx σ w S d e, w.H = H ∧ Good w ∧ RS g w S ∧ RD g w d x ∧ RD g w e y ∧ PR g Wx σ w (RD g) Q (f d e S)
def unOf (g : G) (f : D → List D → R D) : V → Hp → VK → Prop := fun x H Q => ∃ Wx σ w S d, w.H = H ∧ Good w ∧ RS g w S ∧ RD g w d x ∧ PR g Wx σ w (RD g) Q (f d S)
def argOf (g : G) (f : List D → List D → R D) : List V → Hp → VK → Prop := fun xs H Q => ∃ Wx σ w S ds, w.H = H ∧ Good w ∧ RS g w S ∧ RDs g w ds xs ∧ PR g Wx σ w (RD g) Q (f ds S)
def mtOf (g : G) (f : D → List D → List D → R D) : V → List V → Hp → VK → Prop := fun x xs H Q => ∃ Wx σ w S d ds, w.H = H ∧ Good w ∧ RS g w S ∧ RD g w d x ∧ RDs g w ds xs ∧ PR g Wx σ w (RD g) Q (f d ds S)

section
variable {X : Cx} {Wx : WX} {a b c : Expr} {ma mb mc : ME} {pos : Pos}
theorem de_var {i : Nat} {x : Str} (h : PE X (.Name x pos) (tVar i)) : PE X (.Name x pos) (TEof X.g Wx (eVar i)) := by
  refine peImp h fun σ H Q ⟨w, E, S, a, p⟩ => ?_
  unfold eVar at p
  split at p
  · rename_i d e
    obtain ⟨v, h1, h2⟩ := a.env.2 i d e
    exact ⟨v, h1, by have := p v w (Ext.refl w) a.good h2 a.sto; rw [a.hp] at this; exact this⟩
  · exact p.elim
theorem de_c {e : Expr} {v : V} {d : D} (h : PE X e (tC v)) (hd : ∀ w, RD X.g w d v) : PE X e (TEof X.g Wx (eC d)) := by
  refine peImp h fun σ H Q ⟨w, E, S, a, p⟩ => ?_
  have := p v w (Ext.refl w) a.good (hd w) a.sto
  rw [a.hp] at this
  exact this
theorem de_int {i j} : PE X (.Constant (.int i) j pos) (TEof X.g Wx (eC (.int i))) := de_c pe_int fun _ => rfl
theorem de_bl {i j} : PE X (.Constant (.bool i) j pos) (TEof X.g Wx (eC (.bl i))) := de_c pe_bl fun _ => rfl
theorem de_non {j} : PE X (.Constant .none j pos) (TEof X.g Wx (eC .non)) := de_c pe_non fun _ => rfl
theorem de_str {i j} : PE X (.Constant (.str i) j pos) (TEof X.g Wx (eC (.str i))) := de_c pe_str fun _ => rfl

/-- two expressions, then an operation -/
theorem two {m : D → D → List D → R D} {r : R2} (hr : ∀ x y H Q, opOf X.g m x y H Q → r x y H Q) : ∀ (σ : L2.St) H Q, TEof X.g Wx (eOp m ma mb) σ H Q → tOp r (TEof X.g Wx ma) (TEof X.g Wx mb) σ H Q := fun σ H Q ⟨w, E, S, a, p⟩ => by
  refine ⟨w, E, S, a, PR.imp (PR.bind a.good a.env p) fun x H1 ⟨w1, d, S1, a1, x1, r1, p1⟩ => ?_⟩
  refine ⟨w1, E, S1, a1, PR.imp (PR.bind a1.good a1.env p1) fun y H2 ⟨w2, e, S2, a2, x2, r2, p2⟩ => ?_⟩
  exact hr x y H2 Q ⟨Wx, σ, w2, S2, d, e, a2.hp, a2.good, a2.sto, RD.mono a1.good x2 d x r1, r2, p2⟩
theorem de_op {op : Operator} {m : D → D → List D → R D} (ho : OpR X (binaryOp op) (opOf X.g m)) (ha : PE X a (TEof X.g Wx ma)) (hb : PE X b (TEof X.g Wx mb)) : PE X (.BinOp a op b pos) (TEof X.g Wx (eOp m ma mb)) :=
  peImp (pe_op ho ha hb) (two fun _ _ _ _ h => h)
theorem de_un {op : UnaryOp} {m : D → List D → R D} (ho : UnR X (unaryOp op) (unOf X.g m)) (ha : PE X a (TEof X.g Wx ma)) : PE X (.UnaryOp op a pos) (TEof X.g Wx (eUn m ma)) := by
  refine peImp (pe_un ho ha) fun σ H Q ⟨w, E, S, a, p⟩ => ?_
  refine ⟨w, E, S, a, PR.imp (PR.bind a.good a.env p) fun x H1 ⟨w1, d, S1, a1, x1, r1, p1⟩ => ?_⟩
  exact ⟨Wx, σ, w1, S1, d, a1.hp, a1.good, a1.sto, r1, p1⟩
theorem de_cmp {op : CmpOp} {m : D → D → List D → R D} (ho : OpR X (compareOp op) (opOf X.g m)) (ha : PE X a (TEof X.g Wx ma)) (hb : PE X b (TEof X.g Wx mb)) (h1 : behindInMarks op b = false) : PE X (.Compare a [op] [b] pos) (TEof X.g Wx (eOp m ma mb)) :=
  peImp (pe_cmpR ho ha hb h1) (two fun _ _ _ _ h => h)
theorem de_ix {m : D → D → List D → R D} (ho : IxR X (opOf X.g m)) (ha : PE X a (TEof X.g Wx ma)) (hb : PE X b (TEof X.g Wx mb)) (h1 : PlainIx b) : PE X (.Subscript a b pos) (TEof X.g Wx (eOp m ma mb)) :=
  peImp (pe_ix ho ha hb h1) (two fun _ _ _ _ h => h)
/-! arguments -/
theorem da_nil : PA X [] (TAof X.g Wx aNil) := by
  refine paImp pa_nil fun σ H Q ⟨w, E, S, a, p⟩ => ?_
  have := p [] w (Ext.refl w) a.good rfl a.sto
  rw [a.hp] at this
  exact this
theorem da_cons {es : List Expr} {mr : MA} (ha : PE X a (TEof X.g Wx ma)) (hr : PA X es (TAof X.g Wx mr)) (hs : starEach (a :: es) X.env = (false, eval a X.env) :: starEach es X.env := by rfl) : PA X (a :: es) (TAof X.g Wx (aCons ma mr)) := by
  refine paImp (pa_cons ha hr hs) fun σ H Q ⟨w, E, S, a, p⟩ => ?_
  refine ⟨w, E, S, a, PR.imp (PR.bind a.good a.env p) fun x H1 ⟨w1, d, S1, a1, x1, r1, p1⟩ => ?_⟩
  refine ⟨w1, E, S1, a1, PR.imp (PR.bind a1.good a1.env p1) fun xs H2 ⟨w2, ds, S2, a2, x2, r2, p2⟩ => ?_⟩
  have := p2 (x :: xs) w2 (Ext.refl w2) a2.good (RDs.cons (RD.mono a1.good x2 d x r1) r2) a2.sto
  rw [a2.hp] at this
  exact this
theorem args {m : List D → List D → R D} {ma : MA} {r : List V → Hp → VK → Prop} (hr : ∀ xs H Q, argOf X.g m xs H Q → r xs H Q) : ∀ (σ : L2.St) H Q, TEof X.g Wx (eArgs m ma) σ H Q → tCB r (TAof X.g Wx ma) σ H Q := fun σ H Q ⟨w, E, S, a, p⟩ => by
  refine ⟨w, E, S, a, PR.imp (PR.bind a.good a.env p) fun xs H1 ⟨w1, ds, S1, a1, x1, r1, p1⟩ => ?_⟩
  exact hr xs H1 Q ⟨Wx, σ, w1, S1, ds, a1.hp, a1.good, a1.sto, r1, p1⟩
theorem de_callB {x : Str} {id : String} {m : List D → List D → R D} {es : List Expr} {e : Expr} {mr : MA} {p : Pos} (hc : CallR X (.builtin id) (argOf X.g m)) (hg : Gl X x) (hm : X.mg x = none) (hv : bootBuiltins x = some (.builtin id)) (ha : PA X (e :: es) (TAof X.g Wx mr)) (hn : x ≠ "__name__" := by decide) (hdb : (x == ("__debug__" : Str)) = false := by decide)
    (he : starEach (e :: es) X.env = (false, eval e X.env) :: starEach es X.env := by rfl) (hpl : (backTo pos (starEach es X.env)).any (·.1) = false := by rfl) : PE X (.Call (.Name x p) (e :: es) [] pos) (TEof X.g Wx (eArgs m mr)) :=
  peImp (pe_callB hc hg hm hv ha hn hdb he hpl) (args fun _ _ _ h => h)
theorem de_callTy {x : Str} {T : String} {m : List D → List D → R D} {es : List Expr} {e : Expr} {mr : MA} {p : Pos} (hc : CallR X (.type T) (argOf X.g m)) (hg : Gl X x) (hm : X.mg x = none) (hv : bootBuiltins x = some (.type T)) (ha : PA X (e :: es) (TAof X.g Wx mr)) (hn : x ≠ "__name__" := by decide) (hdb : (x == ("__debug__" : Str)) = false := by decide)
    (he : starEach (e :: es) X.env = (false, eval e X.env) :: starEach es X.env := by rfl) (hpl : (backTo pos (starEach es X.env)).any (·.1) = false := by rfl) : PE X (.Call (.Name x p) (e :: es) [] pos) (TEof X.g Wx (eArgs m mr)) :=
  peImp (pe_callTy hc hg hm hv ha hn hdb he hpl) (args fun _ _ _ h => h)
/-! new objects -/
theorem new_tup {Wx : WX} {σ : L2.St} {w : W} {Q : VK} {ds : List D} {vs : List V} {S : List D} (p : PR X.g Wx σ w (RD X.g) Q (.ok (.tup ds) S)) (G : Good w) (rs : RS X.g w S) (r : RDs X.g w ds vs) (q : Addr) (hq : w.H q = none) : Q (.ref q) (upd w.H q (.tup vs)) :=
  p (.ref q) (w.put q (.tup vs)) (put_ext hq) (put_good G hq) ⟨q, vs, rfl, ⟨upd_same, put_th (w := w) G hq⟩, r.mono G (put_ext hq)⟩ (put_store G hq rs)
theorem new_lst {Wx : WX} {σ : L2.St} {w : W} {Q : VK} {ds : List D} {vs : List V} {S : List D} (p : PR X.g Wx σ w (RD X.g) Q (.ok (.lst ds) S)) (G : Good w) (rs : RS X.g w S) (r : RDs X.g w ds vs) (q : Addr) (hq : w.H q = none) : Q (.ref q) (upd w.H q (.lst vs)) :=
  p (.ref q) (w.put q (.lst vs)) (put_ext hq) (put_good G hq) ⟨q, vs, rfl, upd_same, put_th (w := w) G hq, r.mono G (put_ext hq)⟩ (put_store G hq rs)
theorem new_loc {Wx : WX} {σ : L2.St} {w : W} {Q : VK} {ds : List D} {vs : List V} {S : List D} (p : PR X.g Wx σ w (RD X.g) Q (.ok (.loc S.length) (S ++ [.lst ds]))) (G : Good w) (rs : RS X.g w S) (r : RDs X.g w ds vs) (q : Addr) (hq : w.H q = none) : Q (.ref q) (upd w.H q (.lst vs)) :=
  p (.ref q) (w.add q (.lst vs)) (add_ext hq) (add_good G hq) ⟨q, rfl, by rw [rs.1]; simp⟩ (add_store G hq rs ⟨vs, upd_same, r.mono G (add_ext hq)⟩)
theorem sl_eq : SL = sizeLine := by rw [sizeLine_eq]; rfl
/-- a tuple, a list as they are written -/
theorem de_disp {es : List Expr} {e : Expr} {mr : MA} {m : List D → List D → R D} {t : TE} (h : PE X e t) (ht : ∀ (σ : L2.St) H Q, (TAof X.g Wx mr) σ H (fun xs H1 => argOf X.g m xs H1 Q) → t σ H Q) : PE X e (TEof X.g Wx (eArgs m mr)) :=
  peImp h fun σ H Q hh => ht σ H Q (args (X := X) (r := argOf X.g m) (fun _ _ _ h => h) σ H Q hh)
theorem de_tup {es : List Expr} {mr : MA} {x1} (h : PA X es (TAof X.g Wx mr)) : PE X (.Tuple es x1 pos) (TEof X.g Wx (eArgs bTup mr)) := by
  refine de_disp (es := es) (pe_tup h) fun σ H Q ⟨w, E, S, a, p⟩ => ⟨w, E, S, a, PR.imp p fun xs H1 hh => ?_⟩
  obtain ⟨Wx, σ, w, S, ds, rfl, G, rs, r, p⟩ := hh
  unfold bTup at p
  split at p
  · rename_i hl
    rw [sl_eq, ← r.length] at hl
    exact ⟨hl, new_tup p G rs r⟩
  · exact p.elim
theorem de_lst {es : List Expr} {mr : MA} (h : PA X es (TAof X.g Wx mr)) : PE X (.List es pos) (TEof X.g Wx (eArgs bLst mr)) := by
  refine de_disp (es := es) (pe_lst h) fun σ H Q ⟨w, E, S, a, p⟩ => ⟨w, E, S, a, PR.imp p fun xs H1 hh => ?_⟩
  obtain ⟨Wx, σ, w, S, ds, rfl, G, rs, r, p⟩ := hh
  unfold bLst at p
  split at p
  · rename_i hl
    rw [sl_eq, ← r.length] at hl
    exact ⟨hl, new_lst p G rs r⟩
  · exact p.elim
theorem de_lstL {es : List Expr} {mr : MA} (h : PA X es (TAof X.g Wx mr)) : PE X (.List es pos) (TEof X.g Wx (eArgs bLstL mr)) := by
  refine de_disp (es := es) (pe_lst h) fun σ H Q ⟨w, E, S, a, p⟩ => ⟨w, E, S, a, PR.imp p fun xs H1 hh => ?_⟩
  obtain ⟨Wx, σ, w, S, ds, rfl, G, rs, r, p⟩ := hh
  unfold bLstL at p
  split at p
  · rename_i hl
    rw [sl_eq, ← r.length] at hl
    exact ⟨hl, new_loc p G rs r⟩
  · exact p.elim
end
end J
set_option Elab.async false
set_option linter.all false
set_option maxRecDepth 100000
set_option maxHeartbeats 1000000
namespace J
open PySem PySem.Spec PyProof.Rows L2
section
variable {X : Cx} {Wx : WX} {a b c : Expr} {ma mb mc : ME} {ta tb tc : MT} {pos : Pos}

/-! ### tests -/
theorem tvUse {Q : Bool → Hp → Prop} {σ : L2.St} {H : Hp} (h : TTof X.g Wx (tV ma) σ H Q) : TEof X.g Wx ma σ H fun x H1 => ∃ c, x = .bl c ∧ Q c H1 := by
  obtain ⟨w, E, S, a, p⟩ := h
  refine ⟨w, E, S, a, PR.imp (PR.bind a.good a.env p) fun x H1 ⟨w1, d, S1, a1, x1, r1, p1⟩ => ?_⟩
  cases d <;> try exact p1.elim
  rename_i k
  cases r1
  have := p1 k w1 (Ext.refl w1) a1.good rfl a1.sto
  rw [a1.hp] at this
  exact ⟨k, rfl, this⟩
theorem dt_val (h : PE X a (TEof X.g Wx ma)) (he : ∀ whole, isTrue a X.env whole = (do let v ← whole; standAt a.pos; holding [v] (truthy v)) := by intro _; rfl) : PT X a (TTof X.g Wx (tV ma)) :=
  ptImp (pt_val h he) fun σ H Q hh => tvUse hh
theorem dt_cmp {op : CmpOp} {m : D → D → List D → R D} (ho : OpR X (compareOp op) (opOf X.g m)) (ha : PE X a (TEof X.g Wx ma)) (hb : PE X b (TEof X.g Wx mb)) (h1 : behindInMarks op b = false) : PT X (.Compare a [op] [b] pos) (TTof X.g Wx (tV (eOp m ma mb))) :=
  ptImp (pt_cmpR ho ha hb h1) fun σ H Q hh => two (X := X) (Wx := Wx) (fun _ _ _ _ h => h) σ H _ (tvUse hh)
theorem seqOf_some {S : List D} {d : D} {xs : List D} (h : seqOf S d = some xs) : d = .tup xs ∨ d = .lst xs ∨ d = .rdl xs ∨ ∃ n, d = .loc n ∧ S[n]? = some (.lst xs) := by
  unfold seqOf at h
  split at h
  · cases h; exact .inl rfl
  · cases h; exact .inr (.inl rfl)
  · cases h; exact .inr (.inr (.inl rfl))
  · rename_i n
    split at h
    · rename_i ds e
      cases h; exact .inr (.inr (.inr ⟨n, rfl, e⟩))
    · cases h
  · cases h
theorem lstOf_some {S : List D} {d : D} {xs : List D} (h : lstOf S d = some xs) : d = .lst xs ∨ ∃ n, d = .loc n ∧ S[n]? = some (.lst xs) := by
  unfold lstOf at h
  split at h
  · cases h; exact .inl rfl
  · rename_i n
    split at h
    · rename_i ds e
      cases h; exact .inr ⟨n, rfl, e⟩
    · cases h
  · cases h
theorem dctOf_some {S : List D} {d : D} {ks : List Ky} {xs : List D} (h : dctOf S d = some (ks, xs)) : d = .dct ks xs ∨ ∃ n, d = .loc n ∧ S[n]? = some (.dct ks xs) := by
  unfold dctOf at h
  split at h
  · cases h; exact .inl rfl
  · rename_i n
    split at h
    · rename_i ds e
      cases h; exact .inr ⟨n, rfl, by assumption⟩
    · cases h
  · cases h
theorem RD.seq {g : G} {w : W} {S : List D} {d : D} {v : V} {xs : List D} (rs : RS g w S) (r : RD g w d v) (h : seqOf S d = some xs) : ∃ p vs, v = .ref p ∧ (SqL g.K w.H p vs ∨ SqT g.K w.H p vs) ∧ RDs g w xs vs := by
  rcases seqOf_some h with rfl | rfl | rfl | ⟨n, rfl, e⟩
  · obtain ⟨p, vs, rfl, t, r⟩ := r
    exact ⟨p, vs, rfl, .inr t.sq, r⟩
  · obtain ⟨p, vs, rfl, t, _, r⟩ := r
    exact ⟨p, vs, rfl, .inl (SqL.of t), r⟩
  · obtain ⟨p, vs, rfl, t, r⟩ := r
    exact ⟨p, vs, rfl, .inl t.sq, r⟩
  · obtain ⟨p, rfl, hp⟩ := r
    obtain ⟨vs, h1, h2⟩ := rs.obj hp e
    exact ⟨p, vs, rfl, .inl (SqL.of h1), h2⟩
theorem RD.lstAt {g : G} {w : W} {S : List D} {d : D} {v : V} {xs : List D} (rs : RS g w S) (r : RD g w d v) (h : lstOf S d = some xs) : ∃ p vs, v = .ref p ∧ w.H p = some (.lst vs) ∧ RDs g w xs vs := by
  rcases lstOf_some h with rfl | ⟨n, rfl, e⟩
  · obtain ⟨p, vs, rfl, t, _, r⟩ := r
    exact ⟨p, vs, rfl, t, r⟩
  · obtain ⟨p, rfl, hp⟩ := r
    obtain ⟨vs, h1, h2⟩ := rs.obj hp e
    exact ⟨p, vs, rfl, h1, h2⟩
theorem RD.dctAt {g : G} {w : W} {S : List D} {d : D} {v : V} {ks : List Ky} {xs : List D} (rs : RS g w S) (r : RD g w d v) (h : dctOf S d = some (ks, xs)) : ∃ p vs, v = .ref p ∧ Rd w.H p (.dK (ks.zip vs)) ∧ ks.length = vs.length ∧ RDs g w xs vs := by
  rcases dctOf_some h with rfl | ⟨n, rfl, e⟩
  · obtain ⟨p, vs, rfl, t, l, _, r⟩ := r
    exact ⟨p, vs, rfl, t, l, r⟩
  · obtain ⟨p, rfl, hp⟩ := r
    obtain ⟨vs, h1, l, h2⟩ := rs.obj hp e
    exact ⟨p, vs, rfl, .inl h1, l, h2⟩
theorem RDs.isE {g : G} {w : W} {xs : List D} {vs : List V} (r : RDs g w xs vs) : vs.isEmpty = xs.isEmpty := by
  have := r.length
  cases xs <;> cases vs <;> simp_all
theorem zip_isE {α β : Type} {ks : List α} {vs : List β} (l : ks.length = vs.length) : (ks.zip vs).isEmpty = ks.isEmpty := by
  cases ks <;> cases vs <;> simp_all
def TruW (K : PySem.W.Frag) (x : V) (H : Hp) (k : Bool) : Prop := TruV K x H k ∨ ∃ p kvs, x = .ref p ∧ Rd H p (.dK kvs) ∧ k = !kvs.isEmpty
theorem tru_w {X : Cx} : TruR X (fun x H Q => ∃ k, TruW X.K x H k ∧ Q k H) := by
  intro pins s σ H x v Q I rx h
  obtain ⟨k, e | ⟨p, kvs, rfl, hx, rfl⟩, q⟩ := h
  · exact tru_ok pins s σ H x v Q I rx ⟨k, e, q⟩
  · cases rx
    have hs : sizeLine = 16777216 := sizeLine_eq
    obtain ⟨hz, hS, vs, r, m⟩ := dk_rd I.hok hx
    have hlen : kvs.length = vs.length := PySem.Paired.length r
    exact wpAny_truthy_dict hS m (by omega) ⟨H, I.tok _, by rw [isEmpty_kv r]; exact q⟩
theorem pt_truthW {X : Cx} {a : Expr} {ta : TE} (ha : PE X a ta) (he : ∀ whole, isTrue a X.env whole = (do let v ← whole; standAt a.pos; holding [v] (truthy v))) :
    PT X a (fun σ H Q => ta σ H fun x H' => ∃ k, TruW X.K x H' k ∧ Q k H') := by
  refine ⟨fun pins s σ H Q I h => ?_⟩
  exact isTrue_plain (thn (ha.run pins s σ H _ I h) fun v s1 ⟨x, H1, I1, r1, q1⟩ => tru_w pins s1 σ H1 x v Q I1 r1 q1) (he _)
theorem RD.truthV {g : G} {w : W} {S : List D} {d : D} {v : V} {k : Bool} (rs : RS g w S) (r : RD g w d v) (h : truth S d = some k) : TruW g.K v w.H k := by
  have sq : ∀ xs, seqOf S d = some xs → k = !xs.isEmpty → TruW g.K v w.H k := fun xs e e2 => by
    obtain ⟨p, vs, rfl, t, r2⟩ := RD.seq rs r e
    rw [e2]
    rcases t with t | t
    · exact .inl (.inl ⟨vs, t, by rw [r2.isE]⟩)
    · exact .inl (.inr (.inl ⟨vs, t, by rw [r2.isE]⟩))
  have dc : ∀ ks xs, dctOf S d = some (ks, xs) → k = !ks.isEmpty → TruW g.K v w.H k := fun ks xs e e2 => by
    obtain ⟨p, vs, rfl, t, l, r2⟩ := RD.dctAt rs r e
    rw [e2]
    exact .inr ⟨p, _, rfl, t, by rw [zip_isE l]⟩
  unfold truth at h
  split at h
  · cases h; cases r; exact .inl rfl
  · cases h; cases r; exact .inl rfl
  · cases h; cases r; exact .inl rfl
  · cases h; exact dc _ _ rfl rfl
  · cases h; exact sq _ rfl rfl
  · cases h; exact sq _ rfl rfl
  · cases h; exact sq _ rfl rfl
  · split at h
    · rename_i e
      cases h; exact sq _ (by simp only [seqOf, e]) rfl
    · rename_i e
      cases h; exact dc _ _ (by simp only [dctOf, e]; rfl) rfl
    · cases h
  · cases h
theorem dt_truth (h : PE X a (TEof X.g Wx ma)) (he : ∀ whole, isTrue a X.env whole = (do let v ← whole; standAt a.pos; holding [v] (truthy v)) := by intro _; rfl) : PT X a (TTof X.g Wx (tTr ma)) := by
  refine ptImp (pt_truthW h he) fun σ H Q ⟨w, E, S, a, p⟩ => ?_
  refine ⟨w, E, S, a, PR.imp (PR.bind a.good a.env p) fun x H1 ⟨w1, d, S1, a1, x1, r1, p1⟩ => ?_⟩
  split at p1
  · rename_i k e
    have := p1 k w1 (Ext.refl w1) a1.good rfl a1.sto
    rw [a1.hp] at this
    exact ⟨k, by rw [← a1.hp]; exact r1.truthV a1.sto e, this⟩
  · exact p1.elim
theorem dt_not (h : PT X a (TTof X.g Wx ta)) : PT X (.UnaryOp .Not a pos) (TTof X.g Wx (J.tNot ta)) := by
  refine ptImp (pt_not h) fun σ H Q ⟨w, E, S, a, p⟩ => ?_
  refine ⟨w, E, S, a, PR.imp (PR.bind a.good a.env p) fun x H1 ⟨w1, d, S1, a1, x1, r1, p1⟩ => ?_⟩
  obtain rfl : d = x := r1
  have := p1 (!d) w1 (Ext.refl w1) a1.good rfl a1.sto
  rw [a1.hp] at this
  exact this
theorem dw_and1 (h : PT X a (TTof X.g Wx ta)) : PW X (.BoolOp .And [a] pos) (TTof X.g Wx ta) := pw_and1 h
theorem dw_or1 (h : PT X a (TTof X.g Wx ta)) : PW X (.BoolOp .Or [a] pos) (TTof X.g Wx ta) := pw_or1 h
theorem dw_and {rest : List Expr} (h : PT X a (TTof X.g Wx ta)) (hb : PW X (.BoolOp .And (b :: rest) pos) (TTof X.g Wx tb)) : PW X (.BoolOp .And (a :: b :: rest) pos) (TTof X.g Wx (J.tAnd ta tb)) := by
  refine pwImp (pw_and h hb) fun σ H Q ⟨w, E, S, a, p⟩ => ?_
  refine ⟨w, E, S, a, PR.imp (PR.bind a.good a.env p) fun x H1 ⟨w1, d, S1, a1, x1, r1, p1⟩ => ?_⟩
  obtain rfl : d = x := r1
  cases d
  · rw [if_neg Bool.false_ne_true] at p1 ⊢
    have := p1 false w1 (Ext.refl w1) a1.good rfl a1.sto
    rw [a1.hp] at this
    exact this
  · rw [if_pos rfl] at p1 ⊢
    exact ⟨w1, E, S1, a1, p1⟩
theorem dw_or {rest : List Expr} (h : PT X a (TTof X.g Wx ta)) (hb : PW X (.BoolOp .Or (b :: rest) pos) (TTof X.g Wx tb)) : PW X (.BoolOp .Or (a :: b :: rest) pos) (TTof X.g Wx (J.tOr ta tb)) := by
  refine pwImp (pw_or h hb) fun σ H Q ⟨w, E, S, a, p⟩ => ?_
  refine ⟨w, E, S, a, PR.imp (PR.bind a.good a.env p) fun x H1 ⟨w1, d, S1, a1, x1, r1, p1⟩ => ?_⟩
  obtain rfl : d = x := r1
  cases d
  · rw [if_neg Bool.false_ne_true] at p1 ⊢
    exact ⟨w1, E, S1, a1, p1⟩
  · rw [if_pos rfl] at p1 ⊢
    have := p1 true w1 (Ext.refl w1) a1.good rfl a1.sto
    rw [a1.hp] at this
    exact this
/-! values by tests -/
theorem de_if (hc : PT X c (TTof X.g Wx tc)) (ha : PE X a (TEof X.g Wx ma)) (hb : PE X b (TEof X.g Wx mb)) : PE X (.IfExp c a b pos) (TEof X.g Wx (eIf tc ma mb)) := by
  refine peImp (pe_ifExp hc ha hb) fun σ H Q ⟨w, E, S, a, p⟩ => ?_
  refine ⟨w, E, S, a, PR.imp (PR.bind a.good a.env p) fun x H1 ⟨w1, d, S1, a1, x1, r1, p1⟩ => ?_⟩
  obtain rfl : d = x := r1
  cases d
  · rw [if_neg Bool.false_ne_true] at p1 ⊢
    exact ⟨w1, E, S1, a1, p1⟩
  · rw [if_pos rfl] at p1 ⊢
    exact ⟨w1, E, S1, a1, p1⟩
theorem de_one {op} (h : PE X a (TEof X.g Wx ma)) : PE X (.BoolOp op [a] pos) (TEof X.g Wx ma) := pe_one h
theorem blUse {σ : L2.St} {H : Hp} {E : Env} {k : Bool → List D → R D} {Q Q' : VK} {w1 : W} {d : D} {S1 : List D} {x : V} (a1 : At X.g w1 E σ H S1) (r1 : RD X.g w1 d x)
    (p : PR X.g Wx σ w1 (RD X.g) Q (onBl d fun c => k c S1)) : ∃ c, x = .bl c ∧ d = .bl c ∧ PR X.g Wx σ w1 (RD X.g) Q (k c S1) := by
  cases d <;> try exact p.elim
  cases r1
  exact ⟨_, rfl, rfl, p⟩
theorem de_and {rest : List Expr} (h : PE X a (TEof X.g Wx ma)) (hb : PE X (.BoolOp .And (b :: rest) pos) (TEof X.g Wx mb)) : PE X (.BoolOp .And (a :: b :: rest) pos) (TEof X.g Wx (eAnd ma mb)) := by
  refine peImp (pe_and h hb) fun σ H Q ⟨w, E, S, a, p⟩ => ?_
  refine ⟨w, E, S, a, PR.imp (PR.bind a.good a.env p) fun x H1 ⟨w1, d, S1, a1, x1, r1, p1⟩ => ?_⟩
  obtain ⟨c, rfl, rfl, q⟩ := blUse (k := fun c S1 => if c = true then mb E S1 else .ok (.bl false) S1) (Q' := Q) a1 r1 p1
  refine ⟨c, rfl, ?_⟩
  cases c
  · rw [if_neg Bool.false_ne_true] at q ⊢
    have := q (.bl false) w1 (Ext.refl w1) a1.good rfl a1.sto
    rw [a1.hp] at this
    exact this
  · rw [if_pos rfl] at q ⊢
    exact ⟨w1, E, S1, a1, q⟩
theorem de_or {rest : List Expr} (h : PE X a (TEof X.g Wx ma)) (hb : PE X (.BoolOp .Or (b :: rest) pos) (TEof X.g Wx mb)) : PE X (.BoolOp .Or (a :: b :: rest) pos) (TEof X.g Wx (eOr ma mb)) := by
  refine peImp (pe_or h hb) fun σ H Q ⟨w, E, S, a, p⟩ => ?_
  refine ⟨w, E, S, a, PR.imp (PR.bind a.good a.env p) fun x H1 ⟨w1, d, S1, a1, x1, r1, p1⟩ => ?_⟩
  obtain ⟨c, rfl, rfl, q⟩ := blUse (k := fun c S1 => if c = true then .ok (.bl true) S1 else mb E S1) (Q' := Q) a1 r1 p1
  refine ⟨c, rfl, ?_⟩
  cases c
  · rw [if_neg Bool.false_ne_true] at q ⊢
    exact ⟨w1, E, S1, a1, q⟩
  · rw [if_pos rfl] at q ⊢
    have := q (.bl true) w1 (Ext.refl w1) a1.good rfl a1.sto
    rw [a1.hp] at this
    exact this
theorem de_not (h : PE X a (TEof X.g Wx ma)) : PE X (.UnaryOp .Not a pos) (TEof X.g Wx (eNot ma)) := by
  refine peImp (pe_not h) fun σ H Q ⟨w, E, S, a, p⟩ => ?_
  refine ⟨w, E, S, a, PR.imp (PR.bind a.good a.env p) fun x H1 ⟨w1, d, S1, a1, x1, r1, p1⟩ => ?_⟩
  obtain ⟨c, rfl, rfl, q⟩ := blUse (k := fun c S1 => .ok (.bl (!c)) S1) (Q' := Q) a1 r1 p1
  have := q (.bl (!c)) w1 (Ext.refl w1) a1.good rfl a1.sto
  rw [a1.hp] at this
  exact ⟨c, rfl, this⟩
theorem chainUse {m m' : D → D → List D → R D} : ∀ (σ : L2.St) H Q, TEof X.g Wx (eChain m m' ma mb mc) σ H Q → tChain (opOf X.g m) (opOf X.g m') (TEof X.g Wx ma) (TEof X.g Wx mb) (TEof X.g Wx mc) σ H Q := fun σ H Q ⟨w, E, S, a, p⟩ => by
  refine ⟨w, E, S, a, PR.imp (PR.bind a.good a.env p) fun x H1 ⟨w1, d, S1, a1, x1, r1, p1⟩ => ?_⟩
  refine ⟨w1, E, S1, a1, PR.imp (PR.bind a1.good a1.env p1) fun y H2 ⟨w2, e, S2, a2, x2, r2, p2⟩ => ?_⟩
  refine ⟨Wx, σ, w2, S2, d, e, a2.hp, a2.good, a2.sto, RD.mono a1.good x2 d x r1, r2, ?_⟩
  refine PR.imp (PR.bind a2.good a2.env p2) fun z H3 ⟨w3, f, S3, a3, x3, r3, p3⟩ => ?_
  obtain ⟨c, rfl, rfl, q⟩ := blUse (k := fun k S3 => if k = true then (mc E S3).bind fun z S4 => m' e z S4 else .ok (.bl false) S3) (Q' := Q) a3 r3 p3
  refine ⟨c, rfl, ?_⟩
  cases c
  · rw [if_neg Bool.false_ne_true] at q ⊢
    have := q (.bl false) w3 (Ext.refl w3) a3.good rfl a3.sto
    rw [a3.hp] at this
    exact this
  · rw [if_pos rfl] at q ⊢
    refine ⟨w3, E, S3, a3, PR.imp (PR.bind a3.good a3.env q) fun u H4 ⟨w4, f, S4, a4, x4, r4, p4⟩ => ?_⟩
    exact ⟨Wx, σ, w4, S4, e, f, a4.hp, a4.good, a4.sto, RD.mono a2.good (x3.trans x4) e y r2, r4, p4⟩
theorem de_chain {op op' : CmpOp} {m m' : D → D → List D → R D} (ho : OpR X (compareOp op) (opOf X.g m)) (ho' : OpR X (compareOp op') (opOf X.g m')) (ha : PE X a (TEof X.g Wx ma)) (hb : PE X b (TEof X.g Wx mb)) (hc : PE X c (TEof X.g Wx mc))
    (hm : lastMarks [op, op'] [b, c] = false := by with_unfolding_all rfl) : PE X (.Compare a [op, op'] [b, c] pos) (TEof X.g Wx (eChain m m' ma mb mc)) := peImp (pe_chain ho ho' ha hb hc hm) chainUse
theorem dt_chain {op op' : CmpOp} {m m' : D → D → List D → R D} (ho : OpR X (compareOp op) (opOf X.g m)) (ho' : OpR X (compareOp op') (opOf X.g m')) (ha : PE X a (TEof X.g Wx ma)) (hb : PE X b (TEof X.g Wx mb)) (hc : PE X c (TEof X.g Wx mc))
    (hm : lastMarks [op, op'] [b, c] = false := by with_unfolding_all rfl) : PT X (.Compare a [op, op'] [b, c] pos) (TTof X.g Wx (tV (eChain m m' ma mb mc))) := ptImp (pt_chain ho ho' ha hb hc hm) fun σ H Q hh => chainUse σ H _ (tvUse hh)
end

/-! ### operators -/
section
variable {X : Cx}
theorem opI {f : Value → Value → Sem Value} {m : D → D → List D → R D} {C : Int → Int → Prop} {k : Int → Int → V} (ho : OpR X f (rI C k))
    (hm : ∀ d e S, (∃ i j, d = .int i ∧ e = .int j ∧ C i j ∧ ∃ z, m d e S = .ok z S ∧ ∀ w, RD X.g w z (k i j)) ∨ m d e S = .bad) : OpR X f (opOf X.g m) := by
  intro pins s σ H x y v u Q I rx ry ⟨Wx, σ', w, S, d, e, hH, G, rs, r1, r2, p⟩
  rcases hm d e S with ⟨i, j, rfl, rfl, c, z, ez, rz⟩ | eb
  · cases r1
    cases r2
    rw [ez] at p
    have := p _ w (Ext.refl w) G (rz w) rs
    rw [hH] at this
    exact ho pins s σ H _ _ v u Q I rx ry ⟨i, j, rfl, rfl, c, this⟩
  · rw [eb] at p
    exact p.elim
theorem opI0 {f : Value → Value → Sem Value} {m : D → D → List D → R D} {k : Int → Int → V} (ho : OpR X f (rI0 k))
    (hm : ∀ d e S, (∃ i j, d = .int i ∧ e = .int j ∧ ∃ z, m d e S = .ok z S ∧ ∀ w, RD X.g w z (k i j)) ∨ m d e S = .bad) : OpR X f (opOf X.g m) := by
  intro pins s σ H x y v u Q I rx ry ⟨Wx, σ', w, S, d, e, hH, G, rs, r1, r2, p⟩
  rcases hm d e S with ⟨i, j, rfl, rfl, z, ez, rz⟩ | eb
  · cases r1
    cases r2
    rw [ez] at p
    have := p _ w (Ext.refl w) G (rz w) rs
    rw [hH] at this
    exact ho pins s σ H _ _ v u Q I rx ry ⟨i, j, rfl, rfl, this⟩
  · rw [eb] at p
    exact p.elim
end
end J
set_option Elab.async false
set_option linter.all false
set_option maxRecDepth 100000
set_option maxHeartbeats 1000000
namespace J
open PySem PySem.Spec PyProof.Rows L2
section
variable {X : Cx}
theorem putSame {Wx : WX} {σ : L2.St} {w : W} {rel : W → D → V → Prop} {Q : VK} {d : D} {v : V} {S : List D} (p : PR X.g Wx σ w rel Q (.ok d S)) (G : Good w) (rs : RS X.g w S) (r : rel w d v) : Q v w.H :=
  p v w (Ext.refl w) G r rs
/-! ints -/
theorem jo_sub : OpR X (binaryOp .Sub) (opOf X.g oSub) := opI0 op_sub fun d e S => by
  unfold oSub; split
  · exact .inl ⟨_, _, rfl, rfl, _, rfl, fun _ => rfl⟩
  · exact .inr rfl
theorem jo_div : OpR X (binaryOp .FloorDiv) (opOf X.g oDiv) := opI op_fdivN fun d e S => by
  unfold oDiv; split
  · split
    · rename_i h
      exact .inl ⟨_, _, rfl, rfl, h, _, rfl, fun _ => rfl⟩
    · exact .inr rfl
  · exact .inr rfl
theorem jo_mod : OpR X (binaryOp .Mod) (opOf X.g oMod) := opI op_modN fun d e S => by
  unfold oMod; split
  · split
    · rename_i h
      exact .inl ⟨_, _, rfl, rfl, h, _, rfl, fun _ => rfl⟩
    · exact .inr rfl
  · exact .inr rfl
theorem jo_pow : OpR X (binaryOp .Pow) (opOf X.g oPow) := opI op_pow fun d e S => by
  unfold oPow; split
  · split
    · rename_i h
      exact .inl ⟨_, _, rfl, rfl, h, _, rfl, fun _ => rfl⟩
    · exact .inr rfl
  · exact .inr rfl
theorem jo_lt : OpR X (compareOp .Lt) (opOf X.g oLt) := opI0 op_lt fun d e S => by
  unfold oLt; split
  · exact .inl ⟨_, _, rfl, rfl, _, rfl, fun _ => rfl⟩
  · exact .inr rfl
theorem jo_le : OpR X (compareOp .LtE) (opOf X.g oLe) := opI0 op_le fun d e S => by
  unfold oLe; split
  · exact .inl ⟨_, _, rfl, rfl, _, rfl, fun _ => rfl⟩
  · exact .inr rfl
theorem jo_gt : OpR X (compareOp .Gt) (opOf X.g oGt) := opI0 op_gt fun d e S => by
  unfold oGt; split
  · exact .inl ⟨_, _, rfl, rfl, _, rfl, fun _ => rfl⟩
  · exact .inr rfl
theorem jo_ge : OpR X (compareOp .GtE) (opOf X.g oGe) := opI0 op_ge fun d e S => by
  unfold oGe; split
  · exact .inl ⟨_, _, rfl, rfl, _, rfl, fun _ => rfl⟩
  · exact .inr rfl
theorem ju_neg : UnR X (unaryOp .USub) (unOf X.g oNeg) := by
  intro pins s σ H x v Q I rx ⟨Wx, σ', w, S, d, hH, G, rs, r1, p⟩
  unfold oNeg at p
  split at p
  · cases r1
    have := putSame p G rs rfl
    rw [hH] at this
    exact un_neg pins s σ H _ v Q I rx ⟨_, rfl, this⟩
  · exact p.elim
/-- the lists of an operation -/
theorem jo_add : OpR X (binaryOp .Add) (opOf X.g oAdd) := by
  intro pins s σ H x y v u Q I rx ry ⟨Wx, σ', w, S, d, e, hH, G, rs, r1, r2, p⟩
  subst hH
  unfold oAdd at p
  split at p
  · cases r1
    cases r2
    exact op_add pins s σ _ _ _ v u Q I rx ry ⟨_, _, rfl, rfl, putSame p G rs rfl⟩
  · split at p
    · rename_i xs ys hl
      obtain ⟨a, vs, rfl, ta, ra⟩ := id r1
      obtain ⟨b, us, rfl, tb, rb⟩ := id r2
      refine op_catA pins s σ _ _ _ v u Q I rx ry ⟨a, b, vs, us, rfl, rfl, ta.sq, tb.sq, by rw [ra.length, rb.length, ← sl_eq]; exact hl, fun z => ?_, fun _ z => ?_, fun _ _ => new_tup p G rs (ra.append rb)⟩
      · have l := ra.length
        rw [z] at l
        have z2 : xs = [] := List.eq_nil_of_length_eq_zero l.symm
        subst z2
        exact putSame p G rs r2
      · have l := rb.length
        rw [z] at l
        have z2 : ys = [] := List.eq_nil_of_length_eq_zero l.symm
        subst z2
        rw [List.append_nil] at p
        exact putSame p G rs r1
    · exact p.elim
  · split at p
    · rename_i xs ys e1 e2
      split at p
      · rename_i hl
        obtain ⟨a, vs, rfl, ta, ra⟩ := r1.lstAt rs e1
        obtain ⟨b, us, rfl, tb, rb⟩ := r2.lstAt rs e2
        exact op_cat pins s σ _ _ _ v u Q I rx ry ⟨a, b, vs, us, rfl, rfl, ta, tb, by rw [ra.length, rb.length, ← sl_eq]; exact hl, new_lst p G rs (ra.append rb)⟩
      · exact p.elim
    · exact p.elim
theorem smallI_iff {i : Int} : smallI i = true ↔ -(2 ^ 64) < i ∧ i < 2 ^ 64 := by
  unfold smallI
  rw [Bool.and_eq_true, decide_eq_true_eq, decide_eq_true_eq]
  exact Iff.rfl
theorem tuple_mulW1 (l : Addr) (items : Array Value) (n : Nat) (dd : Option Addr) (sl : Array (Option Value)) (u : Tok) :
    Meets (Builtin.«tuple.__mul__» ⟨[.ref l, .int 1 u], []⟩) (fun _ R s => s.heap.get? l = some { cls := .type "tuple", dict := dd, data := .seq items n, slots := sl } ∧ R (.ok (.ret (Value.ref l))) s) :=
  .of_wp fun prog w A R s h => by
    obtain ⟨hp, g, d, tk, os⟩ := s
    obtain ⟨hl, h⟩ := h
    have f1 := AutoSeq1.idx_int
    have c0 : (decide ((1 : Int) < -(2 ^ 63)) || decide ((1 : Int) ≥ 2 ^ 63)) = false := by decide
    have c1 : (items.isEmpty || (1 : Int) == 1) = true := by simp
    wp_walk using wpAny_loadPart' hl
    repeat (first
      | (refine wpAny_ite_false (decide_eq_false (by rw [c0]; exact Bool.false_ne_true)) ?_; wp_walk using wpAny_loadPart' hl)
      | (refine wpAny_ite_true (decide_eq_true (by rw [c1])) ?_; wp_walk using wpAny_loadPart' hl))
    exact ⟨_, rfl, h⟩
theorem op_repT1 {X : Cx} : OpR X (binaryOp .Mult) (fun x y H Q => ∃ l xs, x = .ref l ∧ y = .int 1 ∧ SqT X.K H l xs ∧ Q (.ref l) H) := by
  intro pins s σ H x y v u Q I rx ry h
  obtain ⟨l, xs, rfl, rfl, hT, q⟩ := h
  cases rx
  obtain ⟨t, rfl⟩ := ry
  obtain ⟨its, r, ⟨⟨cls, dd, data, sl⟩, ho, hc, n, hd⟩, hs⟩ := I.tuple hT
  simp only at hc hd
  subst hc hd
  refine wpAny_binaryOp_repeat_ref (T := "tuple") (U := "int") (by decide) ⟨_, ho, rfl⟩ (fun s' => typeIs_int s' 1 t) noFill_tuple_mul F.fills_int_mul F.slot_int_rmul repeat_tuple F.slot_int_index.lookup
    (call_meets F.slot_int_rmul (typeIs_int s 1 t) F.entry_int_rmul (F.args_int_rmul_2 _ _) (int_rmul_tuple 1 t l its.toArray n dd sl)
      ⟨ho, rfl, ⟨_, ho, rfl⟩, call_meets F.slot_tuple_mul ⟨_, ho, rfl⟩ F.entry_tuple_mul (F.args_tuple_mul_2 _ _) (tuple_mulW1 l its.toArray n dd sl t) ⟨ho, ?_⟩⟩)
  exact ⟨.ref l, H, I, rfl, q⟩
theorem jo_mul : OpR X (binaryOp .Mult) (opOf X.g oMul) := by
  intro pins s σ H x y v u Q I rx ry ⟨Wx, σ', w, S, d, e, hH, G, rs, r1, r2, p⟩
  subst hH
  unfold oMul at p
  split at p
  · split at p
    · rename_i h
      cases r1
      cases r2
      exact op_mul pins s σ _ _ _ v u Q I rx ry ⟨_, _, rfl, rfl, h.imp smallI_iff.mp smallI_iff.mp, putSame p G rs rfl⟩
    · exact p.elim
  · split at p
    · rename_i xs k h
      obtain ⟨h1, h2, h3, h4⟩ := h
      cases r2
      obtain ⟨a, vs, rfl, ta, ra⟩ := id r1
      by_cases hk : k = 1
      · subst hk
        refine op_repT1 pins s σ _ _ _ v u Q I rx ry ⟨a, vs, rfl, rfl, ta.sq, putSame p G rs ?_⟩
        have e1 : (List.replicate (Int.toNat 1) xs).flatten = xs := by simp [List.replicate]
        rw [e1]
        exact r1
      · refine op_repT pins s σ _ _ _ v u Q I rx ry ⟨a, _, vs, rfl, rfl, ta.sq, ?_, by omega, h3, by rw [ra.length]; exact h4, new_tup p G rs (ra.rep _)⟩
        intro z
        apply h1
        have := ra.length
        rw [z] at this
        exact List.eq_nil_of_length_eq_zero this.symm
    · exact p.elim
  · split at p
    · rename_i xs e1
      split at p
      · rename_i h
        cases r2
        obtain ⟨a, vs, rfl, ta, ra⟩ := r1.lstAt rs e1
        exact op_rep pins s σ _ _ _ v u Q I rx ry ⟨a, _, vs, rfl, rfl, ta, h.1, h.2.1, by rw [ra.length, ← sl_eq]; exact h.2.2, new_lst p G rs (ra.rep _)⟩
      · exact p.elim
    · exact p.elim
  · exact p.elim
/-! == : a value as data -/
mutual
def D.py : D → PyData
  | .non => .none
  | .bl b => .bool b
  | .int i => .int i
  | .str x => .str x
  | .tup ds => .tuple (D.pys ds)
  | .lst ds => .list (D.pys ds)
  | .rdl ds => .list (D.pys ds)
  | _ => .none
def D.pys : List D → List PyData
  | [] => []
  | d :: ds => d.py :: D.pys ds
end
mutual
theorem py_lay : ∀ d : D, d.cmpb = true → d.py.canLay0 = true
  | .non, _ => rfl
  | .bl _, _ => rfl
  | .int _, _ => rfl
  | .str x, h => h
  | .tup ds, h => pys_lay ds h
  | .lst ds, h => pys_lay ds h
  | .rdl ds, h => pys_lay ds h
theorem pys_lay : ∀ ds : List D, D.cmpbs ds = true → PyData.canLayAll0 (D.pys ds) = true
  | [], _ => rfl
  | d :: ds, h => by
    simp only [D.cmpbs, Bool.and_eq_true] at h
    simp only [D.pys, PyData.canLayAll0, Bool.and_eq_true]
    exact ⟨py_lay d h.1, pys_lay ds h.2⟩
end
mutual
theorem py_depth : ∀ d : D, d.cmpb = true → d.py.depth = d.depth
  | .non, _ => rfl
  | .bl _, _ => rfl
  | .int _, _ => rfl
  | .str x, h => rfl
  | .tup ds, h => by show PyData.depthAll _ + 1 = D.depths _ + 1; rw [pys_depth ds h]
  | .lst ds, h => by show PyData.depthAll _ + 1 = D.depths _ + 1; rw [pys_depth ds h]
  | .rdl ds, h => by show PyData.depthAll _ + 1 = D.depths _ + 1; rw [pys_depth ds h]
theorem pys_depth : ∀ ds : List D, D.cmpbs ds = true → PyData.depthAll (D.pys ds) = D.depths ds
  | [], _ => rfl
  | d :: ds, h => by
    simp only [D.cmpbs, Bool.and_eq_true] at h
    show max _ _ = max _ _
    rw [py_depth d h.1, pys_depth ds h.2]
end
theorem py_shaped {d : D} (h : cmpOk d = true) : SeqAt.shaped d.py = true := by
  unfold cmpOk at h
  simp only [Bool.and_eq_true, decide_eq_true_eq] at h
  unfold SeqAt.shaped
  simp only [Bool.and_eq_true, decide_eq_true_eq]
  exact ⟨py_lay d h.1, by rw [py_depth d h.1]; exact h.2⟩
mutual
theorem py_eqv : ∀ d e : D, d.cmpb = true → e.cmpb = true → PyData.eqv d.py e.py = d.eqB e
  | .non, e, _, h => by cases e <;> first | rfl | exact absurd h (by simp [D.cmpb])
  | .bl _, e, _, h => by cases e <;> first | rfl | exact absurd h (by simp [D.cmpb])
  | .int _, e, _, h => by cases e <;> first | rfl | exact absurd h (by simp [D.cmpb])
  | .str _, e, _, h => by cases e <;> first | rfl | exact absurd h (by simp [D.cmpb])
  | .tup xs, e, h1, h => by cases e <;> first | rfl | exact pys_eqv xs _ h1 h | exact absurd h (by simp [D.cmpb])
  | .lst xs, e, h1, h => by cases e <;> first | rfl | exact pys_eqv xs _ h1 h | exact absurd h (by simp [D.cmpb])
  | .rdl xs, e, h1, h => by cases e <;> first | rfl | exact pys_eqv xs _ h1 h | exact absurd h (by simp [D.cmpb])
theorem pys_eqv : ∀ ds es : List D, D.cmpbs ds = true → D.cmpbs es = true → PyData.eqvAll (D.pys ds) (D.pys es) = D.eqBs ds es
  | [], [], _, _ => rfl
  | [], _ :: _, _, _ => rfl
  | _ :: _, [], _, _ => rfl
  | d :: ds, e :: es, h, k => by
    simp only [D.cmpbs, Bool.and_eq_true] at h k
    show (PyData.eqv _ _ && PyData.eqvAll _ _) = (_ && _)
    rw [py_eqv d e h.1 k.1, pys_eqv ds es h.2 k.2]
end
mutual
theorem py_dp {g : G} {w : W} : ∀ (d : D) (v : V), d.cmpb = true → RD g w d v → Dp g.K w.H v d.py
  | .non, _, _, r => by cases r; exact .non
  | .bl _, _, _, r => by cases r; exact .bl _
  | .int _, _, _, r => by cases r; exact .int _
  | .str _, _, _, r => by cases r; exact .str _
  | .tup ds, _, h, r => by
    obtain ⟨a, vs, rfl, t, r⟩ := r
    exact .tup t.sq (pys_dp ds vs h r)
  | .lst ds, _, h, r => by
    obtain ⟨a, vs, rfl, t, _, r⟩ := r
    exact .lst (SqL.of t) (pys_dp ds vs h r)
  | .rdl ds, _, h, r => by
    obtain ⟨a, vs, rfl, t, r⟩ := r
    exact .lst t.sq (pys_dp ds vs h r)
theorem pys_dp {g : G} {w : W} : ∀ (ds : List D) (vs : List V), D.cmpbs ds = true → RDs g w ds vs → DpAll g.K w.H vs (D.pys ds)
  | [], _, _, r => by cases r; exact .nil
  | d :: ds, _, h, r => by
    obtain ⟨v, vs, rfl, r1, r2⟩ := r
    simp only [D.cmpbs, Bool.and_eq_true] at h
    exact .cons (py_dp d v h.1 r1) (pys_dp ds vs h.2 r2)
end
theorem cmpOk_b {d : D} (h : cmpOk d = true) : d.cmpb = true := by
  unfold cmpOk at h
  exact (Bool.and_eq_true_iff.mp h).1
/-- the same of an object as it stands -/
theorem seen_dp {g : G} {w : W} {S : List D} {d : D} {v : V} (rs : RS g w S) (r : RD g w d v) (h : cmpOk (seen S d) = true) : Dp g.K w.H v (seen S d).py := by
  have hc : (seen S d).cmpb = true := cmpOk_b h
  cases d with
  | loc n =>
    cases e : S[n]? with
    | none =>
      simp only [seen, e] at hc
      exact absurd hc (by simp [D.cmpb])
    | some o =>
      cases o with
      | lst ds =>
        simp only [seen, e] at hc ⊢
        obtain ⟨p, rfl, hp⟩ := r
        obtain ⟨vs, h1, h2⟩ := rs.obj hp e
        exact .lst (SqL.of h1) (pys_dp ds vs hc h2)
      | _ =>
        simp only [seen, e] at hc
        exact absurd hc (by simp [D.cmpb])
  | _ => exact py_dp _ _ hc r
theorem jo_eq (hu : X.A.units + 64 < cLine) : OpR X (compareOp .Eq) (opOf X.g oEq) := by
  intro pins s σ H x y v u Q I rx ry ⟨Wx, σ', w, S, d, e, hH, G, rs, r1, r2, p⟩
  subst hH
  unfold oEq at p
  split at p
  · rename_i h
    refine op_eqD hu pins s σ _ _ _ v u Q I rx ry ⟨_, _, seen_dp rs r1 h.1, seen_dp rs r2 h.2, py_shaped h.1, py_shaped h.2, ?_⟩
    rw [py_eqv _ _ (cmpOk_b h.1) (cmpOk_b h.2)]
    exact putSame p G rs rfl
  · exact p.elim
theorem jo_ne (hu : X.A.units + 64 < cLine) : OpR X (compareOp .NotEq) (opOf X.g oNe) := by
  intro pins s σ H x y v u Q I rx ry ⟨Wx, σ', w, S, d, e, hH, G, rs, r1, r2, p⟩
  subst hH
  unfold oNe at p
  split at p
  · rename_i h
    refine op_neD hu pins s σ _ _ _ v u Q I rx ry ⟨_, _, seen_dp rs r1 h.1, seen_dp rs r2 h.2, py_shaped h.1, py_shaped h.2, ?_⟩
    rw [py_eqv _ _ (cmpOk_b h.1) (cmpOk_b h.2)]
    exact putSame p G rs rfl
  · exact p.elim
/-! is None -/
theorem isNon_of {g : G} {w : W} {d : D} {x : V} (r1 : RD g w d x) : decide (x = .non) = d.isNon := by
  cases d with
  | non => cases r1; rfl
  | bl b => cases r1; rfl
  | int b => cases r1; rfl
  | str b => cases r1; rfl
  | ty b => cases r1; rfl
  | tup b => obtain ⟨_, _, rfl, _⟩ := r1; rfl
  | lst b => obtain ⟨_, _, rfl, _⟩ := r1; rfl
  | rdl b => obtain ⟨_, _, rfl, _⟩ := r1; rfl
  | dct b => obtain ⟨_, _, rfl, _⟩ := r1; rfl
  | dcT b => obtain ⟨_, _, rfl, _⟩ := r1; rfl
  | tuk b => obtain ⟨_, _, _, rfl, _⟩ := r1; rfl
  | loc b => obtain ⟨_, rfl, _⟩ := r1; rfl
theorem de_isN {Wx : WX} {a : Expr} {ma : ME} {j : Nat} {pos pos' : Pos} (ha : PE X a (TEof X.g Wx ma)) : PE X (.Compare a [.Is] [.Constant .none j pos'] pos) (TEof X.g Wx (eUn oIsN ma)) := by
  refine peImp (pe_cmp (pc_isN ha) rfl) fun σ H Q ⟨w, E, S, a, p⟩ => ?_
  refine ⟨w, E, S, a, PR.imp (PR.bind a.good a.env p) fun x H1 ⟨w1, d, S1, a1, x1, r1, p1⟩ => ?_⟩
  have q := putSame p1 a1.good a1.sto rfl
  rw [a1.hp] at q
  rw [isNon_of r1]
  exact q
theorem de_notN {Wx : WX} {a : Expr} {ma : ME} {j : Nat} {pos pos' : Pos} (ha : PE X a (TEof X.g Wx ma)) : PE X (.Compare a [.IsNot] [.Constant .none j pos'] pos) (TEof X.g Wx (eUn oNotN ma)) := by
  refine peImp (pe_cmp (pc_notN ha) rfl) fun σ H Q ⟨w, E, S, a, p⟩ => ?_
  refine ⟨w, E, S, a, PR.imp (PR.bind a.good a.env p) fun x H1 ⟨w1, d, S1, a1, x1, r1, p1⟩ => ?_⟩
  have q := putSame p1 a1.good a1.sto rfl
  rw [a1.hp] at q
  rw [isNon_of r1]
  exact q
end
end J
set_option Elab.async false
set_option linter.all false
set_option maxRecDepth 100000
set_option maxHeartbeats 1000000
namespace J
open PySem PySem.Spec PyProof.Rows L2
section
variable {X : Cx} {Wx : WX}
theorem ky_of {g : G} {w : W} {d : D} {v : V} {k : Ky} (r : RD g w d v) (h : keyOf d = some k) : v = kV k := by
  cases d <;> first
    | (simp only [keyOf, Option.some.injEq] at h; subst h; exact r)
    | exact absurd h (by simp [keyOf])
theorem kys_of {g : G} {w : W} : ∀ {ds : List D} {vs : List V} {ks : List Ky}, RDs g w ds vs → keysOf ds = some ks → vs = ks.map kV
  | [], _, _, r, h => by cases h; exact r
  | d :: ds, _, _, r, h => by
    obtain ⟨v, vs, rfl, r1, r2⟩ := r
    unfold keysOf at h
    split at h
    · rename_i k ks h1 h2
      cases h
      rw [List.map_cons, ky_of r1 h1, kys_of r2 h2]
    · cases h
/-- a tuple that may be a key -/
theorem kyT_of {g : G} {w : W} {d : D} {v : V} {ks : List Ky} (r : RD g w d v) (h : keyT d = some ks) : ∃ b, v = .ref b ∧ w.H b = some (.tup (ks.map kV)) ∧ ¬ w.thA b := by
  cases d with
  | tup ds =>
    obtain ⟨b, vs, rfl, t, r⟩ := r
    have := kys_of r h
    subst this
    exact ⟨b, rfl, t.1, t.2⟩
  | _ => simp [keyT] at h
/-! dicts by zip -/
theorem valV_zip {g : G} {w : W} : ∀ {ks : List Ky} {ds : List D} {vs : List V} (k : Ky), ks.length = vs.length → RDs g w ds vs → (∀ d, getK ks ds k = some d → ∃ v, valV (ks.zip vs) k = some v ∧ RD g w d v)
  | [], _, _, k, _, _, d, h => by simp [getK] at h
  | q :: ks, [], _, k, _, r, d, h => by simp [getK] at h
  | q :: ks, e :: ds, _, k, l, r, d, h => by
    obtain ⟨v, vs, rfl, r1, r2⟩ := r
    simp only [getK] at h
    rw [List.zip_cons_cons]
    split at h
    · rename_i hq
      cases h
      exact ⟨v, valV_pos hq, r1⟩
    · rename_i hq
      rw [valV_neg hq]
      exact valV_zip k (by simpa using l) r2 d h
theorem valV_some : ∀ {ks : List Ky} {vs : List V} (k : Ky), ks.length = vs.length → (valV (ks.zip vs) k).isSome = keyIn ks k
  | [], _, k, _ => by simp [keyIn, valV]
  | q :: ks, [], k, l => by simp at l
  | q :: ks, v :: vs, k, l => by
    rw [List.zip_cons_cons]
    show _ = (decide (q = k) || keyIn ks k)
    by_cases h : q = k
    · rw [valV_pos h, decide_eq_true h]; rfl
    · rw [valV_neg h, decide_eq_false h, Bool.false_or]
      exact valV_some k (by simpa using l)
theorem valV_someG {κ : Type} [DecidableEq κ] : ∀ {ks : List κ} {vs : List V} (k : κ), ks.length = vs.length → (valV (ks.zip vs) k).isSome = ks.any fun q => decide (q = k)
  | [], _, k, _ => by simp [valV]
  | q :: ks, [], k, l => by simp at l
  | q :: ks, v :: vs, k, l => by
    rw [List.zip_cons_cons]
    show _ = (decide (q = k) || ks.any fun q => decide (q = k))
    by_cases h : q = k
    · rw [valV_pos h, decide_eq_true h]; rfl
    · rw [valV_neg h, decide_eq_false h, Bool.false_or]
      exact valV_someG k (by simpa using l)
/-! x in xs -/
theorem pys_any : ∀ (x : D) (xs : List D), x.cmpb = true → xs.all cmpOk = true → ((D.pys xs).any fun z => PyData.eqv z x.py) = inD x xs
  | _, [], _, _ => rfl
  | x, y :: ys, h, k => by
    simp only [List.all_cons, Bool.and_eq_true] at k
    show (PyData.eqv _ _ || List.any _ _) = (D.eqB _ _ || inD _ _)
    rw [py_eqv _ _ (cmpOk_b k.1) h, pys_any x ys h k.2]
theorem all_cmpbs : ∀ {xs : List D}, xs.all cmpOk = true → D.cmpbs xs = true ∧ D.depths xs ≤ 64
  | [], _ => ⟨rfl, Nat.zero_le _⟩
  | x :: xs, h => by
    simp only [List.all_cons, Bool.and_eq_true] at h
    obtain ⟨h1, h2⟩ := all_cmpbs h.2
    have hx := h.1
    unfold cmpOk at hx
    simp only [Bool.and_eq_true, decide_eq_true_eq] at hx
    refine ⟨by simp only [D.cmpbs, Bool.and_eq_true]; exact ⟨hx.1, h1⟩, ?_⟩
    show max _ _ ≤ 64
    omega
theorem seq_dp {g : G} {w : W} {S : List D} {d : D} {v : V} {xs : List D} (rs : RS g w S) (r : RD g w d v) (h : seqOf S d = some xs) (k : xs.all cmpOk = true) : Dp g.K w.H v (.list (D.pys xs)) ∨ Dp g.K w.H v (.tuple (D.pys xs)) := by
  obtain ⟨p, vs, rfl, t, r2⟩ := r.seq rs h
  have c := (all_cmpbs k).1
  rcases t with t | t
  · exact .inl (.lst t (pys_dp xs vs c r2))
  · exact .inr (.tup t (pys_dp xs vs c r2))
theorem room_in {A : Around} {xs : List D} {d : D} (hd : cmpOk d = true) (hu : A.units + 65 < cLine) : A.units + 1 + min (PyData.depthAll (D.pys xs)) d.py.depth < cLine := by
  have := SeqAt.depth_of_shaped (py_shaped hd)
  have := Nat.min_le_right (PyData.depthAll (D.pys xs)) d.py.depth
  omega
theorem jo_in (hu : X.A.units + 65 < cLine) : OpR X (compareOp .In) (opOf X.g oIn) := by
  intro pins s σ H x y v u Q I rx ry ⟨Wx, σ', w, S, d, e, hH, G, rs, r1, r2, p⟩
  subst hH
  unfold oIn at p
  split at p
  · rename_i xs e1
    split at p
    · rename_i h
      have q := putSame p G rs rfl
      obtain ⟨as, q1⟩ := Dp.reads I _ _ v (seen_dp rs r1 h.1) rx
      rw [← pys_any _ _ (cmpOk_b h.1) h.2] at q
      have hl := pys_lay _ (all_cmpbs h.2).1
      rcases seq_dp rs r2 e1 h.2 with t | t
      · obtain ⟨bs, q2⟩ := Dp.reads I _ _ u t ry
        exact SeqAt.in_list_reads q2 q1 hl (py_lay _ (cmpOk_b h.1)) (room_in h.1 hu) ⟨.bl _, _, I, rfl, q⟩
      · obtain ⟨bs, q2⟩ := Dp.reads I _ _ u t ry
        exact SeqAt.in_tuple_reads q2 q1 hl (py_lay _ (cmpOk_b h.1)) (room_in h.1 hu) ⟨.bl _, _, I, rfl, q⟩
    · exact p.elim
  · split at p
    · rename_i ks vs k e1 e2
      obtain ⟨a, us, rfl, t, l, r3⟩ := r2.dctAt rs e1
      cases ry
      have := ky_of r1 e2
      subst this
      have q := putSame p G rs rfl
      refine d_in (by omega) I (.inl ⟨_, k, t, rfl, rfl⟩) rx fun s' I' => ⟨.bl _, _, I', rfl, ?_⟩
      rw [valV_some k l]
      exact q
    · exact p.elim
theorem jo_nin (hu : X.A.units + 65 < cLine) : OpR X (compareOp .NotIn) (opOf X.g oNin) := by
  intro pins s σ H x y v u Q I rx ry ⟨Wx, σ', w, S, d, e, hH, G, rs, r1, r2, p⟩
  subst hH
  unfold oNin at p
  split at p
  · rename_i xs e1
    split at p
    · rename_i h
      have q := putSame p G rs rfl
      obtain ⟨as, q1⟩ := Dp.reads I _ _ v (seen_dp rs r1 h.1) rx
      rw [← pys_any _ _ (cmpOk_b h.1) h.2] at q
      have hl := pys_lay _ (all_cmpbs h.2).1
      rcases seq_dp rs r2 e1 h.2 with t | t
      · obtain ⟨bs, q2⟩ := Dp.reads I _ _ u t ry
        exact SeqAt.notIn_list_reads q2 q1 hl (py_lay _ (cmpOk_b h.1)) (room_in h.1 hu) ⟨.bl _, _, I, rfl, q⟩
      · obtain ⟨bs, q2⟩ := Dp.reads I _ _ u t ry
        exact SeqAt.notIn_tuple_reads q2 q1 hl (py_lay _ (cmpOk_b h.1)) (room_in h.1 hu) ⟨.bl _, _, I, rfl, q⟩
    · exact p.elim
  · split at p
    · rename_i ks vs k e1 e2
      obtain ⟨a, us, rfl, t, l, r3⟩ := r2.dctAt rs e1
      cases ry
      have := ky_of r1 e2
      subst this
      have q := putSame p G rs rfl
      refine d_notIn (by omega) I (.inl ⟨_, k, t, rfl, rfl⟩) rx fun s' I' => ⟨.bl _, _, I', rfl, ?_⟩
      rw [valV_some k l]
      exact q
    · exact p.elim
/-! x[i] -/
theorem ixOf_eq (n : Nat) (i : Int) : ixOf n i = ixN n i := rfl
theorem atOf_of {g : G} {w : W} {ds : List D} {vs : List V} {i : Int} {d : D} (r : RDs g w ds vs) (h : atOf ds i = some d) : ∃ v, atI vs i = some v ∧ RD g w d v := by
  unfold atOf at h
  unfold atI
  rw [r.length, ← ixOf_eq]
  cases e : ixOf ds.length i with
  | none => rw [e] at h; cases h
  | some j =>
    rw [e] at h
    exact r.get h
/-- what x[i] finds -/
theorem ixUse {w : W} {S : List D} {d e : D} {x y : V} {Q : VK} {Wx : WX} {σ : L2.St} (G : Good w) (rs : RS X.g w S) (r1 : RD X.g w d x) (r2 : RD X.g w e y) (p : PR X.g Wx σ w (RD X.g) Q (oIx d e S)) :
    (rIxL X.K x y w.H Q ∨ rIxT X.K x y w.H Q) ∨ ∃ a v, x = .ref a ∧ DGet w.H a y (some v) ∧ Q v w.H := by
  unfold oIx at p
  split at p
  · rename_i xs k e1
    split at p
    · rename_i z e2
      cases r2
      obtain ⟨a, vs, rfl, t, r3⟩ := r1.seq rs e1
      obtain ⟨v, e3, r4⟩ := atOf_of r3 e2
      have q := putSame p G rs r4
      rcases t with t | t
      · exact .inl (.inl ⟨a, vs, k, v, rfl, rfl, t, e3, q⟩)
      · exact .inl (.inr ⟨a, vs, k, v, rfl, rfl, t, e3, q⟩)
    · exact p.elim
  · split at p
    · rename_i ks ds k e1 e2
      split at p
      · rename_i z e3
        obtain ⟨a, us, rfl, t, l, r3⟩ := r1.dctAt rs e1
        have := ky_of r2 e2
        subst this
        obtain ⟨v, e4, r4⟩ := valV_zip k l r3 z e3
        exact .inr ⟨a, v, rfl, by rw [← e4]; exact .inl ⟨_, k, t, rfl, rfl⟩, putSame p G rs r4⟩
      · exact p.elim
    · exact p.elim
theorem jo_ix (hu : X.A.units + 1 < cLine) : IxR X (opOf X.g oIx) := by
  intro value slice pins s σ H x y v u Q I rx ry ⟨Wx, σ', w, S, d, e, hH, G, rs, r1, r2, p⟩ hs
  subst hH
  rcases ixUse G rs r1 r2 p with (h | h) | ⟨a, z, rfl, h, q⟩
  · exact ix_list value slice pins s σ _ x y v u Q I rx ry h hs
  · exact ix_tup value slice pins s σ _ x y v u Q I rx ry h hs
  · cases rx
    exact tail_any (dict_typeIs I h) PySem.F.slot_dict_getitem.lookup (d_getItem hu I h ry fun w' s' I' r' => ⟨z, _, I', r', q⟩) hs
/-- the same as a step of o[i] += e -/
theorem jg_ix (hu : X.A.units + 1 < cLine) : PGet X (opOf X.g oIx) := by
  intro pins s σ H x y v u Q I rx ry ⟨Wx, σ', w, S, d, e, hH, G, rs, r1, r2, p⟩
  subst hH
  rcases ixUse G rs r1 r2 p with (h | h) | ⟨a, z, rfl, h, q⟩
  · obtain ⟨p, xs, i, z, rfl, rfl, hq, he, q⟩ := h
    cases rx
    obtain ⟨t, rfl⟩ := ry
    obtain ⟨its, r, pl, hz⟩ := I.list hq
    obtain ⟨j, h1, h2, h3, h4, h5⟩ := atI_get he
    obtain ⟨w', ew, rw'⟩ := r.get h2
    have hl := r.length
    have hn := line63
    have fin : EP X pins σ Q w' s := ⟨z, w.H, I, rw', q⟩
    by_cases h0 : 0 ≤ i
    · have hj : i.toNat = j := by
        rw [seqIndex_of h0 h5] at h1
        exact Option.some.inj h1
      exact wpAny_getItem_list pl.isList h0 (by omega) (by rw [hj]; simpa using ew) fin
    · have hj : (i + (its.toArray.size : Int)).toNat = j := by
        rw [seqIndex_neg (by omega) h4] at h1
        rw [List.size_toArray, ← hl]
        exact Option.some.inj h1
      exact wpAny_getItem_list_neg pl.isList (by omega) (by rw [List.size_toArray] <;> omega) (by omega) (by rw [hj]; simpa using ew) fin
  · obtain ⟨p, xs, i, z, rfl, rfl, hq, he, q⟩ := h
    cases rx
    obtain ⟨t, rfl⟩ := ry
    obtain ⟨its, r, pl, hz⟩ := I.tuple hq
    obtain ⟨j, h1, h2, h3, h4, h5⟩ := atI_get he
    obtain ⟨w', ew, rw'⟩ := r.get h2
    have hl := r.length
    have hn := line63
    exact PyProof.Rows.getItem_tuple pl (by omega) (by omega) (by rw [List.size_toArray, ← hl]; exact h1) (by simpa using ew) ⟨z, w.H, I, rw', q⟩
  · cases rx
    exact d_getItem hu I h ry fun w' s' I' r' => ⟨z, _, I', r', q⟩
end
end J
set_option Elab.async false
set_option linter.all false
set_option maxRecDepth 100000
set_option maxHeartbeats 1000000
namespace J
open PySem PySem.Spec PyProof.Rows L2
section
variable {X : Cx} {Wx : WX} {a : Expr} {ma : ME} {pos : Pos}
/-! slices -/
theorem cut_eq {g : G} {w : W} {ds : List D} {vs : List V} (r : RDs g w ds vs) (lo hi : Option Int) : RDs g w (cutOf ds lo hi) (cutV vs lo hi) := by
  unfold cutOf cutV
  rw [r.length]
  exact (r.drop _).take _
theorem cut_whole {ds : List D} {lo hi : Option Int} (h : sIxOf ds.length 0 lo = 0 ∧ sIxOf ds.length ds.length hi = ds.length) : cutOf ds lo hi = ds := by
  unfold cutOf
  rw [h.1, h.2]
  simp
def slOf (g : G) : V → Option Int → Option Int → Hp → VK → Prop := fun x lo hi H Q => ∃ Wx σ w S d, w.H = H ∧ Good w ∧ RS g w S ∧ RD g w d x ∧ PR g Wx σ w (RD g) Q (oSl d lo hi S)
theorem jo_sl : SlR X (slOf X.g) := by
  intro pins s σ H x v vl vu lo hi sl Q I rx hs pl pu ⟨Wx, σ', w, S, d, hH, G, rs, r1, p⟩
  subst hH
  unfold oSl at p
  split at p
  · rename_i xs
    obtain ⟨a, vs, rfl, t, r2⟩ := id r1
    have hl := r2.length
    refine sl_tupA pins s σ _ _ v vl vu lo hi sl Q I rx hs pl pu ⟨a, vs, rfl, t.sq, fun hw => ?_, fun _ => new_tup p G rs (cut_eq r2 lo hi)⟩
    rw [hl] at hw
    rw [cut_whole hw] at p
    exact putSame p G rs r1
  · split at p
    · rename_i xs e1
      obtain ⟨a, vs, rfl, t, r2⟩ := r1.seq rs e1
      rcases t with t | t
      · exact sl_list pins s σ _ _ v vl vu lo hi sl Q I rx hs pl pu ⟨a, vs, rfl, t, new_lst p G rs (cut_eq r2 lo hi)⟩
      · rcases seqOf_some e1 with rfl | rfl | rfl | ⟨n, rfl, e⟩
        · rename_i h; exact absurd rfl (h xs)
        · obtain ⟨b, us, z, t2, _, r3⟩ := r1
          cases z
          exact sl_list pins s σ _ _ v vl vu lo hi sl Q I rx hs pl pu ⟨a, us, rfl, SqL.of t2, new_lst p G rs (cut_eq r3 lo hi)⟩
        · obtain ⟨b, us, z, t2, r3⟩ := r1
          cases z
          exact sl_list pins s σ _ _ v vl vu lo hi sl Q I rx hs pl pu ⟨a, us, rfl, t2.sq, new_lst p G rs (cut_eq r3 lo hi)⟩
        · obtain ⟨b, z, hp⟩ := r1
          cases z
          obtain ⟨us, t2, r3⟩ := rs.obj hp e
          exact sl_list pins s σ _ _ v vl vu lo hi sl Q I rx hs pl pu ⟨a, us, rfl, SqL.of t2, new_lst p G rs (cut_eq r3 lo hi)⟩
    · exact p.elim
def TPof (g : G) (Wx : WX) (m : Env → List D → R (Option Int)) : TO := fun σ H Q => ∃ w E S, At g w E σ H S ∧ PR g Wx σ w relO Q (m E S)
theorem dp_none : PO X none (TPof X.g Wx (ePart none)) := ⟨fun pins s σ H Q I h => by
  obtain ⟨w, E, S, a, p⟩ := h
  have := p none w (Ext.refl w) a.good rfl a.sto
  rw [a.hp] at this
  exact po_none.run pins s σ H Q I this⟩
theorem dp_some (h : PE X a (TEof X.g Wx ma)) : PO X (some a) (TPof X.g Wx (ePart (some ma))) := ⟨fun pins s σ H Q I hh => by
  obtain ⟨w, E, S, a, p⟩ := hh
  refine (po_some h).run pins s σ H Q I ⟨w, E, S, a, PR.imp (PR.bind a.good a.env p) fun x H1 ⟨w1, d, S1, a1, x1, r1, p1⟩ => ?_⟩
  cases d <;> try exact p1.elim
  rename_i i
  cases r1
  have := p1 (some i) w1 (Ext.refl w1) a1.good rfl a1.sto
  rw [a1.hp] at this
  exact ⟨i, rfl, this⟩⟩
theorem de_slice {lo hi : Option Expr} {ml mh : Option ME} {p2 : Pos} (he : PE X a (TEof X.g Wx ma)) (hl : PO X lo (TPof X.g Wx (ePart ml))) (hu : PO X hi (TPof X.g Wx (ePart mh))) : PE X (.Subscript a (.Slice lo hi none p2) pos) (TEof X.g Wx (eSl ma ml mh)) := by
  refine peImp (pe_slice jo_sl he hl hu) fun σ H Q ⟨w, E, S, a, p⟩ => ?_
  refine ⟨w, E, S, a, PR.imp (PR.bind a.good a.env p) fun x H1 ⟨w1, d, S1, a1, x1, r1, p1⟩ => ?_⟩
  refine ⟨w1, E, S1, a1, PR.imp (PR.bind a1.good a1.env p1) fun l H2 ⟨w2, l', S2, a2, x2, r2, p2⟩ => ?_⟩
  obtain rfl : l' = l := r2
  refine ⟨w2, E, S2, a2, PR.imp (PR.bind a2.good a2.env p2) fun u H3 ⟨w3, u', S3, a3, x3, r3, p3⟩ => ?_⟩
  obtain rfl : u' = u := r3
  exact ⟨Wx, σ, w3, S3, d, a3.hp, a3.good, a3.sto, RD.mono a1.good (x2.trans x3) d x r1, p3⟩
/-! built-ins -/
theorem RDs.one' {g : G} {w : W} {d : D} {vs : List V} (h : RDs g w [d] vs) : ∃ v, vs = [v] ∧ RD g w d v := by
  obtain ⟨v, r, rfl, h1, h2⟩ := h
  cases h2
  exact ⟨v, rfl, h1⟩
theorem RDs.two' {g : G} {w : W} {d e : D} {vs : List V} (h : RDs g w [d, e] vs) : ∃ v u, vs = [v, u] ∧ RD g w d v ∧ RD g w e u := by
  obtain ⟨v, r, rfl, h1, h2⟩ := h
  obtain ⟨u, rfl, h3⟩ := h2.one'
  exact ⟨v, u, rfl, h1, h3⟩
theorem call_lenR : CallR X (.builtin "len") (fun xs H Q => ∃ a kvs, xs = [V.ref a] ∧ Rd H a (.dK kvs) ∧ Q (.int kvs.length) H) := by
  intro pins s σ H xs us Q I r h
  obtain ⟨a, kvs, rfl, ha, q⟩ := h
  obtain ⟨u, rfl, ru⟩ := vals1 r
  cases ru
  exact d_len I ha fun t s' I' => ⟨.int kvs.length, H, I', ⟨t, rfl⟩, q⟩
theorem jc_len : CallR X (.builtin "len") (argOf X.g bLen) := by
  intro pins s σ H xs us Q I r ⟨Wx, σ', w, S, ds, hH, G, rs, r1, p⟩
  subst hH
  unfold bLen at p
  split at p
  · obtain ⟨v, rfl, r2⟩ := r1.one'
    split at p
    · rename_i xs e
      obtain ⟨a, vs, rfl, t, r3⟩ := r2.seq rs e
      have q := putSame p G rs rfl
      rw [← r3.length] at q
      exact call_len_seq pins s σ _ _ us Q I r ⟨a, vs, rfl, t, q⟩
    · split at p
      · rename_i ks vs e
        obtain ⟨a, us', rfl, t, l, r3⟩ := r2.dctAt rs e
        have q := putSame p G rs rfl
        refine call_lenR pins s σ _ _ us Q I r ⟨a, _, rfl, t, ?_⟩
        rw [List.length_zip, ← l, Nat.min_self]
        exact q
      · exact p.elim
  · exact p.elim
theorem jc_int : CallR X (.type "int") (argOf X.g bInt) := by
  intro pins s σ H xs us Q I r ⟨Wx, σ', w, S, ds, hH, G, rs, r1, p⟩
  subst hH
  unfold bInt at p
  split at p
  · obtain ⟨v, rfl, r2⟩ := r1.one'
    cases r2
    exact call_int1 pins s σ _ _ us Q I r (.inl ⟨_, rfl, putSame p G rs rfl⟩)
  · obtain ⟨v, rfl, r2⟩ := r1.one'
    cases r2
    exact call_int1 pins s σ _ _ us Q I r (.inr ⟨_, rfl, putSame p G rs rfl⟩)
  · exact p.elim
theorem jc_abs : CallR X (.builtin "abs") (argOf X.g bAbs) := by
  intro pins s σ H xs us Q I r ⟨Wx, σ', w, S, ds, hH, G, rs, r1, p⟩
  subst hH
  unfold bAbs at p
  split at p
  · obtain ⟨v, rfl, r2⟩ := r1.one'
    cases r2
    exact call_abs pins s σ _ _ us Q I r ⟨_, rfl, putSame p G rs rfl⟩
  · exact p.elim
theorem jc_max2 (hc : X.calm = true) : CallR X (.builtin "max") (argOf X.g bMax2) := by
  intro pins s σ H xs us Q I r ⟨Wx, σ', w, S, ds, hH, G, rs, r1, p⟩
  subst hH
  unfold bMax2 at p
  split at p
  · obtain ⟨v, u, rfl, r2, r3⟩ := r1.two'
    cases r2
    cases r3
    exact call_max2 hc pins s σ _ _ us Q I r ⟨_, _, rfl, putSame p G rs rfl⟩
  · exact p.elim
theorem jc_min2 (hc : X.calm = true) : CallR X (.builtin "min") (argOf X.g bMin2) := by
  intro pins s σ H xs us Q I r ⟨Wx, σ', w, S, ds, hH, G, rs, r1, p⟩
  subst hH
  unfold bMin2 at p
  split at p
  · obtain ⟨v, u, rfl, r2, r3⟩ := r1.two'
    cases r2
    cases r3
    exact call_min2 hc pins s σ _ _ us Q I r ⟨_, _, rfl, putSame p G rs rfl⟩
  · exact p.elim
theorem ints_vals {g : G} {w : W} : ∀ {ds : List D} {vs : List V} {ns : List Int}, RDs g w ds vs → intsOf ds = some ns → vs = ns.map V.int
  | [], _, ns, r, h => by
    cases r
    simp only [intsOf, Option.some.injEq] at h
    subst h
    rfl
  | d :: ds, _, ns, r, h => by
    obtain ⟨v, vs, rfl, r1, r2⟩ := r
    cases d <;> try (simp only [intsOf, reduceCtorEq] at h)
    rename_i i
    cases e : intsOf ds with
    | none => rw [e] at h; cases h
    | some ms =>
      rw [e] at h
      cases h
      cases r1
      rw [ints_vals r2 e]
      rfl
theorem crT_sum (hc : X.calm = true) : CallR X (.builtin "sum") (fun vs H Q => ∃ (a : Addr) (ns : List Int), vs = [V.ref a] ∧ SqT X.K H a (ns.map V.int) ∧ Q (.int ns.sum) H) := by
  intro pins s σ H vs us Q I r h
  obtain ⟨a, ns, rfl, hs, q⟩ := h
  obtain ⟨its, rv, pl, hz⟩ := I.tuple hs
  rw [Vals.ref1 r]
  have hi := rv.ints
  obtain ⟨xs, e⟩ := hi.allInts.items
  have hn : numsOf (intItems xs).toList = ns := by rw [← e]; exact hi.numsOf
  rw [nums_intItems] at hn
  rw [e] at pl
  refine PySem.W.ktm_sumG (I.ok.hd hc) pl fun h' tk t' hk => ⟨.int _, H, I.kept hk, ⟨_, rfl⟩, ?_⟩
  rw [preSum_eq, List.take_of_length_le (by simp), hn]
  exact q
theorem jc_sum (hc : X.calm = true) : CallR X (.builtin "sum") (argOf X.g bSum) := by
  intro pins s σ H xs us Q I r ⟨Wx, σ', w, S, ds, hH, G, rs, r1, p⟩
  subst hH
  unfold bSum at p
  split at p
  · obtain ⟨v, rfl, r2⟩ := r1.one'
    split at p
    · rename_i xs e
      split at p
      · rename_i ns e2
        obtain ⟨a, vs, rfl, t, r3⟩ := r2.seq rs e
        have := ints_vals r3 e2
        subst this
        rcases t with t | t
        · exact cr_sum hc pins s σ _ _ us Q I r ⟨a, ns, rfl, t, putSame p G rs rfl⟩
        · exact crT_sum hc pins s σ _ _ us Q I r ⟨a, ns, rfl, t, putSame p G rs rfl⟩
      · exact p.elim
    · exact p.elim
  · exact p.elim
theorem jc_tuple : CallR X (.type "tuple") (argOf X.g bTuple) := by
  intro pins s σ H xs us Q I r ⟨Wx, σ', w, S, ds, hH, G, rs, r1, p⟩
  subst hH
  unfold bTuple at p
  split at p
  · obtain ⟨v, rfl, r2⟩ := r1.one'
    split at p
    · rename_i xs e
      have h := seqOf_some e
      rcases h with rfl | h
      · obtain ⟨a, vs, rfl, t, r3⟩ := id r2
        exact call_tuple_of pins s σ _ _ us Q I r ⟨a, vs, rfl, .inr ⟨t.sq, putSame p G rs r2⟩⟩
      · have tl : ∃ a vs, v = .ref a ∧ SqL X.K w.H a vs ∧ RDs X.g w xs vs := by
          rcases h with rfl | rfl | ⟨n, rfl, e2⟩
          · obtain ⟨a, vs, rfl, t, _, r3⟩ := r2
            exact ⟨a, vs, rfl, SqL.of t, r3⟩
          · obtain ⟨a, vs, rfl, t, r3⟩ := r2
            exact ⟨a, vs, rfl, t.sq, r3⟩
          · obtain ⟨a, rfl, hp⟩ := r2
            obtain ⟨vs, t, r3⟩ := rs.obj hp e2
            exact ⟨a, vs, rfl, SqL.of t, r3⟩
        obtain ⟨a, vs, rfl, t, r3⟩ := tl
        exact call_tuple_of pins s σ _ _ us Q I r ⟨a, vs, rfl, .inl ⟨t, new_tup p G rs r3⟩⟩
    · exact p.elim
  · exact p.elim
theorem jc_list : CallR X (.type "list") (argOf X.g bList) := by
  intro pins s σ H xs us Q I r ⟨Wx, σ', w, S, ds, hH, G, rs, r1, p⟩
  subst hH
  unfold bList at p
  split at p
  · obtain ⟨v, rfl, r2⟩ := r1.one'
    split at p
    · rename_i xs e
      obtain ⟨a, vs, rfl, t, r3⟩ := r2.seq rs e
      exact call_list_of pins s σ _ _ us Q I r ⟨a, vs, rfl, t, new_lst p G rs r3⟩
    · exact p.elim
  · exact p.elim
theorem jc_listL : CallR X (.type "list") (argOf X.g bListL) := by
  intro pins s σ H xs us Q I r ⟨Wx, σ', w, S, ds, hH, G, rs, r1, p⟩
  subst hH
  unfold bListL at p
  split at p
  · obtain ⟨v, rfl, r2⟩ := r1.one'
    split at p
    · rename_i xs e
      obtain ⟨a, vs, rfl, t, r3⟩ := r2.seq rs e
      exact call_list_of pins s σ _ _ us Q I r ⟨a, vs, rfl, t, new_loc p G rs r3⟩
    · exact p.elim
  · exact p.elim
/-! methods -/
theorem mtUse {m : D → List D → List D → R D} {o : ME} {ma : MA} {r : V → List V → Hp → VK → Prop} (hr : ∀ x xs H Q, mtOf X.g m x xs H Q → r x xs H Q) : ∀ (σ : L2.St) H Q, TEof X.g Wx (eMeth m o ma) σ H Q → tBM X.K "list" r (TEof X.g Wx o) (TAof X.g Wx ma) σ H Q := fun σ H Q ⟨w, E, S, a, p⟩ => by
  refine ⟨w, E, S, a, PR.imp (PR.bind a.good a.env p) fun x H1 ⟨w1, d, S1, a1, x1, r1, p1⟩ => ?_⟩
  split at p1
  · rename_i h
    obtain ⟨xs, e⟩ := Option.isSome_iff_exists.mp h
    obtain ⟨b, vs, rfl, t, r3⟩ := r1.lstAt a1.sto e
    refine ⟨.inl ⟨rfl, _, SqL.of (by rw [← a1.hp]; exact t)⟩, w1, E, S1, a1, PR.imp (PR.bind a1.good a1.env p1) fun ys H2 ⟨w2, es, S2, a2, x2, r2, p2⟩ => ?_⟩
    exact hr _ ys H2 Q ⟨Wx, σ, w2, S2, d, es, a2.hp, a2.good, a2.sto, RD.mono a1.good x2 d _ r1, r2, p2⟩
  · exact p1.elim
theorem locUse {w : W} {S : List D} {n : Nat} {xs : List D} {v : V} (rs : RS X.g w S) (r : RD X.g w (.loc n) v) (e : S[n]? = some (.lst xs)) : ∃ a vs, v = .ref a ∧ w.rhA[n]? = some a ∧ w.H a = some (.lst vs) ∧ RDs X.g w xs vs := by
  obtain ⟨a, rfl, hp⟩ := r
  obtain ⟨vs, t, r3⟩ := rs.obj hp e
  exact ⟨a, vs, rfl, hp, t, r3⟩
theorem put_upd {w : W} {a : Addr} {o : HO} (G : Good w) (hno : ∀ xs, o ≠ .tup xs := by intro _ z; cases z) : Good { w with H := upd w.H a o } := ⟨G.nd, G.sub, fun b h => by
  show upd w.H a o b ≠ none
  by_cases e : b = a
  · rw [e, upd_same]; simp
  · rw [upd_ne e]; exact G.al b h, fun b h xs => by
  show upd w.H a o b ≠ some (.tup xs)
  by_cases e : b = a
  · rw [e, upd_same]
    intro z
    exact hno xs (Option.some.inj z)
  · rw [upd_ne e]; exact G.nt b h xs⟩
/-- an object of the store gets another content -/
theorem putLst {w : W} {S : List D} {n : Nat} {a : Addr} {xs : List D} {vs : List V} {Q : VK} {d : D} {v : V} {σ : L2.St} (G : Good w) (rs : RS X.g w S) (hp : w.rhA[n]? = some a) (r : RDs X.g w xs vs) (rd : RD X.g w d v)
    (p : PR X.g Wx σ w (RD X.g) Q (.ok d (S.set n (.lst xs)))) : Q v (upd w.H a (.lst vs)) := by
  have mem := List.mem_of_getElem? hp
  have x := upd_ext (o := .lst vs) mem
  refine p v { w with H := upd w.H a (.lst vs) } x (put_upd G) (rd.mono G x) (upd_store G rs hp ⟨vs, upd_same, r.mono G x⟩)
theorem jm_append : MtR X "list.append" (mtOf X.g mAppend) := by
  intro pins s σ H x xs v us Q I rx rs' ⟨Wx, σ', w, S, d, ds, hH, G, rs, r1, r2, p⟩
  subst hH
  unfold mAppend at p
  split at p
  · rename_i n y
    obtain ⟨z, rfl, r3⟩ := r2.one'
    split at p
    · rename_i ys e
      split at p
      · rename_i hl
        obtain ⟨a, vs, rfl, hp, t, r4⟩ := locUse rs r1 e
        exact mt_append pins s σ _ _ _ v us Q I rx rs' ⟨a, vs, z, rfl, rfl, t, by rw [r4.length, ← sl_eq]; exact hl, putLst (d := .non) (v := .non) G rs hp (r4.append (RDs.one r3)) rfl p⟩
      · exact p.elim
    · exact p.elim
  · exact p.elim
theorem jm_pop : MtR X "list.pop" (mtOf X.g mPop) := by
  intro pins s σ H x xs v us Q I rx rs' ⟨Wx, σ', w, S, d, ds, hH, G, rs, r1, r2, p⟩
  subst hH
  unfold mPop at p
  split at p
  · rename_i n
    cases r2
    split at p
    · rename_i ys e
      split at p
      · rename_i y e2
        obtain ⟨a, vs, rfl, hp, t, r4⟩ := locUse rs r1 e
        have hl := r4.length
        obtain ⟨z, h1, h2⟩ := r4.get e2
        refine mt_pop pins s σ _ _ _ v us Q I rx rs' ⟨a, vs, z, rfl, rfl, t, by rw [hl]; exact h1, putLst G rs hp ?_ h2 p⟩
        rw [List.dropLast_eq_take, List.dropLast_eq_take, hl]
        exact r4.take _
      · exact p.elim
    · exact p.elim
  · exact p.elim
theorem de_meth {o e : Expr} {es : List Expr} {mo : ME} {mr : MA} {name : Str} {apos cpos : Pos} {id : String} {m : D → List D → List D → R D} (slot : Slot "list" name id) (hty : typeOf (.builtin id) = pure (.type "method_descriptor")) (hm : MtR X id (mtOf X.g m)) (ho : PE X o (TEof X.g Wx mo)) (ha : PA X (e :: es) (TAof X.g Wx mr))
    (hbase : attributeBase o name X.env (eval o X.env) = eval o X.env := by rfl)
    (hfew : ((backTo cpos (starEach (e :: es) X.env)).all (fun x => !x.1) && (backToKw cpos (keywordEach [] X.env)).all (fun x => x.1.isSome)
      && decide ((e :: es).length + ([] : List Keyword).length + (if ([] : List Keyword).isEmpty then 0 else 1) < 30)) = true := by rfl)
    (hline : (apos.endLine == cpos.line) = true := by rfl) (hs : starEach (e :: es) X.env = (false, eval e X.env) :: starEach es X.env := by rfl) (hplain : (backTo cpos (starEach es X.env)).any (·.1) = false := by rfl) :
    PE X (.Call (.Attribute o name apos) (e :: es) [] cpos) (TEof X.g Wx (eMeth m mo mr)) :=
  peImp (pe_bm PySem.F.plainAttrs_list slot hty hm ho ha hbase hfew hline hs hplain) (mtUse fun _ _ _ _ h => h)
theorem de_meth0 {o : Expr} {mo : ME} {name : Str} {apos cpos : Pos} {id : String} {m : D → List D → List D → R D} (slot : Slot "list" name id) (hty : typeOf (.builtin id) = pure (.type "method_descriptor")) (hm : MtR X id (mtOf X.g m)) (ho : PE X o (TEof X.g Wx mo))
    (hbase : attributeBase o name X.env (eval o X.env) = eval o X.env := by rfl) (hline : (apos.endLine == cpos.line) = true := by rfl) :
    PE X (.Call (.Attribute o name apos) [] [] cpos) (TEof X.g Wx (eMeth m mo aNil)) := by
  refine peImp (pe_bm0 PySem.F.plainAttrs_list slot hty hm ho hbase hline) fun σ H Q ⟨w, E, S, a, p⟩ => ?_
  refine ⟨w, E, S, a, PR.imp (PR.bind a.good a.env p) fun x H1 ⟨w1, d, S1, a1, x1, r1, p1⟩ => ?_⟩
  split at p1
  · rename_i h
    obtain ⟨xs, e⟩ := Option.isSome_iff_exists.mp h
    obtain ⟨b, vs, rfl, t, r3⟩ := r1.lstAt a1.sto e
    exact ⟨.inl ⟨rfl, _, SqL.of (by rw [← a1.hp]; exact t)⟩, Wx, σ, w1, S1, d, [], a1.hp, a1.good, a1.sto, r1, rfl, p1⟩
  · exact p1.elim
/-! o[i] = v -/
theorem zip_map {κ : Type} [DecidableEq κ] {ks : List κ} (k : κ) (v : V) : ∀ {ks : List κ} {vs : List V}, ks.length = vs.length → (ks.zip vs).map (fun kv => if kv.1 = k then (kv.1, v) else kv) = ks.zip (ks.zipWith (fun q u => if q = k then v else u) vs)
  | [], [], _ => rfl
  | q :: ks, [], l => by simp at l
  | [], _ :: _, l => by simp at l
  | q :: ks, u :: vs, l => by
    rw [List.zip_cons_cons, List.map_cons, List.zipWith_cons_cons, List.zip_cons_cons, zip_map (ks := ks) k v (by simpa using l)]
    by_cases h : q = k
    · simp [h]
    · simp [h]
theorem RDs.zipSet {κ : Type} [DecidableEq κ] {g : G} {w : W} {d : D} {v : V} (k : κ) (rd : RD g w d v) : ∀ {ks : List κ} {ds : List D} {vs : List V}, RDs g w ds vs → RDs g w (ks.zipWith (fun q e => if q = k then d else e) ds) (ks.zipWith (fun q u => if q = k then v else u) vs)
  | [], _, _, r => by simp [RDs]
  | q :: ks, [], _, r => by cases r; simp [RDs]
  | q :: ks, e :: ds, _, r => by
    obtain ⟨u, vs, rfl, r1, r2⟩ := r
    rw [List.zipWith_cons_cons, List.zipWith_cons_cons]
    refine ⟨_, _, rfl, ?_, RDs.zipSet k rd r2⟩
    by_cases h : q = k
    · rw [if_pos h, if_pos h]; exact rd
    · rw [if_neg h, if_neg h]; exact r1
/-- what o[i] = v does: a list's item, a dict's key -/
def setOf (g : G) : V → V → V → Hp → (Hp → Prop) → Prop := fun o i v H Q => ∃ w S x k d S', w.H = H ∧ Good w ∧ RS g w S ∧ RD g w x o ∧ RD g w k i ∧ RD g w d v ∧ putAt x k d S = some S' ∧ ∀ w', Ext w w' → Good w' → RS g w' S' → Q w'.H
theorem jp_put (hu : X.A.units + 1 < cLine) : PSet X (setOf X.g) := by
  intro pins s σ H o i v ov iv u Q I ro ri rv ⟨w, S, x, k, d, S', hH, G, rs, r1, r2, r3, hp, q⟩
  subst hH
  unfold putAt at hp
  split at hp
  · rename_i n
    split at hp
    · rename_i xs e
      split at hp
      · rename_i k'
        split at hp
        · rename_i j hj
          cases hp
          cases r2
          obtain ⟨a, vs, rfl, h1, t, r4⟩ := locUse rs r1 e
          have x := upd_ext (o := .lst (vs.set j v)) (List.mem_of_getElem? h1)
          exact set_list pins s σ _ _ _ v ov iv u Q I ro ri rv ⟨a, vs, k', j, rfl, rfl, t, by rw [r4.length]; exact hj, q _ x (put_upd G) (upd_store G rs h1 ⟨_, upd_same, (r4.set j r3).mono G x⟩)⟩
        · cases hp
      · cases hp
    · rename_i ks ds e
      split at hp
      · rename_i k' ek
        split at hp
        · rename_i hl
          cases hp
          obtain ⟨a, rfl, h1⟩ := r1
          obtain ⟨vs, t, l, r4⟩ := rs.obj h1 e
          have := ky_of r2 ek
          subst this
          cases ro
          have hz : (ks.zip vs).length < sizeLine := by rw [List.length_zip, ← l, Nat.min_self, ← sl_eq]; exact hl
          refine d_setItem hu I (DPut.k (k := k') t hz) ri rv fun s4 I4 => ⟨_, I4, ?_⟩
          have mem := List.mem_of_getElem? h1
          have ea : ((ks.zip vs).any fun kv => decide (kv.1 = k')) = keyIn ks k' := by rw [valV_any, valV_some k' l]
          unfold L2.putK
          rw [ea]
          unfold putAt.putK at q
          cases hk : keyIn ks k' with
          | true =>
            rw [if_pos rfl, zip_map (ks := ks) k' v l]
            rw [hk, if_pos rfl] at q
            have x := upd_ext (w := w) (o := .dK (ks.zip (ks.zipWith (fun q u => if q = k' then v else u) vs))) mem
            refine q _ x (put_upd G) (upd_store G rs h1 ⟨_, upd_same, ?_, (RDs.zipSet k' r3 r4).mono G x⟩)
            simp [l]
          | false =>
            rw [if_neg Bool.false_ne_true]
            rw [hk, if_neg Bool.false_ne_true] at q
            have ez : ks.zip vs ++ [(k', v)] = (ks ++ [k']).zip (vs ++ [v]) := by rw [List.zip_append l]; rfl
            rw [ez]
            have x := upd_ext (w := w) (o := .dK ((ks ++ [k']).zip (vs ++ [v]))) mem
            refine q _ x (put_upd G) (upd_store G rs h1 ⟨_, upd_same, ?_, (r4.append (RDs.one r3)).mono G x⟩)
            simp [l]
        · cases hp
      · cases hp
    · rename_i ks ds e
      split at hp
      · rename_i k' ek
        split at hp
        · rename_i hl
          cases hp
          obtain ⟨a, rfl, h1⟩ := r1
          obtain ⟨vs, t, l, r4⟩ := rs.obj h1 e
          obtain ⟨kb, rfl, tb, _⟩ := kyT_of r2 ek
          cases ro
          have hz : (ks.zip vs).length < sizeLine := by rw [List.length_zip, ← l, Nat.min_self, ← sl_eq]; exact hl
          refine d_setItem hu I (DPut.t (k := k') t tb hz) ri rv fun s4 I4 => ⟨_, I4, ?_⟩
          have mem := List.mem_of_getElem? h1
          have ea : ((ks.zip vs).any fun kv => decide (kv.1 = k')) = (ks.any fun q => decide (q = k')) := by rw [valV_any, valV_someG k' l]
          unfold L2.putK
          rw [ea]
          unfold putAt.putT at q
          cases hk : (ks.any fun q => decide (q = k')) with
          | true =>
            rw [if_pos rfl, zip_map (ks := ks) k' v l]
            rw [hk, if_pos rfl] at q
            have x := upd_ext (w := w) (o := .dT (ks.zip (ks.zipWith (fun q u => if q = k' then v else u) vs))) mem
            refine q _ x (put_upd G) (upd_store G rs h1 ⟨_, upd_same, ?_, (RDs.zipSet k' r3 r4).mono G x⟩)
            simp [l]
          | false =>
            rw [if_neg Bool.false_ne_true]
            rw [hk, if_neg Bool.false_ne_true] at q
            have ez : ks.zip vs ++ [(k', v)] = (ks ++ [k']).zip (vs ++ [v]) := by rw [List.zip_append l]; rfl
            rw [ez]
            have x := upd_ext (w := w) (o := .dT ((ks ++ [k']).zip (vs ++ [v]))) mem
            refine q _ x (put_upd G) (upd_store G rs h1 ⟨_, upd_same, ?_, (r4.append (RDs.one r3)).mono G x⟩)
            simp [l]
        · cases hp
      · cases hp
    · cases hp
  · cases hp
end
end J
set_option Elab.async false
set_option linter.all false
set_option maxRecDepth 100000
set_option maxHeartbeats 1000000
namespace J
open PySem PySem.Spec PyProof.Rows L2
/-! ### statements -/
def PO_ (g : G) (Wx : WX) (D : Ends) (w : W) : O → Prop
  | .nx E S => ∀ σ' w', Ext w w' → Good w' → RE g w' E σ' → RS g w' S → D.nx σ' w'.H
  | .rt d S => ∀ v w', Ext w w' → Good w' → RD g w' d v → RS g w' S → D.rt v w'.H
  | .bk E S => ∀ σ' w', Ext w w' → Good w' → RE g w' E σ' → RS g w' S → D.bk σ' w'.H
  | .ct E S => ∀ σ' w', Ext w w' → Good w' → RE g w' E σ' → RS g w' S → D.ct σ' w'.H
  | .exc c fs E S => ∀ cls dx σ' w', Ext w w' → Good w' → RX g w' c fs cls dx → RE g w' E σ' → RS g w' S → Wx cls dx σ' w'.H
  | .bad => False
def TSof (g : G) (Wx : WX) (m : MS) : TS := fun D σ H => ∃ w E S, At g w E σ H S ∧ PO_ g Wx D w (m E S)
theorem PO_.at {g : G} {Wx : WX} {D : Ends} {w w1 : W} {o : O} (h : PO_ g Wx D w o) (x : Ext w w1) : PO_ g Wx D w1 o := by
  cases o with
  | nx E S => exact fun σ w' y => h σ w' (x.trans y)
  | rt d S => exact fun v w' y => h v w' (x.trans y)
  | bk E S => exact fun σ w' y => h σ w' (x.trans y)
  | ct E S => exact fun σ w' y => h σ w' (x.trans y)
  | exc c fs E S => exact fun cls dx σ w' y => h cls dx σ w' (x.trans y)
  | bad => exact h
theorem PO_.bind {g : G} {Wx : WX} {σ : L2.St} {w : W} {E : Env} {D : Ends} {r : R J.D} {k : J.D → List J.D → O} (G : Good w) (he : RE g w E σ)
    (h : PO_ g Wx D w (r.toO E k)) : PR g Wx σ w (RD g) (fun x H1 => ∃ w1 a S1, At g w1 E σ H1 S1 ∧ Ext w w1 ∧ RD g w1 a x ∧ PO_ g Wx D w1 (k a S1)) r := by
  cases r with
  | ok d S => exact fun v w' x G' rl rs => ⟨w', d, S, ⟨rfl, G', he.mono G x, rs⟩, x, rl, PO_.at h x⟩
  | exc c fs S => exact fun cls dx w' x G' rx rs => h cls dx σ w' x G' rx (he.mono G x) rs
  | bad => exact h
theorem PO_.tbind {g : G} {Wx : WX} {σ : L2.St} {w : W} {E : Env} {D : Ends} {r : R Bool} {k : Bool → List J.D → O} (G : Good w) (he : RE g w E σ)
    (h : PO_ g Wx D w (r.tO E k)) : PR g Wx σ w relB (fun x H1 => ∃ w1 S1, At g w1 E σ H1 S1 ∧ Ext w w1 ∧ PO_ g Wx D w1 (k x S1)) r := by
  cases r with
  | ok d S => exact fun v w' x G' rl rs => ⟨w', S, ⟨rfl, G', he.mono G x, rs⟩, x, by cases rl; exact PO_.at h x⟩
  | exc c fs S => exact fun cls dx w' x G' rx rs => h cls dx σ w' x G' rx (he.mono G x) rs
  | bad => exact h
section
variable {X : Cx} {Wx : WX} {e : Expr} {m m1 m2 : MS} {me : ME} {st : Stmt} {rest : List Stmt} {pos : Pos}
theorem ds_nil : PSs X [] (TSof X.g Wx sNext) := by
  refine pssImp pss_nil fun D σ H ⟨w, E, S, a, p⟩ => ?_
  have := p σ w (Ext.refl w) a.good a.env a.sto
  rw [a.hp] at this
  exact this
theorem ds_one (h : PS X st (TSof X.g Wx m)) : PSs X [st] (TSof X.g Wx m) := pss_one h
theorem ds_cons (h1 : PS X st (TSof X.g Wx m1)) (h2 : PSs X rest (TSof X.g Wx m2)) : PSs X (st :: rest) (TSof X.g Wx (sSeq m1 m2)) := by
  refine pssImp (pss_cons h1 h2) fun D σ H ⟨w, E, S, a, p⟩ => ⟨w, E, S, a, ?_⟩
  unfold sSeq at p
  split at p
  · rename_i E1 S1 e1
    rw [e1]
    exact fun σ' w' x G' re rs => ⟨w', E1, S1, ⟨rfl, G', re, rs⟩, p.at x⟩
  · rename_i h
    cases e1 : m1 E S with
    | nx E1 S1 => exact absurd e1 (h E1 S1)
    | rt d S => rw [e1] at p; exact p
    | bk E S => rw [e1] at p; exact p
    | ct E S => rw [e1] at p; exact p
    | exc c fs E S => rw [e1] at p; exact p
    | bad => rw [e1] at p; exact p
theorem ds_pass : PS X (.Pass pos) (TSof X.g Wx sNext) := by
  refine psImp ps_pass fun D σ H ⟨w, E, S, a, p⟩ => ?_
  have := p σ w (Ext.refl w) a.good a.env a.sto
  rw [a.hp] at this
  exact this
theorem ds_break : PS X (.Break pos) (TSof X.g Wx sBreak) := by
  refine psImp ps_break fun D σ H ⟨w, E, S, a, p⟩ => ?_
  have := p σ w (Ext.refl w) a.good a.env a.sto
  rw [a.hp] at this
  exact this
theorem ds_continue : PS X (.Continue pos) (TSof X.g Wx sCont) := by
  refine psImp ps_continue fun D σ H ⟨w, E, S, a, p⟩ => ?_
  have := p σ w (Ext.refl w) a.good a.env a.sto
  rw [a.hp] at this
  exact this
theorem ds_never : PS X st (TSof X.g Wx sNever) := psImp ps_never fun D σ H ⟨w, E, S, a, p⟩ => p
theorem ds_expr (he : PE X e (TEof X.g Wx me)) (hs : swapsWith e none pos.line X.env = pure false := by rfl) : PS X (.Expr e pos) (TSof X.g Wx (sExpr me)) := by
  refine psImp (ps_expr he hs) fun D σ H ⟨w, E, S, a, p⟩ => ⟨w, E, S, a, PR.imp (PO_.bind a.good a.env p) fun x H1 ⟨w1, d, S1, a1, x1, r1, p1⟩ => ?_⟩
  have := p1 σ w1 (Ext.refl w1) a1.good a1.env a1.sto
  rw [a1.hp] at this
  exact this
theorem ds_ret (he : PE X e (TEof X.g Wx me)) : PS X (.Return (some e) pos) (TSof X.g Wx (sRet me)) := by
  refine psImp (ps_ret he) fun D σ H ⟨w, E, S, a, p⟩ => ⟨w, E, S, a, PR.imp (PO_.bind a.good a.env p) fun x H1 ⟨w1, d, S1, a1, x1, r1, p1⟩ => ?_⟩
  have := p1 x w1 (Ext.refl w1) a1.good r1 a1.sto
  rw [a1.hp] at this
  exact this
theorem ds_retN : PS X (.Return none pos) (TSof X.g Wx sRetN) := by
  refine psImp ps_retN fun D σ H ⟨w, E, S, a, p⟩ => ?_
  have := p .non w (Ext.refl w) a.good rfl a.sto
  rw [a.hp] at this
  exact this
theorem ds_if {c : Expr} {a b : List Stmt} {mt : MT} (hc : PT X c (TTof X.g Wx mt)) (ha : PSs X a (TSof X.g Wx m1)) (hb : PSs X b (TSof X.g Wx m2)) : PS X (.If c a b pos) (TSof X.g Wx (sIf mt m1 m2)) := by
  refine psImp (ps_if hc ha hb) fun D σ H ⟨w, E, S, a, p⟩ => ⟨w, E, S, a, PR.imp (PO_.tbind a.good a.env p) fun x H1 ⟨w1, S1, a1, x1, p1⟩ => ?_⟩
  cases x
  · rw [if_neg Bool.false_ne_true] at p1 ⊢
    exact ⟨w1, E, S1, a1, p1⟩
  · rw [if_pos rfl] at p1 ⊢
    exact ⟨w1, E, S1, a1, p1⟩
/-! targets -/
mutual
def Tg.slots : Tg → List Nat
  | .nm i => [i]
  | .tp ts => Tg.slotss ts
def Tg.slotss : List Tg → List Nat
  | [] => []
  | t :: ts => t.slots ++ Tg.slotss ts
end
theorem RE.set {g : G} {w : W} {E : Env} {σ : L2.St} {i : Nat} {d : D} {v : V} (h : RE g w E σ) (r : RD g w d v) : RE g w (E.set i (some d)) (σ.set i (some v)) := ⟨by simp [h.1], fun j d' e => by
  by_cases hj : j = i
  · subst hj
    by_cases hl : j < E.length
    · rw [List.getElem?_set_self hl] at e
      cases e
      exact ⟨v, List.getElem?_set_self (by rw [← h.1]; exact hl), r⟩
    · rw [List.getElem?_eq_none (by simpa using hl)] at e
      cases e
  · rw [List.getElem?_set_ne (Ne.symm hj)] at e ⊢
    exact h.2 j d' e⟩
def TGof (g : G) (t : Tg) : TG := fun v σ H Q => ∃ w E S d E', At g w E σ H S ∧ RD g w d v ∧ t.bind d E = some E' ∧ ∀ σ', RE g w E' σ' → (∀ i, i ∉ t.slots → σ'[i]? = σ[i]?) → σ'.length = σ.length → Q σ' H
def TGsof (g : G) (ts : List Tg) : TGs := fun vs σ H Q => ∃ w E S ds E', At g w E σ H S ∧ RDs g w ds vs ∧ Tg.binds ts ds E = some E' ∧ ∀ σ', RE g w E' σ' → (∀ i, i ∉ Tg.slotss ts → σ'[i]? = σ[i]?) → σ'.length = σ.length → Q σ' H
theorem pgImp {t t' : TG} (h : PG X e t) (f : ∀ v σ H Q, t' v σ H Q → t v σ H Q) : PG X e t' := ⟨fun pins s σ H v u Q I r hw => h.run pins s σ H v u Q I r (f _ _ _ _ hw)⟩
theorem pgsImp {es : List Expr} {t t' : TGs} (h : PGs X es t) (f : ∀ v σ H Q, t' v σ H Q → t v σ H Q) : PGs X es t' := ⟨fun pins s σ H v u Q I r hw => h.run pins s σ H v u Q I r (f _ _ _ _ hw)⟩
theorem dg_name {i : Nat} (h : PG X e (gName i)) : PG X e (TGof X.g (.nm i)) := pgImp h fun v σ H Q ⟨w, E, S, d, E', a, r, b, q⟩ => by
  cases b
  exact q _ (a.env.set r) (fun j hj => List.getElem?_set_ne fun z => hj (by subst z; exact List.mem_singleton.mpr rfl)) (by simp)
theorem dg_nil : PGs X [] (TGsof X.g []) := pgsImp pgs_nil fun vs σ H Q ⟨w, E, S, ds, E', a, r, b, q⟩ => by
  cases ds with
  | nil =>
    cases b
    cases r
    exact ⟨rfl, q σ a.env (fun _ _ => rfl) rfl⟩
  | cons d ds => cases b
theorem dg_cons {es : List Expr} {t : Tg} {ts : List Tg} (h1 : PG X e (TGof X.g t)) (h2 : PGs X es (TGsof X.g ts))
    (hs : (assignEach (e :: es) X.env).map (·.2) = assign e X.env :: (assignEach es X.env).map (·.2) := by rfl) : PGs X (e :: es) (TGsof X.g (t :: ts)) := pgsImp (pgs_cons h1 h2 hs) fun vs σ H Q ⟨w, E, S, ds, E', a, r, b, q⟩ => by
  cases ds with
  | nil => cases b
  | cons d ds =>
    obtain ⟨v, vr, rfl, r1, r2⟩ := r
    simp only [Tg.binds] at b
    split at b
    · rename_i E1 e1
      refine ⟨v, vr, rfl, w, E, S, d, E1, a, r1, e1, fun σ1 re1 k1 l1 => ?_⟩
      refine ⟨w, E1, S, ds, E', ⟨a.hp, a.good, re1, a.sto⟩, r2, b, fun σ2 re2 k2 l2 => q σ2 re2 (fun i hi => ?_) (l2.trans l1)⟩
      have hi' : i ∉ t.slots ++ Tg.slotss ts := hi
      rw [List.mem_append, not_or] at hi'
      exact (k2 i hi'.2).trans (k1 i hi'.1)
    · cases b
theorem binds_len : ∀ {ts : List Tg} {ds : List D} {E E' : Env}, Tg.binds ts ds E = some E' → ds.length = ts.length
  | [], [], _, _, _ => rfl
  | [], _ :: _, _, _, h => by cases h
  | _ :: _, [], _, _, h => by cases h
  | t :: ts, d :: ds, E, E', h => by
    simp only [Tg.binds] at h
    split at h
    · simp [binds_len h]
    · cases h
theorem tp_bind {ts : List Tg} {d : D} {E E' : Env} (h : (Tg.tp ts).bind d E = some E') : ∃ ds, d = .tup ds ∧ Tg.binds ts ds E = some E' := by
  cases d with
  | tup ds => exact ⟨ds, rfl, h⟩
  | _ => simp [Tg.bind] at h
theorem dg_tup {es : List Expr} {k : Nat} {ts : List Tg} (hc : X.calm = true) (h : PGs X es (TGsof X.g ts))
    (hn : (assignEach es X.env).length = ts.length := by rfl) (hst : (assignEach es X.env).findIdx? (·.1) = none := by rfl) : PG X (.Tuple es k pos) (TGof X.g (.tp ts)) := pgImp (pg_tup hc h hn hst) fun v σ H Q ⟨w, E, S, d, E', a, r, b, q⟩ => by
  obtain ⟨ds, rfl, b'⟩ := tp_bind b
  obtain ⟨p, vs, rfl, t, r2⟩ := r
  refine ⟨p, vs, rfl, ?_, by rw [r2.length, binds_len b'], w, E, S, ds, E', a, r2, b', q⟩
  rw [← a.hp]
  exact t.sq
/-! stores -/
theorem ds_set {i : Nat} {x : Str} {pos' : Pos} (h : ∀ te, PE X e te → PS X (.Assign [.Name x pos'] e pos) (tAsg te (gName i))) (he : PE X e (TEof X.g Wx me)) : PS X (.Assign [.Name x pos'] e pos) (TSof X.g Wx (sSet i me)) := by
  refine psImp (h _ he) fun D σ H ⟨w, E, S, a, p⟩ => ⟨w, E, S, a, PR.imp (PO_.bind a.good a.env p) fun x H1 ⟨w1, d, S1, a1, x1, r1, p1⟩ => ?_⟩
  have := p1 _ w1 (Ext.refl w1) a1.good (a1.env.set r1) a1.sto
  rw [a1.hp] at this
  exact this
theorem ds_asg {tg : Expr} {t : Tg} (he : PE X e (TEof X.g Wx me)) (hg : PG X tg (TGof X.g t)) (hs : swapsWithSole [tg] e pos.line X.env = pure false := by rfl) (hw : swappedStores [tg] e X.env = pure none := by rfl)
    (h1 : (assignEach [tg] X.env).map (·.2) = [assign tg X.env] := by rfl) : PS X (.Assign [tg] e pos) (TSof X.g Wx (sAsg t me)) := by
  refine psImp (ps_asg he hg hs hw h1) fun D σ H ⟨w, E, S, a, p⟩ => ⟨w, E, S, a, PR.imp (PO_.bind a.good a.env p) fun x H1 ⟨w1, d, S1, a1, x1, r1, p1⟩ => ?_⟩
  split at p1
  · rename_i E1 e1
    refine ⟨w1, E, S1, d, E1, a1, r1, e1, fun σ' re _ _ => ?_⟩
    have := p1 σ' w1 (Ext.refl w1) a1.good re a1.sto
    rw [a1.hp] at this
    exact this
  · exact p1.elim
theorem PO_.abind {g : G} {Wx : WX} {σ : L2.St} {w : W} {E : Env} {D : Ends} {r : R (List J.D)} {k : List J.D → List J.D → O} (G : Good w) (he : RE g w E σ)
    (h : PO_ g Wx D w (match r with | .ok ds S1 => k ds S1 | .exc c fs S1 => .exc c fs E S1 | .bad => .bad)) : PR g Wx σ w (RDs g) (fun x H1 => ∃ w1 a S1, At g w1 E σ H1 S1 ∧ Ext w w1 ∧ RDs g w1 a x ∧ PO_ g Wx D w1 (k a S1)) r := by
  cases r with
  | ok d S => exact fun v w' x G' rl rs => ⟨w', d, S, ⟨rfl, G', he.mono G x, rs⟩, x, rl, PO_.at h x⟩
  | exc c fs S => exact fun cls dx w' x G' rx rs => h cls dx σ w' x G' rx (he.mono G x) rs
  | bad => exact h
theorem ds_par {i j : Nat} {ma : MA} {rest' : List Expr} (hd : ∀ t, PA X rest' t → PS X st (tPar i j t)) (ha : PA X rest' (TAof X.g Wx ma)) : PS X st (TSof X.g Wx (sPar [i, j] ma)) := by
  refine psImp (hd _ ha) fun D σ H ⟨w, E, S, a, p⟩ => ⟨w, E, S, a, PR.imp (PO_.abind (k := fun ds S1 => match Tg.binds ([i, j].map .nm) ds E with | some E1 => .nx E1 S1 | none => .bad) a.good a.env p) fun x H1 ⟨w1, ds, S1, a1, x1, r1, p1⟩ => ?_⟩
  match ds, r1, p1 with
  | [d1, d2], r1, p1 =>
    obtain ⟨v, u, rfl, r2, r3⟩ := r1.two'
    have := p1 _ w1 (Ext.refl w1) a1.good ((a1.env.set r2).set r3) a1.sto
    rw [a1.hp] at this
    exact ⟨v, u, rfl, this⟩
  | [], _, p1 => exact p1.elim
  | [_], _, p1 => exact p1.elim
  | _ :: _ :: _ :: _, _, p1 => exact p1.elim
/-! o[i] = e; x op= e; o[i] op= e -/
theorem ds_put {o i : Expr} {mo mi : ME} {pos' : Pos} (ho : PE X o (TEof X.g Wx mo)) (hi : PE X i (TEof X.g Wx mi)) (he : PE X e (TEof X.g Wx me)) (hu : X.A.units + 1 < cLine)
    (ha : ∀ v, assign (.Subscript o i pos') X.env v = (do
      let ov ← holding [v] (eval o X.env)
      let iv ← holding [v, ov] (eval i X.env)
      standAt pos'
      holding [v, ov, iv] (setItem ov iv v)
      release [v, ov, iv] []) := by intro _; rfl)
    (hs : swapsWithSole [.Subscript o i pos'] e pos.line X.env = pure false := by rfl) (hw : swappedStores [.Subscript o i pos'] e X.env = pure none := by rfl)
    (h1 : (assignEach [.Subscript o i pos'] X.env).map (·.2) = [assign (.Subscript o i pos') X.env] := by rfl) : PS X (.Assign [.Subscript o i pos'] e pos) (TSof X.g Wx (sPut mo mi me)) := by
  refine psImp (ps_asg he (pg_sub ho hi (jp_put hu) ha) hs hw h1) fun D σ H ⟨w, E, S, a, p⟩ => ⟨w, E, S, a, PR.imp (PO_.bind a.good a.env p) fun v H1 ⟨w1, d, S1, a1, x1, r1, p1⟩ => ?_⟩
  refine ⟨w1, E, S1, a1, PR.imp (PO_.bind a1.good a1.env p1) fun x H2 ⟨w2, d2, S2, a2, x2, r2, p2⟩ => ?_⟩
  refine ⟨w2, E, S2, a2, PR.imp (PO_.bind a2.good a2.env p2) fun k H3 ⟨w3, d3, S3, a3, x3, r3, p3⟩ => ?_⟩
  split at p3
  · rename_i S4 e4
    exact ⟨w3, S3, d2, d3, d, S4, a3.hp, a3.good, a3.sto, RD.mono a2.good x3 _ _ r2, r3, RD.mono a1.good (x2.trans x3) _ _ r1, e4, fun w' x' G' rs' => p3 σ w' x' G' (a3.env.mono a3.good x') rs'⟩
  · exact p3.elim
def ipOf (g : G) (f : D → D → List D → R D) : TIp := opOf g f
theorem ds_aug {i : Nat} {x : Str} {op : Operator} {f : D → D → List D → R D} {pos' : Pos} (hN : X.N.Nodup) (hi : X.N[i]? = some x) (hx : Loc X.env.scope x) (he : PE X e (TEof X.g Wx me)) (ho : PIp X op (opOf X.g f)) (hf : X.fn x = true ∨ X.env.scope.names.lookup x = some .local) :
    PS X (.AugAssign (.Name x pos') op e pos) (TSof X.g Wx (sAug i f me)) := by
  refine psImp (ps_aug hN hi hx he ho hf) fun D σ H ⟨w, E, S, a, p⟩ => ?_
  unfold sAug at p
  split at p
  · rename_i d e1
    obtain ⟨v, h1, h2⟩ := a.env.2 i d e1
    refine ⟨v, h1, w, E, S, a, PR.imp (PO_.bind a.good a.env p) fun y H1 ⟨w1, d1, S1, a1, x1, r1, p1⟩ => ?_⟩
    refine ⟨Wx, σ, w1, S1, d, d1, a1.hp, a1.good, a1.sto, RD.mono a.good x1 _ _ h2, r1, PR.imp (PO_.bind a1.good a1.env p1) fun z H2 ⟨w2, d2, S2, a2, x2, r2, p2⟩ => ?_⟩
    have := p2 _ w2 (Ext.refl w2) a2.good (a2.env.set r2) a2.sto
    rw [a2.hp] at this
    exact this
  · exact p.elim
theorem ds_putAug {o i : Expr} {mo mi : ME} {op : Operator} {f : D → D → List D → R D} {tpos : Pos} (ho : PE X o (TEof X.g Wx mo)) (hi : PE X i (TEof X.g Wx mi)) (he : PE X e (TEof X.g Wx me)) (hp : PIp X op (opOf X.g f)) (hu : X.A.units + 1 < cLine)
    (ha : ∀ ov iv new, augStore i ov iv new = (do holding [new, ov, iv] (setItem ov iv new); release [new, ov, iv] []; pure .next) := by intros; rfl) : PS X (.AugAssign (.Subscript o i tpos) op e pos) (TSof X.g Wx (sPutAug f mo mi me)) := by
  refine psImp (ps_augS ho hi (jg_ix hu) he hp (jp_put hu) ha) fun D σ H ⟨w, E, S, a, p⟩ => ?_
  refine ⟨w, E, S, a, PR.imp (PO_.bind a.good a.env p) fun x H1 ⟨w1, d1, S1, a1, x1, r1, p1⟩ => ?_⟩
  refine ⟨w1, E, S1, a1, PR.imp (PO_.bind a1.good a1.env p1) fun k H2 ⟨w2, d2, S2, a2, x2, r2, p2⟩ => ?_⟩
  refine ⟨Wx, σ, w2, S2, d1, d2, a2.hp, a2.good, a2.sto, RD.mono a1.good x2 _ _ r1, r2, PR.imp (PO_.bind a2.good a2.env p2) fun y H3 ⟨w3, d3, S3, a3, x3, r3, p3⟩ => ?_⟩
  refine ⟨w3, E, S3, a3, PR.imp (PO_.bind a3.good a3.env p3) fun z H4 ⟨w4, d4, S4, a4, x4, r4, p4⟩ => ?_⟩
  refine ⟨Wx, σ, w4, S4, d3, d4, a4.hp, a4.good, a4.sto, RD.mono a3.good x4 _ _ r3, r4, PR.imp (PO_.bind a4.good a4.env p4) fun v H5 ⟨w5, d5, S5, a5, x5, r5, p5⟩ => ?_⟩
  split at p5
  · rename_i S6 e6
    exact ⟨w5, S5, d1, d2, d5, S6, a5.hp, a5.good, a5.sto, RD.mono a1.good (x2.trans (x3.trans (x4.trans x5))) _ _ r1, RD.mono a2.good (x3.trans (x4.trans x5)) _ _ r2, r5, e6, fun w' x' G' rs' => p5 σ w' x' G' (a5.env.mono a5.good x') rs'⟩
  · exact p5.elim
/-! in-place operators -/
theorem ipI0 {op : Operator} {f : D → D → List D → R D} {k : Int → Int → Int} (ho : PIp X op (ipI k)) (hm : ∀ d e S, (∃ i j, d = .int i ∧ e = .int j ∧ f d e S = .ok (.int (k i j)) S) ∨ f d e S = .bad) : PIp X op (opOf X.g f) := by
  intro pins s σ H x y v u Q I rx ry ⟨Wx, σ', w, S, d, e, hH, G, rs, r1, r2, p⟩
  rcases hm d e S with ⟨i, j, rfl, rfl, ez⟩ | eb
  · cases r1
    cases r2
    rw [ez] at p
    have := putSame p G rs rfl
    rw [hH] at this
    exact ho pins s σ H _ _ v u Q I rx ry ⟨i, j, rfl, rfl, this⟩
  · rw [eb] at p
    exact p.elim
theorem ji_add : PIp X .Add (opOf X.g iAdd) := ipI0 ip_add fun d e S => by
  unfold iAdd; split
  · exact .inl ⟨_, _, rfl, rfl, rfl⟩
  · exact .inr rfl
theorem ji_sub : PIp X .Sub (opOf X.g oSub) := ipI0 ip_sub fun d e S => by
  unfold oSub; split
  · exact .inl ⟨_, _, rfl, rfl, rfl⟩
  · exact .inr rfl
end
end J
set_option Elab.async false
set_option linter.all false
set_option maxRecDepth 100000
set_option maxHeartbeats 2000000
namespace J
open PySem PySem.Spec PyProof.Rows L2
/-! ### enumerate and zip over lists and tuples alike -/
/-- a list (false) or a tuple (true) -/
def SeqB (K : PySem.W.Frag) (H : Hp) (b : Bool) (a : Addr) (xs : List V) : Prop := if b = true then SqT K H a xs else SqL K H a xs
def HoldB (b : Bool) (h : Heap) (a : Addr) (items : Array Value) : Prop := if b = true then h.IsTuple a items else h.IsList a items
def IterB (b : Bool) (h : Heap) (it a : Addr) (i : Nat) : Prop := if b = true then h.IsTupleIter it a i else h.IsListIter it a i
section
variable {X : Cx} {pins : List (Addr × Obj)} {σ : L2.St} {H : Hp} {s : Shared}
theorem Inv.seqB (I : Inv X pins σ H s) {b : Bool} {a : Addr} {xs : List V} (h : SeqB X.K H b a xs) : ∃ its : List Value, Vals xs its ∧ HoldB b s.heap a its.toArray ∧ xs.length ≤ sizeLine := by
  cases b with
  | true =>
    obtain ⟨its, r, t, l⟩ := Inv.tuple I (show SqT X.K H a xs from h)
    exact ⟨its, r, t, l⟩
  | false =>
    obtain ⟨its, r, t, l⟩ := Inv.list I (show SqL X.K H a xs from h)
    exact ⟨its, r, t.isList, l⟩
theorem Inv.seqB_inj (I : Inv X pins σ H s) {b : Bool} {a : Addr} {xs ys : List V} (h : SeqB X.K H b a xs) (h' : SeqB X.K H b a ys) : xs = ys := by
  cases b with
  | true => exact I.tuple_inj (show SqT X.K H a xs from h) h'
  | false => exact I.list_inj (show SqL X.K H a xs from h) h'
end
theorem IterB.at {b : Bool} {h h' : Heap} {it a : Addr} {i : Nat} (x : IterB b h it a i) (e : ∀ o, h.get? it = some o → h'.get? it = some o) : IterB b h' it a i := by
  cases b with
  | true => exact Heap.IsTupleIter.at (show h.IsTupleIter it a i from x) e
  | false => exact Heap.IsListIter.at (show h.IsListIter it a i from x) e
theorem IterB.obj {b : Bool} {h : Heap} {it a : Addr} {i : Nat} (x : IterB b h it a i) : ∃ o, h.get? it = some o ∧ (o.cls = .type "tuple_iterator" ∨ o.cls = .type "list_iterator") ∧ ∀ v, o.data ≠ .cell v := by
  cases b with
  | true =>
    obtain ⟨o, ho, hc, hd⟩ := (show h.IsTupleIter it a i from x)
    exact ⟨o, ho, .inl hc, fun v q => by rw [hd] at q; cases q⟩
  | false =>
    obtain ⟨o, ho, hc, hd⟩ := (show h.IsListIter it a i from x)
    exact ⟨o, ho, .inr hc, fun v q => by rw [hd] at q; cases q⟩
theorem HoldB.obj {b : Bool} {h : Heap} {a : Addr} {items : Array Value} (x : HoldB b h a items) : ∃ o, h.get? a = some o ∧ (o.cls = .type "tuple" ∨ o.cls = .type "list") := by
  cases b with
  | true =>
    obtain ⟨o, ho, hc, _⟩ := (show h.IsTuple a items from x)
    exact ⟨o, ho, .inl hc⟩
  | false =>
    obtain ⟨o, ho, hc, _⟩ := (show h.IsList a items from x)
    exact ⟨o, ho, .inr hc⟩
theorem IterB.ne {b c : Bool} {h : Heap} {it a a' : Addr} {i : Nat} {items : Array Value} (x : IterB b h it a i) (y : HoldB c h a' items) : a' ≠ it := fun e => by
  subst e
  obtain ⟨o, ho, hc, _⟩ := x.obj
  obtain ⟨o', ho', hc'⟩ := y.obj
  rw [ho] at ho'
  cases ho'
  rcases hc with hc | hc <;> rcases hc' with hc' | hc' <;> (rw [hc] at hc'; injection hc' with z; exact absurd z (by decide))
theorem drawsB {prog : Program} {w : World} {A : Around} (hh : A.handled = none) (b : Bool) (it l : Addr) (hne : l ≠ it) (items : Array Value) :
    Draws prog w A it [it, l] items.size (fun i v => items[i]? = some v) (fun i h => IterB b h it l i ∧ HoldB b h l items) := by
  cases b with
  | true => exact Draws.tuple hh it l hne items
  | false => exact Draws.list hh it l hne items
def ItEn (K : PySem.W.Frag) (b : Bool) (a : Addr) : It :=
  ⟨fun i H => ∃ (xs : List V) (x : V), SeqB K H b a xs ∧ xs[i]? = some x, fun i H v H' => ∃ T x, v = .ref T ∧ H T = none ∧ H' = upd H T (.tup [.int (i : Nat), x]) ∧ ∀ xs, SeqB K H b a xs → xs[i]? = some x, fun i H => ∃ xs : List V, SeqB K H b a xs ∧ xs.length = i⟩
theorem turn_en {P : Program} {w : World} {K : PySem.W.Frag} {elts : List Expr} {kk : Nat} {tpos : Pos} (b : Bool) (a e it : Addr) :
    Turn P w K (.Tuple elts kk tpos) (ItEn K b a) [e, it] e (fun i h => (∃ old, IsEnum h e it ((i : Nat) : Int) old) ∧ IterB b h it a i ∧ e ≠ it) where
  mem := by simp
  obj := fun i h st c hb => by
    obtain ⟨⟨old, he⟩, hi, _⟩ := st
    obtain ⟨o, ho, _, hd⟩ := hi.obj
    have e' : c = e ∨ c = it := by simpa using hb
    rcases e' with z | z
    · rw [z]; exact ⟨_, he, fun v q => nomatch q⟩
    · rw [z]; exact ⟨o, ho, hd⟩
  keep := fun i h h' st k => let ⟨⟨old, he⟩, hi, hne⟩ := st; ⟨⟨old, k e (by simp) _ he⟩, hi.at fun o q => k it (by simp) o q, hne⟩
  item := by
    intro X hP hw hK hc i pins s σ H E I hf st hg
    subst hP hw hK
    obtain ⟨⟨old, he⟩, hit, hne⟩ := st
    obtain ⟨xs, x, hq, hx⟩ := hg
    obtain ⟨its, rv, p, hz⟩ := Inv.seqB I hq
    obtain ⟨u, hu, ru⟩ := rv.get hx
    have hel : e < s.heap.objs.size := Heap.lt_size he
    have hil : it < s.heap.objs.size := by obtain ⟨_, q, _⟩ := hit.obj; exact Heap.lt_size q
    have hai := hit.ne p
    have hae : e ≠ a := fun z => by
      subst z
      obtain ⟨o', ho', hc'⟩ := p.obj
      rw [he] at ho'
      cases ho'
      rcases hc' with hc' | hc' <;> (injection hc' with z; exact absurd z (by decide))
    have hlt : i < its.toArray.size := by
      have := (List.getElem?_eq_some_iff.mp hu).1
      simpa using this
    refine wpAny_pyNext_enum_itemD (drawsB (by exact I.ok.hd hc) b it a hai its.toArray) he ⟨hit, p⟩ hlt hne (by simp [hne, hae]) fun u' h' tk hu' ho hst' hT hsz hk => ?_
    obtain ⟨hit', _⟩ := hst'
    have eu : u' = u := by
      have : its[i]? = some u' := by simpa using hu'
      rw [hu] at this
      exact (Option.some.inj this).symm
    subst eu
    refine ⟨_, rfl, wpAny_letOwnedTupleGo_enum (s := { s with heap := h', toks := tk + 1 }) ho fun h'' he' sb => ?_⟩
    have hT2 : h''.get? s.heap.objs.size = some { cls := .type "tuple", data := .seq #[.int i tk, u'] } := (sb.2 _ (Nat.ne_of_gt hel)).trans hT
    have new : ObjOk X.prog X.w (upd H s.heap.objs.size (.tup [.int (i : Nat), x])) h'' s.heap.objs.size (.tup [.int (i : Nat), x]) :=
      ⟨by show 2 ≤ sizeLine; decide, [.int i tk, u'], .cons ⟨_, rfl⟩ (.cons ru .nil), ⟨_, hT2, rfl, _, rfl⟩⟩
    have I1 : Inv X pins σ (upd H s.heap.objs.size (.tup [.int (i : Nat), x])) { s with heap := h'', toks := tk + 1 } :=
      I.turnedNew (ch := [e, it]) (fun b ob hb q => (sb.2 b (fun z => hb (by simp [z]))).trans (hk b ob (fun z => hb (by simp [z])) (fun z => hb (by simp [z])) q)) hf (Nat.le_refl _) new
    refine ⟨.ref s.heap.objs.size, _, I1, rfl, ⟨_, x, rfl, I.hok.fresh (Nat.le_refl _), rfl, fun ys hy => by rw [Inv.seqB_inj I hy hq]; exact hx⟩, ⟨⟨u', ?_⟩, hit'.at fun o q => (sb.2 it (Ne.symm hne)).trans q, hne⟩, fun b hb => ?_⟩
    · have e1 : ((i + 1 : Nat) : Int) = (i : Int) + 1 := by omega
      rw [e1]; exact he'
    · have hb' : b < s.heap.objs.size := by
        have e' : b = e ∨ b = it := by simpa using hb
        rcases e' with z | z
        · rw [z]; exact hel
        · rw [z]; exact hil
      rw [upd_ne (Nat.ne_of_lt hb')]
      exact (hf b hb).1
  done := by
    intro X hP hw hK hc i pins s σ H E I hf st hg
    subst hP hw hK
    obtain ⟨⟨old, he⟩, hit, hne⟩ := st
    obtain ⟨xs, hq, hx⟩ := hg
    obtain ⟨its, rv, p, hz⟩ := Inv.seqB I hq
    obtain ⟨f0, f1, f2, f3, f4, f5⟩ := hf it (by simp)
    have hl := rv.length
    have hai := hit.ne p
    have hi : i = its.toArray.size := by rw [List.size_toArray]; omega
    subst hi
    exact wpAny_pyNext_enum_endD (drawsB (by exact I.ok.hd hc) b it a hai its.toArray) he ⟨hit, p⟩ fun h' eb => ⟨rfl, I.turned (t' := s.toks) (fun b o hb q => eb b o hb q) f0 f1 f3 f4 f5⟩
  self := fun A i s Q E st h => let ⟨⟨_, he⟩, _⟩ := st; wpAny_pyIter_enum he h
set_option maxHeartbeats 4000000 in
theorem meets_enumerate_new0 {v : Value} {o : Obj} {H : Heap → Prop} (B : Begins v o H) :
    Meets (Builtin.«enumerate.__new__» ⟨[.type "enumerate", v], []⟩) (fun _ R s => H s.heap ∧
      R (.ok (.ret (.ref (s.heap.push o).objs.size))) { s with heap := (s.heap.push o).push { cls := .type "enumerate", data := .fields #[.none, .bool false, .ref s.heap.objs.size, rawInt 0, .none, .none] } }) :=
  .of_wp fun prog w A R s h => by
    obtain ⟨hp, g, d, tk, os⟩ := s; obtain ⟨h1, h⟩ := h
    have hsub := sub_enumerate
    have q1 : ∀ {A' : Around} {E : Value → Shared → Prop} {Q : Value → Shared → Prop}, Q (.ref hp.objs.size) ⟨hp.push o, g, d, tk, os⟩ → wpAny (model prog w) A' (pyIter v) Q E ⟨hp, g, d, tk, os⟩ :=
      fun q => B.iter prog w _ _ ⟨hp, g, d, tk, os⟩ _ h1 q
    wp_walk using q1
    refine wpAny_stack_any fun st => wpAny_pure ?_
    split
    · rename_i c _ _ _ _ _
      cases (c == Value.type "enumerate")
      · wp_walk using q1
        exact ⟨_, rfl, h⟩
      · wp_walk using q1
        exact ⟨_, rfl, h⟩
    · wp_walk using q1
      exact ⟨_, rfl, h⟩
section
variable {prog : Program} {w : World} {A : Around} {E : Value → Shared → Prop} {s : Shared}
theorem enum_begins0 {v : Value} {o : Obj} {H : Heap → Prop} {Q : Value → Shared → Prop} (B : Begins v o H) (h1 : H s.heap)
    (h : ∀ h', IsEnum h' (s.heap.objs.size + 1) s.heap.objs.size 0 .none → h'.get? s.heap.objs.size = some o → h'.objs.size = s.heap.objs.size + 2 →
      (∀ b o, s.heap.get? b = some o → h'.get? b = some o) → Q (.ref (s.heap.objs.size + 1)) { s with heap := h' }) :
    wpAny (model prog w) A (call (.type "enumerate") [v]) Q E s := by
  refine callType_new F.called_enumerate (by decide) (F.typeCall_enumerate_1 _) (F.newCall_enumerate_1 _) (fun obj => F.args_object_init_2 obj _) F.entry_enumerate_new
    (meets_enumerate_new0 B) ⟨h1, ?_⟩
  have hz : (s.heap.push o).objs.size = s.heap.objs.size + 1 := Heap.size_push ..
  show _ ∧ _
  rw [hz]
  have he : IsEnum ((s.heap.push o).push { cls := .type "enumerate", data := .fields #[.none, .bool false, .ref s.heap.objs.size, rawInt 0, .none, .none] }) (s.heap.objs.size + 1) s.heap.objs.size 0 .none := by
    have := Heap.get?_push_size (s.heap.push o) (o := { cls := .type "enumerate", data := .fields #[.none, .bool false, .ref s.heap.objs.size, rawInt 0, .none, .none] }) rfl
    rw [hz] at this; exact this
  refine ⟨⟨_, he, rfl⟩, h _ he (Heap.get?_push_of_some _ (Heap.get?_push_size _ B.free)) (by rw [Heap.size_push, hz]) fun b o x => Heap.get?_push_of_some _ (Heap.get?_push_of_some _ x)⟩
end
def itObj (b : Bool) (a : Addr) : Obj := if b = true then { cls := .type "tuple_iterator", data := .fields #[.ref a, .int 0 0] } else { cls := .type "list_iterator", data := .fields #[.ref a, .int 0 0] }
theorem beginsB (b : Bool) (a : Addr) (items : Array Value) : Begins (.ref a) (itObj b a) fun h => HoldB b h a items := by
  cases b with
  | true => exact begins_tuple a items
  | false => exact begins_list a items
theorem IterB.new {b : Bool} {h : Heap} {it a : Addr} (e : h.get? it = some (itObj b a)) : IterB b h it a 0 := by
  cases b with
  | true => exact ⟨_, e, rfl, rfl⟩
  | false => exact ⟨_, e, rfl, rfl⟩
def iEn (K : PySem.W.Frag) (ta : TA) : TI := fun σ H R => ta σ H fun vs H1 => ∃ b a xs, vs = [.ref a] ∧ SeqB K H1 b a xs ∧ R (ItEn K b a) H1
theorem pi_en {X : Cx} {e : Expr} {ta : TA} {p pos tpos : Pos} {elts : List Expr} {kk : Nat} (hg : Gl X "enumerate") (hm : X.mg "enumerate" = none) (ha : PA X [e] ta) (hs : starEach [e] X.env = [(false, eval e X.env)] := by rfl) :
    PI X (.Tuple elts kk tpos) (.Call (.Name "enumerate" p) [e] [] pos) (iEn X.K ta) := by
  refine ⟨fun pins s σ H R I h => ?_⟩
  refine Call_ (ld_blt I hg hm boot_enumerate (PyProof.Rows.callWith_type1 (thn (ha.run pos pins s σ H _ I h) fun us s1 ⟨vs, H1, I1, r1, q1⟩ => ?_) hs rfl))
  obtain ⟨b, a, xs, ex, hq, q⟩ := q1
  subst ex
  cases r1 with
  | cons r rr =>
    cases rr
    cases r
    obtain ⟨its, rv, p', hz⟩ := Inv.seqB I1 hq
    refine enum_begins0 (beginsB b a its.toArray) p' fun h' he hit hsz hk => wpAny_pyIter_enum he ?_
    have I2 : Inv X pins σ H1 { s1 with heap := h' } := I1.kept (t' := s1.toks) hk
    refine ⟨s1.heap.objs.size + 1, [s1.heap.objs.size + 1, s1.heap.objs.size], _, _, H1, rfl, I2, turn_en b a (s1.heap.objs.size + 1) s1.heap.objs.size, ⟨⟨.none, he⟩, IterB.new hit, Nat.succ_ne_self _⟩, fun c hb => ?_, q⟩
    have e' : c = s1.heap.objs.size + 1 ∨ c = s1.heap.objs.size := by simpa using hb
    have hle : s1.heap.objs.size ≤ c := by
      rcases e' with z | z
      · rw [z]; exact Nat.le_add_right _ _
      · rw [z]; exact Nat.le_refl _
    exact I1.fpOk hle (I1.hok.fresh hle)
/-! zip -/
def ItZp (K : PySem.W.Frag) (c d : Bool) (a b : Addr) : It :=
  ⟨fun i H => ∃ (xs ys : List V) (x y : V), SeqB K H c a xs ∧ SeqB K H d b ys ∧ xs[i]? = some x ∧ ys[i]? = some y,
    fun i H v H' => ∃ T x y, v = .ref T ∧ H T = none ∧ H' = upd H T (.tup [x, y]) ∧ (∀ xs, SeqB K H c a xs → xs[i]? = some x) ∧ ∀ ys, SeqB K H d b ys → ys[i]? = some y,
    fun i H => ∃ xs ys : List V, SeqB K H c a xs ∧ SeqB K H d b ys ∧ i ≤ xs.length ∧ i ≤ ys.length ∧ (i = xs.length ∨ i = ys.length)⟩
structure ZpApart (z TI TO i1 i2 : Addr) : Prop where
  TIz : TI ≠ z
  TOz : TO ≠ z
  TITO : TI ≠ TO
  TIi1 : TI ≠ i1
  TIi2 : TI ≠ i2
  zi1 : z ≠ i1
  zi2 : z ≠ i2
  TOi1 : TO ≠ i1
  TOi2 : TO ≠ i2
  i12 : i1 ≠ i2
theorem ne_cls {h : Heap} {a c : Addr} {o o' : Obj} {n m : String} (h1 : h.get? a = some o) (h2 : h.get? c = some o') (e1 : o.cls = .type n) (e2 : o'.cls = .type m) (d : n ≠ m) : a ≠ c := fun e => by
  subst e
  rw [h1] at h2
  cases h2
  rw [e1] at e2
  injection e2 with z
  exact d z
theorem HoldB.ne {c : Bool} {h : Heap} {a z : Addr} {items : Array Value} {o : Obj} {n : String} (y : HoldB c h a items) (ho : h.get? z = some o) (hc : o.cls = .type n) (d1 : n ≠ "tuple") (d2 : n ≠ "list") : z ≠ a := by
  obtain ⟨o', ho', hc'⟩ := y.obj
  rcases hc' with hc' | hc'
  · exact ne_cls ho ho' hc hc' d1
  · exact ne_cls ho ho' hc hc' d2
theorem turn_zp {P : Program} {w : World} {K : PySem.W.Frag} {elts : List Expr} {kk : Nat} {tpos : Pos} {c d : Bool} {a b z TI TO i1 i2 : Addr} (D : ZpApart z TI TO i1 i2) :
    Turn P w K (.Tuple elts kk tpos) (ItZp K c d a b) [z, TI, TO, i1, i2] z (fun i h => IsZip h z TI TO .none ∧ IsTupOf2 h TI (.ref i1) (.ref i2) ∧ (∃ x y, IsTupOf2 h TO x y) ∧ IterB c h i1 a i ∧ IterB d h i2 b i) where
  mem := by simp
  obj := fun i h st e hc => by
    obtain ⟨hz, hTI, ⟨x, y, hTO⟩, h1, h2⟩ := st
    obtain ⟨o1, e1, _, d1⟩ := h1.obj
    obtain ⟨o2, e2, _, d2⟩ := h2.obj
    have e' : e = z ∨ e = TI ∨ e = TO ∨ e = i1 ∨ e = i2 := by simpa using hc
    rcases e' with q | q | q | q | q
    · rw [q]; exact ⟨_, hz, fun v q => nomatch q⟩
    · rw [q]; exact ⟨_, hTI, fun v q => nomatch q⟩
    · rw [q]; exact ⟨_, hTO, fun v q => nomatch q⟩
    · rw [q]; exact ⟨o1, e1, d1⟩
    · rw [q]; exact ⟨o2, e2, d2⟩
  keep := fun i h h' st k => by
    obtain ⟨hz, hTI, ⟨x, y, hTO⟩, h1, h2⟩ := st
    exact ⟨k z (by simp) _ hz, k TI (by simp) _ hTI, ⟨x, y, k TO (by simp) _ hTO⟩, h1.at fun o q => k i1 (by simp) o q, h2.at fun o q => k i2 (by simp) o q⟩
  item := by
    intro X hP hw hK hc i pins s σ H E I hf st hg
    subst hP hw hK
    obtain ⟨hz, hTI, ⟨x0, y0, hTO⟩, h1, h2⟩ := st
    obtain ⟨xs, ys, x, y, hqx, hqy, hx, hy⟩ := hg
    obtain ⟨its, rv, p, _⟩ := Inv.seqB I hqx
    obtain ⟨its2, rv2, p2, _⟩ := Inv.seqB I hqy
    obtain ⟨u, hu, ru⟩ := rv.get hx
    obtain ⟨u2, hu2, ru2⟩ := rv2.get hy
    have hzl : z < s.heap.objs.size := Heap.lt_size hz
    have hlt1 : i < its.toArray.size := by simpa using (List.getElem?_eq_some_iff.mp hu).1
    have hlt2 : i < its2.toArray.size := by simpa using (List.getElem?_eq_some_iff.mp hu2).1
    have hh := I.ok.hd hc
    have tne : ∀ {q : Addr} {cc : Bool} {aa : Addr} {it : Array Value}, q ∈ [z, TI, TO, i1, i2] → HoldB cc s.heap aa it → (∃ xs, SeqB X.K H cc aa xs) → q ≠ aa := fun {q cc aa it} hq hold sq e => by
      have hn := (hf q hq).1
      subst e
      obtain ⟨xs, sq⟩ := sq
      have sqt : (∃ o, H q = some o) ∨ ∃ o, X.K.lookup q = some o := by
        cases cc with
        | true =>
          rcases (show SqT X.K H q xs from sq) with (h | ⟨o, h⟩) | ⟨o, _, _, h, _⟩
          · exact .inl ⟨_, h⟩
          · exact .inl ⟨_, h⟩
          · exact .inr ⟨o, h⟩
        | false =>
          rcases (show SqL X.K H q xs from sq) with (h | ⟨o, h⟩) | ⟨o, _, _, h, _⟩
          · exact .inl ⟨_, h⟩
          · exact .inl ⟨_, h⟩
          · exact .inr ⟨o, h⟩
      rcases sqt with ⟨o, h⟩ | ⟨o, h⟩
      · rw [hn] at h; cases h
      · have hb := I.ok.mod.kin q o h
        rcases (hf q hq).2.2.2.1 with hx' | hx'
        · exact I.ok.noex q o hb hx'
        · have := Heap.lt_size (I.ok.bs q o hb).1
          exact absurd (Nat.lt_of_lt_of_le this hx') (Nat.lt_irrefl _)
    have S : ZipSep2 z TI TO i1 i2 [i1, a] [i2, b] :=
      { TIz := D.TIz, TOz := D.TOz, TITO := D.TITO, TIi1 := D.TIi1, TIi2 := D.TIi2, mem1 := by simp, mem2 := by simp,
        zf1 := by simp [D.zi1, tne (q := z) (by simp) p ⟨xs, hqx⟩], Tf1 := by simp [D.TOi1, tne (q := TO) (by simp) p ⟨xs, hqx⟩],
        zf2 := by simp [D.zi2, tne (q := z) (by simp) p2 ⟨ys, hqy⟩], Tf2 := by simp [D.TOi2, tne (q := TO) (by simp) p2 ⟨ys, hqy⟩],
        sep1_2 := by simp [D.i12, tne (q := i1) (by simp) p2 ⟨ys, hqy⟩], sep2_1 := by simp [D.i12.symm, tne (q := i2) (by simp) p ⟨xs, hqx⟩] }
    refine wpAny_pyNext_zipD2_item S (drawsB (by exact hh) c i1 a (h1.ne p) its.toArray) (drawsB (by exact hh) d i2 b (h2.ne p2) its2.toArray) hz hTI hTO ⟨h1, p⟩ ⟨h2, p2⟩ hlt1 hlt2 fun u' u2' h' tk hu' hu2' z' TO' st1 st2 hT hsz hk => ?_
    have eu : u' = u := by
      have : its[i]? = some u' := by simpa using hu'
      rw [hu] at this
      exact (Option.some.inj this).symm
    have eu2 : u2' = u2 := by
      have : its2[i]? = some u2' := by simpa using hu2'
      rw [hu2] at this
      exact (Option.some.inj this).symm
    subst eu eu2
    refine ⟨_, rfl, wpAny_letOwnedTupleGo_zip (s := { s with heap := h', toks := tk }) z' fun h'' z'' sb => ?_⟩
    have hT2 : h''.get? s.heap.objs.size = some { cls := .type "tuple", data := .seq #[u', u2'] } := (sb.2 _ (Nat.ne_of_gt hzl)).trans hT
    have new : ObjOk X.prog X.w (upd H s.heap.objs.size (.tup [x, y])) h'' s.heap.objs.size (.tup [x, y]) :=
      ⟨by show 2 ≤ sizeLine; decide, [u', u2'], .cons ru (.cons ru2 .nil), ⟨_, hT2, rfl, _, rfl⟩⟩
    have I1 : Inv X pins σ (upd H s.heap.objs.size (.tup [x, y])) { s with heap := h'', toks := tk } :=
      I.turnedNew (t' := tk) (ch := [z, TI, TO, i1, i2]) (fun c o hb q => (sb.2 c (fun q' => hb (by simp [q']))).trans (hk c o (fun q' => hb (by simp [q'])) (fun q' => hb (by simp [q'])) (fun q' => hb (by simp [q'])) (fun q' => hb (by simp [q'])) q)) hf (Nat.le_refl _) new
    refine ⟨.ref s.heap.objs.size, _, I1, rfl, ⟨_, x, y, rfl, I.hok.fresh (Nat.le_refl _), rfl, fun l hl => by rw [Inv.seqB_inj I hl hqx]; exact hx, fun l hl => by rw [Inv.seqB_inj I hl hqy]; exact hy⟩, ⟨z'', ?_, ⟨u', u2', ?_⟩, ?_, ?_⟩, fun c hcm => ?_⟩
    · exact (sb.2 _ D.TIz).trans (hk _ _ D.TIz D.TITO D.TIi1 D.TIi2 hTI)
    · exact (sb.2 _ D.TOz).trans TO'
    · exact st1.1.at fun o q => (sb.2 _ D.zi1.symm).trans q
    · exact st2.1.at fun o q => (sb.2 _ D.zi2.symm).trans q
    · have hlt : c < s.heap.objs.size := by
        have e' : c = z ∨ c = TI ∨ c = TO ∨ c = i1 ∨ c = i2 := by simpa using hcm
        rcases e' with q | q | q | q | q
        · rw [q]; exact hzl
        · rw [q]; exact Heap.lt_size hTI
        · rw [q]; exact Heap.lt_size hTO
        · rw [q]; obtain ⟨_, e1, _⟩ := h1.obj; exact Heap.lt_size e1
        · rw [q]; obtain ⟨_, e2, _⟩ := h2.obj; exact Heap.lt_size e2
      rw [upd_ne (Nat.ne_of_lt hlt)]
      exact (hf c hcm).1
  done := by
    intro X hP hw hK hc i pins s σ H E I hf st hg
    subst hP hw hK
    obtain ⟨hz, hTI, ⟨x0, y0, hTO⟩, h1, h2⟩ := st
    obtain ⟨xs, ys, hqx, hqy, hl1, hl2, hend⟩ := hg
    obtain ⟨its, rv, p, _⟩ := Inv.seqB I hqx
    obtain ⟨its2, rv2, p2, _⟩ := Inv.seqB I hqy
    have l1 := rv.length
    have l2 := rv2.length
    have hh := I.ok.hd hc
    have tne : ∀ {q : Addr} {cc : Bool} {aa : Addr}, q ∈ [z, TI, TO, i1, i2] → (∃ xs, SeqB X.K H cc aa xs) → q ≠ aa := fun {q cc aa} hq sq e => by
      have hn := (hf q hq).1
      subst e
      obtain ⟨xs, sq⟩ := sq
      have sqt : (∃ o, H q = some o) ∨ ∃ o, X.K.lookup q = some o := by
        cases cc with
        | true =>
          rcases (show SqT X.K H q xs from sq) with (h | ⟨o, h⟩) | ⟨o, _, _, h, _⟩
          · exact .inl ⟨_, h⟩
          · exact .inl ⟨_, h⟩
          · exact .inr ⟨o, h⟩
        | false =>
          rcases (show SqL X.K H q xs from sq) with (h | ⟨o, h⟩) | ⟨o, _, _, h, _⟩
          · exact .inl ⟨_, h⟩
          · exact .inl ⟨_, h⟩
          · exact .inr ⟨o, h⟩
      rcases sqt with ⟨o, h⟩ | ⟨o, h⟩
      · rw [hn] at h; cases h
      · have hb := I.ok.mod.kin q o h
        rcases (hf q hq).2.2.2.1 with hx' | hx'
        · exact I.ok.noex q o hb hx'
        · have := Heap.lt_size (I.ok.bs q o hb).1
          exact absurd (Nat.lt_of_lt_of_le this hx') (Nat.lt_irrefl _)
    have S : ZipSep2 z TI TO i1 i2 [i1, a] [i2, b] :=
      { TIz := D.TIz, TOz := D.TOz, TITO := D.TITO, TIi1 := D.TIi1, TIi2 := D.TIi2, mem1 := by simp, mem2 := by simp,
        zf1 := by simp [D.zi1, tne (q := z) (by simp) ⟨xs, hqx⟩], Tf1 := by simp [D.TOi1, tne (q := TO) (by simp) ⟨xs, hqx⟩],
        zf2 := by simp [D.zi2, tne (q := z) (by simp) ⟨ys, hqy⟩], Tf2 := by simp [D.TOi2, tne (q := TO) (by simp) ⟨ys, hqy⟩],
        sep1_2 := by simp [D.i12, tne (q := i1) (by simp) ⟨ys, hqy⟩], sep2_1 := by simp [D.i12.symm, tne (q := i2) (by simp) ⟨xs, hqx⟩] }
    exact wpAny_pyNext_zipD2_end S (drawsB (by exact hh) c i1 a (h1.ne p) its.toArray) (drawsB (by exact hh) d i2 b (h2.ne p2) its2.toArray) hz hTI hTO ⟨h1, p⟩ ⟨h2, p2⟩ (by rw [List.size_toArray]; omega) (by rw [List.size_toArray]; omega) (by rw [List.size_toArray, List.size_toArray]; omega)
      fun h' tk hk => ⟨rfl, I.turnedL (t' := tk) (ch := [z, TI, TO, i1, i2]) (fun c o hb q => hk c o (fun q' => hb (by simp [q'])) (fun q' => hb (by simp [q'])) (fun q' => hb (by simp [q'])) (fun q' => hb (by simp [q'])) q) hf⟩
  self := fun A i s Q E st h => wpAny_pyIter_zip st.1 h
def iZp (K : PySem.W.Frag) (ta : TA) : TI := fun σ H R => ta σ H fun vs H1 => ∃ c d a b xs ys, vs = [.ref a, .ref b] ∧ SeqB K H1 c a xs ∧ SeqB K H1 d b ys ∧ R (ItZp K c d a b) H1
theorem pi_zp {X : Cx} {e e2 : Expr} {ta : TA} {p pos tpos : Pos} {elts : List Expr} {kk : Nat} (hg : Gl X "zip") (hm : X.mg "zip" = none) (ha : PA X [e, e2] ta)
    (hs : starEach [e, e2] X.env = (false, eval e X.env) :: starEach [e2] X.env := by rfl) (hpl : (backTo pos (starEach [e2] X.env)).any (·.1) = false := by rfl) :
    PI X (.Tuple elts kk tpos) (.Call (.Name "zip" p) [e, e2] [] pos) (iZp X.K ta) := by
  refine ⟨fun pins s σ H R I h => ?_⟩
  refine Call_ (ld_blt I hg hm PyProof.Rows.boot_zip (PyProof.Rows.callWith_type1 (thn (ha.run pos pins s σ H _ I h) fun us s1 ⟨vs, H1, I1, r1, q1⟩ => ?_) hs hpl))
  obtain ⟨c, d, a, b, xs, ys, ex, hqx, hqy, q⟩ := q1
  subst ex
  cases r1 with
  | cons r rr =>
    cases rr with
    | cons r' rr' =>
      cases rr'
      cases r
      cases r'
      obtain ⟨its, rv, p1, _⟩ := Inv.seqB I1 hqx
      obtain ⟨its2, rv2, p2, _⟩ := Inv.seqB I1 hqy
      refine zip_begins2 (beginsB c a its.toArray) (beginsB d b its2.toArray) p1 p2 fun h' hz hTI hTO h1 h2 hsz hk => wpAny_pyIter_zip hz ?_
      have I2 : Inv X pins σ H1 { s1 with heap := h' } := I1.kept (t' := s1.toks) hk
      refine ⟨s1.heap.objs.size + 4, [s1.heap.objs.size + 4, s1.heap.objs.size + 2, s1.heap.objs.size + 3, s1.heap.objs.size, s1.heap.objs.size + 1], _, _, H1, rfl, I2,
        turn_zp (c := c) (d := d) (a := a) (b := b) (z := s1.heap.objs.size + 4) (TI := s1.heap.objs.size + 2) (TO := s1.heap.objs.size + 3) (i1 := s1.heap.objs.size) (i2 := s1.heap.objs.size + 1) ?_, ⟨hz, hTI, ⟨_, _, hTO⟩, IterB.new h1, IterB.new h2⟩, fun e hb => ?_, q⟩
      · constructor <;> (intro z; have z' : (_ : Nat) = _ := z; omega)
      · have hle : s1.heap.objs.size ≤ e := by
          have e' : e = s1.heap.objs.size + 4 ∨ e = s1.heap.objs.size + 2 ∨ e = s1.heap.objs.size + 3 ∨ e = s1.heap.objs.size ∨ e = s1.heap.objs.size + 1 := by simpa using hb
          rcases e' with z | z | z | z | z <;> (rw [z]; first | exact Nat.le_add_right _ _ | exact Nat.le_refl _)
        exact I1.fpOk hle (I1.hok.fresh hle)
end J
set_option Elab.async false
set_option linter.all false
set_option maxRecDepth 100000
set_option maxHeartbeats 1000000
namespace J
open PySem PySem.Spec PyProof.Rows L2
/-! ### what a loop goes over -/
structure ItOk (g : G) (w0 : W) (J : It) (src : Src) : Prop where
  go : ∀ (i : Nat) w S d, Ext w0 w → RS g w S → src.alive S = true → src.at_ S i = some d → i < src.len → J.go i w.H
  stop : ∀ w S, Ext w0 w → RS g w S → src.alive S = true → J.stop src.len w.H
  yld : ∀ (i : Nat) w S d x H', Ext w0 w → Good w → RS g w S → src.alive S = true → src.at_ S i = some d → i < src.len → J.yld i w.H x H' → ∃ w', w'.H = H' ∧ Ext w w' ∧ Good w' ∧ w'.rhA = w.rhA ∧ w'.thA = w.thA ∧ RD g w' d x ∧ RS g w' S
def TIof (g : G) (Wx : WX) (m : MI) : TI := fun σ H Q => ∃ w E S, At g w E σ H S ∧ PR g Wx σ w (fun w' s J => ItOk g w' J s) Q (m E S)
theorem piOr {X : Cx} {tg e : Expr} {t t' : TI} (h : PI X tg e t) (h' : PI X tg e t') : PI X tg e (fun σ H R => t σ H R ∨ t' σ H R) := ⟨fun pins s σ H R I q => q.elim (h.run pins s σ H R I) (h'.run pins s σ H R I)⟩
theorem piImp {X : Cx} {tg e : Expr} {t t' : TI} (h : PI X tg e t) (f : ∀ σ H R, t' σ H R → t σ H R) : PI X tg e t' := ⟨fun pins s σ H R I q => h.run pins s σ H R I (f _ _ _ q)⟩
/-- where a value is that is gone over: a tuple, a list that stays, a list of the store -/
theorem srcOf_some {S : List D} {d : D} {s : Src} (h : srcOf S d = some s) : (∃ ds, (d = .tup ds ∨ d = .tuk ds) ∧ s = .its ds) ∨ (∃ ds, (d = .lst ds ∨ d = .rdl ds) ∧ s = .its ds) ∨ ∃ n ds, d = .loc n ∧ S[n]? = some (.lst ds) ∧ s = .live n ds.length := by
  unfold srcOf at h
  split at h
  · cases h; exact .inl ⟨_, .inl rfl, rfl⟩
  · cases h; exact .inl ⟨_, .inr rfl, rfl⟩
  · cases h; exact .inr (.inl ⟨_, .inl rfl, rfl⟩)
  · cases h; exact .inr (.inl ⟨_, .inr rfl, rfl⟩)
  · split at h
    · rename_i e
      cases h; exact .inr (.inr ⟨_, _, rfl, e, rfl⟩)
    · cases h
  · cases h
def D.isTup : D → Bool
  | .tup _ => true
  | .tuk _ => true
  | _ => false
/-- the value at an address stands in all later worlds as the source tells -/
structure Stands (g : G) (w0 : W) (b : Bool) (a : Addr) (src : Src) : Prop where
  st : ∀ w S, Ext w0 w → RS g w S → src.alive S = true → ∃ vs, SeqB g.K w.H b a vs ∧ vs.length = src.len ∧ (∀ (i : Nat) d, src.at_ S i = some d → ∃ v, vs[i]? = some v ∧ RD g w d v)
theorem stands_of {g : G} {w : W} {S : List D} {d : D} {v : V} {s : Src} (G : Good w) (rs : RS g w S) (r : RD g w d v) (h : srcOf S d = some s) : ∃ a b, v = .ref a ∧ b = d.isTup ∧ Stands g w b a s ∧ s.alive S = true := by
  rcases srcOf_some h with ⟨ds, rfl | rfl, rfl⟩ | ⟨ds, rfl | rfl, rfl⟩ | ⟨n, ds, rfl, e, rfl⟩
  · obtain ⟨a, vs, rfl, t, r2⟩ := r
    exact ⟨a, true, rfl, rfl, ⟨fun w' S' x _ _ => ⟨vs, (t.mono G x).sq, r2.length, fun i d e => (r2.mono G x).get e⟩⟩, rfl⟩
  · obtain ⟨a, vs, o, rfl, t, _, n, r2⟩ := r
    exact ⟨a, true, rfl, rfl, ⟨fun w' S' x _ _ => ⟨vs, .inl (.inr ⟨o, x.fz G t n⟩), r2.length, fun i d e => (r2.mono G x).get e⟩⟩, rfl⟩
  · obtain ⟨a, vs, rfl, t, n, r2⟩ := r
    exact ⟨a, false, rfl, rfl, ⟨fun w' S' x _ _ => ⟨vs, SqL.of (x.fz G t n), r2.length, fun i d e => (r2.mono G x).get e⟩⟩, rfl⟩
  · obtain ⟨a, vs, rfl, t, r2⟩ := r
    exact ⟨a, false, rfl, rfl, ⟨fun w' S' x _ _ => ⟨vs, (t.mono G x).sq, r2.length, fun i d e => (r2.mono G x).get e⟩⟩, rfl⟩
  · obtain ⟨a, rfl, hp⟩ := r
    refine ⟨a, false, rfl, rfl, ⟨fun w' S' x rs' al => ?_⟩, by simp [Src.live, e]⟩
    simp only [Src.live] at al
    split at al
    · rename_i ds' e'
      obtain ⟨us, h1, h2⟩ := rs'.obj (x.get hp) e'
      refine ⟨us, SqL.of h1, by rw [h2.length]; exact (show ds'.length = ds.length by simpa using al), fun i d q => ?_⟩
      simp only [Src.live, e'] at q
      exact h2.get q
    · cases al
theorem RD.mono' {g : G} {w w' : W} (G : Good w) (x : Ext w w') {d : D} {v : V} (h : RD g w d v) : RD g w' d v := RD.mono G x d v h
theorem its_list {g : G} {w : W} {a : Addr} {s : Src} (h : Stands g w false a s) : ItOk g w (Itl g.K a) s where
  go := fun i w' S d x rs al e _ => by
    obtain ⟨vs, sq, _, at_⟩ := h.st w' S x rs al
    obtain ⟨v, h1, _⟩ := at_ i d e
    exact ⟨vs, v, sq, h1⟩
  stop := fun w' S x rs al => by
    obtain ⟨vs, sq, l, _⟩ := h.st w' S x rs al
    exact ⟨vs, sq, Nat.le_of_eq l⟩
  yld := fun i w' S d x H' ex G rs al e _ y => by
    obtain ⟨vs, sq, _, at_⟩ := h.st w' S ex rs al
    obtain ⟨v, h1, h2⟩ := at_ i d e
    obtain ⟨rfl, q⟩ := y
    have := q vs sq
    rw [h1] at this
    cases this
    exact ⟨w', rfl, Ext.refl _, G, rfl, rfl, h2, rs⟩
theorem its_tup {g : G} {w : W} {a : Addr} {s : Src} (h : Stands g w true a s) : ItOk g w (Itt g.K a) s where
  go := fun i w' S d x rs al e _ => by
    obtain ⟨vs, sq, _, at_⟩ := h.st w' S x rs al
    obtain ⟨v, h1, _⟩ := at_ i d e
    exact ⟨vs, v, sq, h1⟩
  stop := fun w' S x rs al => by
    obtain ⟨vs, sq, l, _⟩ := h.st w' S x rs al
    exact ⟨vs, sq, Nat.le_of_eq l⟩
  yld := fun i w' S d x H' ex G rs al e _ y => by
    obtain ⟨vs, sq, _, at_⟩ := h.st w' S ex rs al
    obtain ⟨v, h1, h2⟩ := at_ i d e
    obtain ⟨rfl, q⟩ := y
    have := q vs sq
    rw [h1] at this
    cases this
    exact ⟨w', rfl, Ext.refl _, G, rfl, rfl, h2, rs⟩
/-- a new pair in each turn -/
theorem pairNew {g : G} {w : W} {S : List D} {T : Addr} {d e : D} {x y : V} (G : Good w) (rs : RS g w S) (hT : w.H T = none) (r1 : RD g w d x) (r2 : RD g w e y) :
    ∃ w', w'.H = upd w.H T (.tup [x, y]) ∧ Ext w w' ∧ Good w' ∧ w'.rhA = w.rhA ∧ w'.thA = w.thA ∧ RD g w' (.tup [d, e]) (.ref T) ∧ RS g w' S := by
  have x' := put_ext (o := .tup [x, y]) hT
  exact ⟨w.put T (.tup [x, y]), rfl, x', put_good G hT, rfl, rfl, ⟨T, _, rfl, ⟨upd_same, put_th (w := w) G hT⟩, RDs.cons (RD.mono G x' _ _ r1) (RDs.one (RD.mono G x' _ _ r2))⟩, put_store G hT rs⟩
theorem its_enum {g : G} {w : W} {b : Bool} {a : Addr} {s : Src} (h : Stands g w b a s) : ItOk g w (ItEn g.K b a) s.enum where
  go := fun i w' S d x rs al e hi => by
    obtain ⟨vs, sq, _, at_⟩ := h.st w' S x rs al
    have e' : (s.at_ S i).map (fun d => D.tup [.int i, d]) = some d := e
    cases q : s.at_ S i with
    | none => rw [q] at e'; cases e'
    | some d0 =>
      obtain ⟨v, h1, _⟩ := at_ i d0 q
      exact ⟨vs, v, sq, h1⟩
  stop := fun w' S x rs al => by
    obtain ⟨vs, sq, l, _⟩ := h.st w' S x rs al
    exact ⟨vs, sq, l⟩
  yld := fun i w' S d x H' ex G rs al e _ y => by
    obtain ⟨vs, sq, _, at_⟩ := h.st w' S ex rs al
    have e' : (s.at_ S i).map (fun d => D.tup [.int i, d]) = some d := e
    cases q : s.at_ S i with
    | none => rw [q] at e'; cases e'
    | some d0 =>
      rw [q] at e'
      cases e'
      obtain ⟨v, h1, h2⟩ := at_ i d0 q
      obtain ⟨T, z, rfl, hT, rfl, k⟩ := y
      have := k vs sq
      rw [h1] at this
      cases this
      exact pairNew G rs hT rfl h2
theorem its_zip {g : G} {w : W} {c d : Bool} {a b : Addr} {s t : Src} (h : Stands g w c a s) (k : Stands g w d b t) : ItOk g w (ItZp g.K c d a b) (s.zip t) where
  go := fun i w' S z x rs al e hi => by
    have al' : (s.alive S && t.alive S) = true := al
    rw [Bool.and_eq_true] at al'
    obtain ⟨vs, sq, _, at1⟩ := h.st w' S x rs al'.1
    obtain ⟨us, sq2, _, at2⟩ := k.st w' S x rs al'.2
    simp only [Src.zip] at e
    split at e
    · rename_i p q e1 e2
      obtain ⟨v, h1, _⟩ := at1 i p e1
      obtain ⟨u, h2, _⟩ := at2 i q e2
      exact ⟨vs, us, v, u, sq, sq2, h1, h2⟩
    · cases e
  stop := fun w' S x rs al => by
    have al' : (s.alive S && t.alive S) = true := al
    rw [Bool.and_eq_true] at al'
    obtain ⟨vs, sq, l1, _⟩ := h.st w' S x rs al'.1
    obtain ⟨us, sq2, l2, _⟩ := k.st w' S x rs al'.2
    refine ⟨vs, us, sq, sq2, ?_, ?_, ?_⟩ <;> (show _; simp only [Src.zip]; omega)
  yld := fun i w' S z x H' ex G rs al e _ y => by
    have al' : (s.alive S && t.alive S) = true := al
    rw [Bool.and_eq_true] at al'
    obtain ⟨vs, sq, _, at1⟩ := h.st w' S ex rs al'.1
    obtain ⟨us, sq2, _, at2⟩ := k.st w' S ex rs al'.2
    simp only [Src.zip] at e
    split at e
    · rename_i p q e1 e2
      cases e
      obtain ⟨v, h1, r1⟩ := at1 i p e1
      obtain ⟨u, h2, r2⟩ := at2 i q e2
      obtain ⟨T, z1, z2, rfl, hT, rfl, k1, k2⟩ := y
      have := k1 vs sq
      rw [h1] at this
      cases this
      have := k2 us sq2
      rw [h2] at this
      cases this
      exact pairNew G rs hT r1 r2
    · cases e
theorem its_rng {g : G} {w : W} (lo : Int) (n : Nat) : ItOk g w (Itr lo n) (.rng lo n) where
  go := fun i w' S d x rs al e hi => hi
  stop := fun w' S x rs al => Nat.le_refl _
  yld := fun i w' S d x H' ex G rs al e _ y => by
    obtain ⟨rfl, rfl⟩ := y
    have e' : some (D.int (lo + i)) = some d := e
    cases e'
    exact ⟨w', rfl, Ext.refl _, G, rfl, rfl, rfl, rs⟩
section
variable {X : Cx} {Wx : WX} {tg a b : Expr} {ma mb : ME} {pos : Pos}
theorem di_seq (h : PE X a (TEof X.g Wx ma)) : PI X tg a (TIof X.g Wx (iSeq ma)) := by
  refine piImp (piOr (pi_list h) (pi_tup h)) fun σ H Q ⟨w, E, S, a, p⟩ => ?_
  have p1 : PR X.g Wx σ w (fun w' s J => ItOk X.g w' J s) Q ((ma E S).bind fun x S1 => match srcOf S1 x with | some s => .ok s S1 | none => .bad) := p
  cases hm : ma E S with
  | ok d S1 =>
    rw [hm] at p1
    have p2 : PR X.g Wx σ w (fun w' s J => ItOk X.g w' J s) Q (match srcOf S1 d with | some s => .ok s S1 | none => .bad) := p1
    cases hs : srcOf S1 d with
    | none => rw [hs] at p2; exact p2.elim
    | some s =>
      rw [hs] at p2
      cases ht : d.isTup with
      | true =>
        refine .inr ⟨w, E, S, a, ?_⟩
        rw [hm]
        intro v w1 x G r rs
        obtain ⟨q, c, rfl, ec, st, al⟩ := stands_of G rs r hs
        rw [ht] at ec
        subst ec
        obtain ⟨vs, sq, _⟩ := st.st w1 S1 (Ext.refl _) rs al
        exact ⟨q, rfl, ⟨vs, sq⟩, p2 _ w1 x G (its_tup st) rs⟩
      | false =>
        refine .inl ⟨w, E, S, a, ?_⟩
        rw [hm]
        intro v w1 x G r rs
        obtain ⟨q, c, rfl, ec, st, al⟩ := stands_of G rs r hs
        rw [ht] at ec
        subst ec
        obtain ⟨vs, sq, _⟩ := st.st w1 S1 (Ext.refl _) rs al
        exact ⟨q, rfl, ⟨vs, sq⟩, p2 _ w1 x G (its_list st) rs⟩
  | exc c fs S1 =>
    refine .inl ⟨w, E, S, a, ?_⟩
    rw [hm] at p1 ⊢
    exact p1
  | bad => rw [hm] at p1; exact p1.elim
theorem okR_iff {i : Int} : okR i = true ↔ -(2 ^ 62) ≤ i ∧ i < 2 ^ 62 := by
  unfold okR
  rw [Bool.and_eq_true, decide_eq_true_eq, decide_eq_true_eq]
  exact Iff.rfl
theorem di_rng1 {p : Pos} (hg : Gl X "range") (hm : X.mg "range" = none) (ha : PA X [a] (TAof X.g Wx (aCons ma aNil))) (hs : starEach [a] X.env = [(false, eval a X.env)] := by rfl) : PI X tg (.Call (.Name "range" p) [a] [] pos) (TIof X.g Wx (iRng1 ma)) := by
  refine piImp (pi_range1 hg hm ha hs) fun σ H Q ⟨w, E, S, a, p⟩ => ?_
  refine ⟨w, E, S, a, ?_⟩
  unfold iRng1 at p
  unfold aCons aNil
  cases hm : ma E S with
  | ok d S1 =>
    rw [hm] at p
    cases d with
    | int j =>
      simp only [bind_ok] at p ⊢
      split at p
      · rename_i hj
        intro vs w1 x G r rs
        obtain ⟨v, rfl, r1⟩ := r.one'
        cases r1
        have hj' := okR_iff.mp hj
        exact ⟨j, rfl, hj'.1, hj'.2, p _ w1 x G (its_rng 0 j.toNat) rs⟩
      · exact p.elim
    | _ => exact p.elim
  | exc c fs S1 => rw [hm] at p; exact p
  | bad => rw [hm] at p; exact p.elim
theorem di_rng2 {p : Pos} (hg : Gl X "range") (hm : X.mg "range" = none) (ha : PA X [a, b] (TAof X.g Wx (aCons ma (aCons mb aNil)))) (hs : starEach [a, b] X.env = [(false, eval a X.env), (false, eval b X.env)] := by rfl) (hs2 : starEach [b] X.env = [(false, eval b X.env)] := by rfl) : PI X tg (.Call (.Name "range" p) [a, b] [] pos) (TIof X.g Wx (iRng2 ma mb)) := by
  refine piImp (pi_range2 hg hm ha hs hs2) fun σ H Q ⟨w, E, S, a, p⟩ => ?_
  refine ⟨w, E, S, a, ?_⟩
  unfold iRng2 at p
  unfold aCons aNil
  cases hm : ma E S with
  | ok d S1 =>
    rw [hm] at p
    simp only [bind_ok] at p ⊢
    cases hm2 : mb E S1 with
    | ok e S2 =>
      rw [hm2] at p
      simp only [bind_ok] at p ⊢
      cases d with
      | int i =>
        cases e with
        | int j =>
          simp only at p
          split at p
          · rename_i hj
            intro vs w1 x G r rs
            obtain ⟨v, u, rfl, r1, r2⟩ := r.two'
            cases r1
            cases r2
            have h1 := okR_iff.mp hj.1
            have h2 := okR_iff.mp hj.2
            exact ⟨i, j, rfl, ⟨h1.1, h1.2, h2.1, h2.2⟩, p _ w1 x G (its_rng i (j - i).toNat) rs⟩
          · exact p.elim
        | _ => exact p.elim
      | _ => exact p.elim
    | exc c fs S1 => rw [hm2] at p; exact p
    | bad => rw [hm2] at p; exact p.elim
  | exc c fs S1 => rw [hm] at p; exact p
  | bad => rw [hm] at p; exact p.elim
theorem di_enum {p tpos : Pos} {elts : List Expr} {kk : Nat} (hg : Gl X "enumerate") (hm : X.mg "enumerate" = none) (ha : PA X [a] (TAof X.g Wx (aCons ma aNil))) (hs : starEach [a] X.env = [(false, eval a X.env)] := by rfl) : PI X (.Tuple elts kk tpos) (.Call (.Name "enumerate" p) [a] [] pos) (TIof X.g Wx (iEnum ma)) := by
  refine piImp (pi_en hg hm ha hs) fun σ H Q ⟨w, E, S, a, p⟩ => ?_
  refine ⟨w, E, S, a, ?_⟩
  unfold J.iEnum at p
  unfold aCons aNil
  cases hm : ma E S with
  | ok d S1 =>
    rw [hm] at p
    simp only [bind_ok] at p ⊢
    split at p
    · rename_i s hs
      intro vs w1 x G r rs
      obtain ⟨v, rfl, r1⟩ := r.one'
      obtain ⟨q, c, rfl, ec, st, al⟩ := stands_of G rs r1 hs
      obtain ⟨us, sq, _⟩ := st.st w1 S1 (Ext.refl _) rs al
      exact ⟨c, q, us, rfl, sq, p _ w1 x G (its_enum st) rs⟩
    · exact p.elim
  | exc c fs S1 => rw [hm] at p; exact p
  | bad => rw [hm] at p; exact p.elim
theorem di_zip {p tpos : Pos} {elts : List Expr} {kk : Nat} (hg : Gl X "zip") (hm : X.mg "zip" = none) (ha : PA X [a, b] (TAof X.g Wx (aCons ma (aCons mb aNil)))) (hs : starEach [a, b] X.env = (false, eval a X.env) :: starEach [b] X.env := by rfl) (hpl : (backTo pos (starEach [b] X.env)).any (·.1) = false := by rfl) :
    PI X (.Tuple elts kk tpos) (.Call (.Name "zip" p) [a, b] [] pos) (TIof X.g Wx (iZip ma mb)) := by
  refine piImp (pi_zp hg hm ha hs hpl) fun σ H Q ⟨w, E, S, a, p⟩ => ?_
  refine ⟨w, E, S, a, ?_⟩
  unfold J.iZip at p
  unfold aCons aNil
  cases hm : ma E S with
  | ok d S1 =>
    rw [hm] at p
    simp only [bind_ok] at p ⊢
    cases hm2 : mb E S1 with
    | ok e S2 =>
      rw [hm2] at p
      simp only [bind_ok] at p ⊢
      split at p
      · rename_i s t hs ht
        intro vs w1 x G r rs
        obtain ⟨v, u, rfl, r1, r2⟩ := r.two'
        obtain ⟨q, c, rfl, ec, st, al⟩ := stands_of G rs r1 hs
        obtain ⟨q2, c2, rfl, ec2, st2, al2⟩ := stands_of G rs r2 ht
        obtain ⟨us, sq, _⟩ := st.st w1 S2 (Ext.refl _) rs al
        obtain ⟨us2, sq2, _⟩ := st2.st w1 S2 (Ext.refl _) rs al2
        exact ⟨c, c2, q, q2, us, us2, rfl, sq, sq2, p _ w1 x G (its_zip st st2) rs⟩
      · exact p.elim
    | exc c fs S1 => rw [hm2] at p; exact p
    | bad => rw [hm2] at p; exact p.elim
  | exc c fs S1 => rw [hm] at p; exact p
  | bad => rw [hm] at p; exact p.elim
end
end J
set_option Elab.async false
set_option linter.all false
set_option maxRecDepth 100000
set_option maxHeartbeats 1000000
namespace J
open PySem PySem.Spec PyProof.Rows L2
/-! ### to another world -/
structure Weak (w w' : W) : Prop where
  H : ∀ a o, w.H a = some o → ¬ w.thA a → w'.H a = some o
  thA : ∀ a o, w.H a = some o → ¬ w.thA a → ¬ w'.thA a
theorem Weak.dk {w w' : W} (k : Weak w w') {a : Addr} {u : HO} (h : Rd w.H a u) (n : ¬ w.thA a) : Rd w'.H a u ∧ ¬ w'.thA a := by
  rcases h with h | ⟨o, h⟩
  · exact ⟨.inl (k.H a _ h n), k.thA a _ h n⟩
  · exact ⟨.inr ⟨o, k.H a _ h n⟩, k.thA a _ h n⟩
theorem Weak.tup {g : G} {w w' : W} (k : Weak w w') {a : Addr} {vs : List V} (h : TupAt g w a vs) : TupAt g w' a vs := ⟨k.H a _ h.1 h.2, k.thA a _ h.1 h.2⟩
theorem Weak.rdl {g : G} {w w' : W} (k : Weak w w') {a : Addr} {vs : List V} (h : RdlAt g w a vs) : RdlAt g w' a vs := by
  rcases h with ⟨h | ⟨o, h⟩, n⟩ | h
  · exact .inl ⟨.inl (k.H a _ h n), k.thA a _ h n⟩
  · exact .inl ⟨.inr ⟨o, k.H a _ h n⟩, k.thA a _ h n⟩
  · exact .inr h
mutual
theorem RD.flatW {g : G} {w w' : W} (k : Weak w w') : ∀ (d : D) (v : V), d.flat = true → RD g w d v → RD g w' d v
  | .non, _, _, h => h
  | .bl _, _, _, h => h
  | .int _, _, _, h => h
  | .str _, _, _, h => h
  | .ty _, _, _, h => h
  | .tup ds, v, f, h => by
    obtain ⟨a, vs, e, t, r⟩ := h
    exact ⟨a, vs, e, k.tup t, RDs.flatW k ds vs f r⟩
  | .lst ds, v, f, h => by
    obtain ⟨a, vs, e, t, n, r⟩ := h
    exact ⟨a, vs, e, k.H a _ t n, k.thA a _ t n, RDs.flatW k ds vs f r⟩
  | .rdl ds, v, f, h => by
    obtain ⟨a, vs, e, t, r⟩ := h
    exact ⟨a, vs, e, k.rdl t, RDs.flatW k ds vs f r⟩
  | .dct ks ds, v, f, h => by
    obtain ⟨a, vs, e, t, l, n, r⟩ := h
    exact ⟨a, vs, e, (k.dk t n).1, l, (k.dk t n).2, RDs.flatW k ds vs f r⟩
  | .dcT ks ds, v, f, h => by
    obtain ⟨a, vs, e, t, l, n, r⟩ := h
    exact ⟨a, vs, e, (k.dk t n).1, l, (k.dk t n).2, RDs.flatW k ds vs f r⟩
  | .tuk ds, v, f, h => by
    obtain ⟨a, vs, o, e, t, l, n, r⟩ := h
    exact ⟨a, vs, o, e, k.H a _ t n, l, k.thA a _ t n, RDs.flatW k ds vs f r⟩
theorem RDs.flatW {g : G} {w w' : W} (k : Weak w w') : ∀ (ds : List D) (vs : List V), D.flats ds = true → RDs g w ds vs → RDs g w' ds vs
  | [], _, _, h => h
  | d :: ds, vs, f, h => by
    obtain ⟨v, r, e, h1, h2⟩ := h
    simp only [D.flats, Bool.and_eq_true] at f
    exact ⟨v, r, e, RD.flatW k d v f.1 h1, RDs.flatW k ds r f.2 h2⟩
end
mutual
theorem RD.weakW {g : G} {w w' : W} (k : Weak w w') (kr : ∀ (n : Nat) a, w.rhA[n]? = some a → w'.rhA[n]? = some a) : ∀ (d : D) (v : V), RD g w d v → RD g w' d v
  | .non, _, h => h
  | .bl _, _, h => h
  | .int _, _, h => h
  | .str _, _, h => h
  | .ty _, _, h => h
  | .tup ds, v, h => by
    obtain ⟨a, vs, e, t, r⟩ := h
    exact ⟨a, vs, e, k.tup t, RDs.weakW k kr ds vs r⟩
  | .lst ds, v, h => by
    obtain ⟨a, vs, e, t, n, r⟩ := h
    exact ⟨a, vs, e, k.H a _ t n, k.thA a _ t n, RDs.weakW k kr ds vs r⟩
  | .rdl ds, v, h => by
    obtain ⟨a, vs, e, t, r⟩ := h
    exact ⟨a, vs, e, k.rdl t, RDs.weakW k kr ds vs r⟩
  | .dct ks ds, v, h => by
    obtain ⟨a, vs, e, t, l, n, r⟩ := h
    exact ⟨a, vs, e, (k.dk t n).1, l, (k.dk t n).2, RDs.weakW k kr ds vs r⟩
  | .dcT ks ds, v, h => by
    obtain ⟨a, vs, e, t, l, n, r⟩ := h
    exact ⟨a, vs, e, (k.dk t n).1, l, (k.dk t n).2, RDs.weakW k kr ds vs r⟩
  | .tuk ds, v, h => by
    obtain ⟨a, vs, o, e, t, l, n, r⟩ := h
    exact ⟨a, vs, o, e, k.H a _ t n, l, k.thA a _ t n, RDs.weakW k kr ds vs r⟩
  | .loc n, v, h => by
    obtain ⟨a, e, t⟩ := h
    exact ⟨a, e, kr n a t⟩
theorem RDs.weakW {g : G} {w w' : W} (k : Weak w w') (kr : ∀ (n : Nat) a, w.rhA[n]? = some a → w'.rhA[n]? = some a) : ∀ (ds : List D) (vs : List V), RDs g w ds vs → RDs g w' ds vs
  | [], _, h => h
  | d :: ds, vs, h => by
    obtain ⟨v, r, e, h1, h2⟩ := h
    exact ⟨v, r, e, RD.weakW k kr d v h1, RDs.weakW k kr ds r h2⟩
end
theorem RO.flatW {g : G} {w w' : W} (k : Weak w w') {d : D} {a : Addr} (f : d.flat = true) (e : w'.H a = w.H a) (h : RO g w d a) : RO g w' d a := by
  cases d with
  | lst ds =>
    obtain ⟨vs, h1, h2⟩ := h
    exact ⟨vs, e.trans h1, RDs.flatW k ds vs f h2⟩
  | dct ks ds =>
    obtain ⟨vs, h1, l, h2⟩ := h
    exact ⟨vs, e.trans h1, l, RDs.flatW k ds vs f h2⟩
  | dcT ks ds =>
    obtain ⟨vs, h1, l, h2⟩ := h
    exact ⟨vs, e.trans h1, l, RDs.flatW k ds vs f h2⟩
  | _ => exact h.elim
theorem allFlat {S : List D} {n : Nat} {d : D} (h : S.all D.flat = true) (e : S[n]? = some d) : d.flat = true := by
  rw [List.all_eq_true] at h
  exact h d (List.mem_of_getElem? e)
/-- fewer objects of the store -/
theorem weak_take {w w' : W} (hH : w'.H = w.H) (hthA : ∀ a, w'.thA a → w.thA a) : Weak w w' := ⟨fun a o h _ => by rw [hH]; exact h, fun a o _ n z => n (hthA a z)⟩
theorem take_store {g : G} {w w' : W} {S : List D} {n : Nat} (k : Weak w w') (hH : w'.H = w.H) (hr : w'.rhA = w.rhA.take n) (hn : n ≤ S.length) (f : (S.take n).all D.flat = true) (rs : RS g w S) : RS g w' (S.take n) := by
  refine ⟨by rw [hr, List.length_take, List.length_take, rs.1], fun m d e => ?_⟩
  have hm : m < n := by
    have := (List.getElem?_eq_some_iff.mp e).1
    rw [List.length_take] at this
    omega
  have e' : S[m]? = some d := by rwa [List.getElem?_take_of_lt hm] at e
  obtain ⟨a, h1, h2⟩ := rs.2 m d e'
  exact ⟨a, by rw [hr, List.getElem?_take_of_lt hm]; exact h1, h2.flatW k (allFlat f e) (by rw [hH])⟩
theorem gone_some {n : Nat} {d0 d : D} (h : gone n (some d0) = some d) : (d0 = d ∧ d0.flat = true) ∨ ∃ m, d0 = .loc m ∧ d = .loc m ∧ m < n := by
  unfold gone at h
  simp only at h
  split at h
  · rename_i hf
    cases h
    exact .inl ⟨rfl, hf⟩
  · split at h
    · rename_i m _
      split at h
      · rename_i hm
        cases h
        exact .inr ⟨_, rfl, rfl, hm⟩
      · cases h
    · cases h
theorem gc_ok {g : G} {w2 w4 : W} {σ : L2.St} {E3 E4 : Env} {S3 S4 : List D} {n : Nat} (h : gcE n E3 S3 = some (E4, S4)) (G4 : Good w4) (re : RE g w4 E3 σ) (rs : RS g w4 S3) (x : Ext w2 w4) (hn : w2.rhA.length = n) :
    ∃ w5, At g w5 E4 σ w4.H S4 ∧ Ext w2 w5 ∧ S4.length = n := by
  unfold gcE at h
  split at h
  · rename_i hl
    cases h
    exact ⟨w4, ⟨rfl, G4, re, rs⟩, x, hl⟩
  · split at h
    · rename_i hh
      cases h
      obtain ⟨τ, e1, f1⟩ := x.rho
      have et : w4.rhA.take n = w2.rhA := by rw [e1, List.take_append_of_le_length (Nat.le_of_eq hn.symm), List.take_of_length_le (Nat.le_of_eq hn)]
      have k : Weak w4 ⟨w4.thA, w4.rhA.take n, w4.H⟩ := weak_take rfl fun _ z => z
      refine ⟨⟨w4.thA, w4.rhA.take n, w4.H⟩, ⟨rfl, ⟨(List.take_sublist n w4.rhA).nodup G4.nd, fun a ha => G4.sub a (List.mem_of_mem_take ha), G4.al, G4.nt⟩, ⟨by simp [re.1], fun i d e => ?_⟩, take_store k rfl rfl hh.1 hh.2 rs⟩, ⟨⟨[], ?_, by simp⟩, x.th1, x.th2, x.kp, x.al⟩, by rw [List.length_take]; omega⟩
      · rw [List.getElem?_map] at e
        cases q : E3[i]? with
        | none => rw [q] at e; cases e
        | some od =>
          rw [q] at e
          cases od with
          | none => cases e
          | some d0 =>
            have e2 : gone n (some d0) = some d := Option.some.inj e
            obtain ⟨v, h1, h2⟩ := re.2 i d0 q
            refine ⟨v, h1, ?_⟩
            rcases gone_some e2 with ⟨rfl, hf⟩ | ⟨m, rfl, rfl, hm⟩
            · exact RD.flatW k _ _ hf h2
            · obtain ⟨a, ea, ha⟩ := h2
              exact ⟨a, ea, by show (w4.rhA.take n)[m]? = some a; rw [List.getElem?_take_of_lt hm]; exact ha⟩
      · show w4.rhA.take n = w2.rhA ++ []
        rw [et, List.append_nil]
    · cases h
section
variable {X : Cx} {Wx : WX} {pos : Pos}
/-! ### for, while -/
theorem ds_for {tg iter : Expr} {body : List Stmt} {mi : MI} {t : Tg} {mb : MS} (hp : PassesOwn (model X.prog X.w) X.A X.env X.xe) (hc : X.calm = true) (hi : PI X tg iter (TIof X.g Wx mi)) (hg : PG X tg (TGof X.g t)) (hb : PSs X body (TSof X.g Wx mb))
    (hs : ∀ x, foldedSetIterable iter X.env x = pure x := by intro _; rfl) : PS X (.For tg iter body [] pos) (TSof X.g Wx (sFor t mi mb)) := by
  refine psImp (ps_for hp hc hi hg hb hs) fun D σ H ⟨w, E, S, a, p⟩ => ⟨w, E, S, a, ?_⟩
  unfold sFor at p
  cases hm : mi E S with
  | bad => rw [hm] at p; exact p.elim
  | exc c fs S1 =>
    rw [hm] at p
    exact fun cls dx w' x G' rx rs => p cls dx σ w' x G' rx (a.env.mono a.good x) rs
  | ok src S1 =>
    rw [hm] at p
    intro J0 w1 x1 G1 it rs1
    have p1 : PO_ X.g Wx D w1 (forGo src t mb S1.length src.len 0 E S1) := p.at x1
    have hn : w1.rhA.length = S1.length := rs1.1.symm
    refine ⟨fun i k σ H => ∃ w2 E2 S2, At X.g w2 E2 σ H S2 ∧ Ext w1 w2 ∧ i + k = src.len ∧ S2.length = S1.length ∧ PO_ X.g Wx D w2 (forGo src t mb S1.length k i E2 S2),
      ⟨src.len, w1, E, S1, ⟨rfl, G1, a.env.mono a.good x1, rs1⟩, Ext.refl _, by omega, rfl, p1⟩, ?_⟩
    rintro i k σ H ⟨w2, E2, S2, a2, x2, hik, hl2, p2⟩
    have hn2 : w2.rhA.length = S1.length := by rw [← a2.sto.1]; exact hl2
    cases k with
    | zero =>
      simp only [forGo] at p2
      split at p2
      · rename_i al
        have hi : i = src.len := by omega
        subst hi
        refine .inl ⟨?_, ?_⟩
        · rw [← a2.hp]
          exact it.stop w2 S2 x2 a2.sto al
        · have := p2 σ w2 (Ext.refl _) a2.good a2.env a2.sto
          rw [a2.hp] at this
          exact this
      · exact p2.elim
    | succ k =>
      simp only [forGo] at p2
      split at p2
      · rename_i al
        split at p2
        · exact p2.elim
        · rename_i d hd
          split at p2
          · exact p2.elim
          · rename_i E1 hE
            have hlt : i < src.len := by omega
            refine .inr ⟨by rw [← a2.hp]; exact it.go i w2 S2 d x2 a2.sto al hd hlt, fun σ' H' => ∃ w2 E2 S2, At X.g w2 E2 σ' H' S2 ∧ Ext w1 w2 ∧ (i + 1) + k = src.len ∧ S2.length = S1.length ∧ PO_ X.g Wx D w2 (forGo src t mb S1.length k (i + 1) E2 S2), fun σ' H' hN => ⟨k, Nat.lt_succ_self k, hN⟩, fun x H' hy => ?_⟩
            rw [← a2.hp] at hy
            obtain ⟨w3, eH, x3, G3, _, _, r3, rs3⟩ := it.yld i w2 S2 d x H' x2 a2.good a2.sto al hd hlt hy
            refine ⟨w3, E2, S2, d, E1, ⟨eH, G3, a2.env.mono a2.good x3, rs3⟩, r3, hE, fun σ' re _ _ => ⟨w3, E1, S2, ⟨eH, G3, re, rs3⟩, ?_⟩⟩
            have p3 := p2.at x3
            have again : ∀ {E3 : Env} {S3 : List J.D}, PO_ X.g Wx D w3 (match gcE S1.length E3 S3 with | some (E3, S3) => forGo src t mb S1.length k (i + 1) E3 S3 | none => O.bad) → ∀ σ' w4, Ext w3 w4 → Good w4 → RE X.g w4 E3 σ' → RS X.g w4 S3 →
                ∃ w2 E2 S2, At X.g w2 E2 σ' w4.H S2 ∧ Ext w1 w2 ∧ (i + 1) + k = src.len ∧ S2.length = S1.length ∧ PO_ X.g Wx D w2 (forGo src t mb S1.length k (i + 1) E2 S2) := fun {E3 S3} q σ' w4 x4 G4 re4 rs4 => by
              split at q
              · rename_i E4 S4 hgc
                have hn3 : w3.rhA.length = S1.length := by rw [← rs3.1]; exact hl2
                obtain ⟨w5, a5, x5, l5⟩ := gc_ok hgc G4 re4 rs4 x4 hn3
                exact ⟨w5, E4, S4, a5, x2.trans (x3.trans x5), by omega, l5, q.at x5⟩
              · exact q.elim
            cases hbd : mb E1 S2 with
            | nx E3 S3 => rw [hbd] at p3; exact again p3
            | ct E3 S3 => rw [hbd] at p3; exact again p3
            | bk E3 S3 => rw [hbd] at p3; exact p3
            | rt d S3 => rw [hbd] at p3; exact p3
            | exc c fs E3 S3 => rw [hbd] at p3; exact p3
            | bad => rw [hbd] at p3; exact p3
      · exact p2.elim
theorem ds_while {c : Expr} {body : List Stmt} {mt : MT} {mb : MS} {fuel : Nat} (hp : PassesOwn (model X.prog X.w) X.A X.env X.xe) (hc : PT X c (TTof X.g Wx mt)) (hb : PSs X body (TSof X.g Wx mb)) : PS X (.While c body [] pos) (TSof X.g Wx (sWhile fuel mt mb)) := by
  refine psImp (ps_while hp hc hb) fun D σ H ⟨w, E, S, a, p⟩ => ?_
  unfold sWhile at p
  have hn : w.rhA.length = S.length := a.sto.1.symm
  refine ⟨fun k σ H => ∃ w2 E2 S2, At X.g w2 E2 σ H S2 ∧ Ext w w2 ∧ S2.length = S.length ∧ PO_ X.g Wx D w2 (whileGo mt mb S.length k E2 S2), ⟨fuel, w, E, S, a, Ext.refl _, rfl, p⟩, ?_⟩
  rintro k σ H ⟨w2, E2, S2, a2, x2, hl2, p2⟩
  have hn2 : w2.rhA.length = S.length := by rw [← a2.sto.1]; exact hl2
  cases k with
  | zero => exact p2.elim
  | succ k =>
    simp only [whileGo] at p2
    refine ⟨w2, E2, S2, a2, ?_⟩
    cases hmt : mt E2 S2 with
    | bad => rw [hmt] at p2; exact p2.elim
    | exc c fs S1 =>
      rw [hmt] at p2
      exact fun cls dx w' x G' rx rs => p2 cls dx σ w' x G' rx (a2.env.mono a2.good x) rs
    | ok c S3 =>
    rw [hmt] at p2
    simp only [tO_ok] at p2
    intro b w3 x3 G3 rb rs3
    obtain rfl : c = b := rb
    cases c with
    | false =>
      rw [if_neg Bool.false_ne_true] at p2 ⊢
      exact p2 σ w3 x3 G3 (a2.env.mono a2.good x3) rs3
    | true =>
      rw [if_pos rfl] at p2 ⊢
      refine ⟨fun σ' H' => ∃ w2 E2 S2, At X.g w2 E2 σ' H' S2 ∧ Ext w w2 ∧ S2.length = S.length ∧ PO_ X.g Wx D w2 (whileGo mt mb S.length k E2 S2), fun σ' H' hN => ⟨k, Nat.lt_succ_self k, hN⟩, w3, E2, S3, ⟨rfl, G3, a2.env.mono a2.good x3, rs3⟩, ?_⟩
      have again : ∀ {E3 : Env} {S4 : List J.D}, PO_ X.g Wx D w2 (match gcE S.length E3 S4 with | some (E3, S3) => whileGo mt mb S.length k E3 S3 | none => O.bad) → ∀ σ' w4, Ext w3 w4 → Good w4 → RE X.g w4 E3 σ' → RS X.g w4 S4 →
          ∃ w2 E2 S2, At X.g w2 E2 σ' w4.H S2 ∧ Ext w w2 ∧ S2.length = S.length ∧ PO_ X.g Wx D w2 (whileGo mt mb S.length k E2 S2) := fun {E3 S4} q σ' w4 x4 G4 re4 rs4 => by
        split at q
        · rename_i E5 S5 hgc
          obtain ⟨w5, a5, x5, l5⟩ := gc_ok hgc G4 re4 rs4 (x3.trans x4) hn2
          exact ⟨w5, E5, S5, a5, x2.trans x5, l5, q.at x5⟩
        · exact q.elim
      cases hbd : mb E2 S3 with
      | nx E3 S3 => rw [hbd] at p2; exact again p2
      | ct E3 S3 => rw [hbd] at p2; exact again p2
      | bk E3 S3 => rw [hbd] at p2; exact p2.at x3
      | rt d S3 => rw [hbd] at p2; exact p2.at x3
      | exc c fs E3 S3 => rw [hbd] at p2; exact p2.at x3
      | bad => rw [hbd] at p2; exact p2
end
end J
set_option Elab.async false
set_option linter.all false
set_option maxRecDepth 100000
set_option maxHeartbeats 1000000
namespace J
open PySem PySem.Spec PyProof.Rows L2
/-! ### comprehensions -/
abbrev W0 : WX := fun _ _ _ _ => False
theorem wipe_get (σ : L2.St) (i : Nat) : ∀ vs : List Nat, (wipe σ vs)[i]? = if i ∈ vs then (σ[i]?).map (fun _ => none) else σ[i]?
  | [] => by simp [wipe]
  | v :: vs => by
    unfold wipe
    by_cases h : i = v
    · subst h
      rw [if_pos (by simp)]
      by_cases hl : i < σ.length
      · rw [List.getElem?_set_self (by rw [wipe_length]; exact hl), List.getElem?_eq_getElem hl]; rfl
      · rw [List.getElem?_eq_none (by rw [List.length_set, wipe_length]; omega), List.getElem?_eq_none (by omega)]; rfl
    · rw [List.getElem?_set_ne (Ne.symm h), wipe_get σ i vs]
      simp [h]
theorem wipeE_get (σ : Env) (i : Nat) : ∀ vs : List Nat, (wipeE σ vs)[i]? = if i ∈ vs then (σ[i]?).map (fun _ => none) else σ[i]?
  | [] => by simp [wipeE]
  | v :: vs => by
    unfold wipeE
    have hlen : ∀ us : List Nat, (wipeE σ us).length = σ.length := fun us => by
      induction us with
      | nil => rfl
      | cons u us ih => unfold wipeE; rw [List.length_set, ih]
    by_cases h : i = v
    · subst h
      rw [if_pos (by simp)]
      by_cases hl : i < σ.length
      · rw [List.getElem?_set_self (by rw [hlen]; exact hl), List.getElem?_eq_getElem hl]; rfl
      · rw [List.getElem?_eq_none (by rw [List.length_set, hlen]; omega), List.getElem?_eq_none (by omega)]; rfl
    · rw [List.getElem?_set_ne (Ne.symm h), wipeE_get σ i vs]
      simp [h]
theorem wipeE_length (E : Env) : ∀ vs : List Nat, (wipeE E vs).length = E.length
  | [] => rfl
  | v :: vs => by unfold wipeE; rw [List.length_set, wipeE_length E vs]
theorem RE.wipe {g : G} {w : W} {E : Env} {σ : L2.St} (h : RE g w E σ) (vs : List Nat) : RE g w (wipeE E vs) (L2.wipe σ vs) := by
  refine ⟨by rw [wipeE_length, wipe_length]; exact h.1, fun i d e => ?_⟩
  rw [wipeE_get] at e
  rw [wipe_get]
  by_cases hi : i ∈ vs
  · rw [if_pos hi] at e
    cases q : E[i]? <;> (rw [q] at e; cases e)
  · rw [if_neg hi] at e ⊢
    exact h.2 i d e
theorem wipe_eq {σ σ' : L2.St} {vs sl : List Nat} (hs : ∀ i, i ∈ sl → i ∈ vs) (h : ∀ i, i ∉ sl → σ'[i]? = (L2.wipe σ vs)[i]?) (hl : σ'.length = (L2.wipe σ vs).length) : L2.wipe σ' vs = L2.wipe σ vs := by
  apply List.ext_getElem?
  intro i
  rw [wipe_length] at hl
  rw [wipe_get, wipe_get]
  by_cases hi : i ∈ vs
  · rw [if_pos hi, if_pos hi]
    by_cases hlt : i < σ.length
    · rw [List.getElem?_eq_getElem hlt, List.getElem?_eq_getElem (by omega)]; rfl
    · rw [List.getElem?_eq_none (by omega), List.getElem?_eq_none (by omega)]
  · rw [if_neg hi, if_neg hi]
    have := h i fun z => hi (hs i z)
    rw [wipe_get, if_neg hi] at this
    exact this
/-- the world while the new list at p grows -/
abbrev W.hide (w : W) (p : Addr) (o : HO) : W := ⟨fun a => w.thA a ∨ a = p, w.rhA, upd w.H p o⟩
theorem hide_ext {w : W} {p : Addr} {o : HO} (hp : w.H p = none) : Ext w (w.hide p o) := by
  have x := add_ext (o := o) hp
  exact ⟨⟨[], by simp, by simp⟩, x.th1, x.th2, x.kp, x.al⟩
theorem hide_good {w : W} {p : Addr} {o : HO} (G : Good w) (hp : w.H p = none) (hno : ∀ xs, o ≠ .tup xs := by intro _ z; cases z) : Good (w.hide p o) := by
  have G' := add_good (o := o) G hp hno
  exact ⟨G.nd, fun a h => .inl (G.sub a h), G'.al, G'.nt⟩
theorem weak_upd {w : W} {p : Addr} {o : HO} (hthA : w.thA p) : Weak w { w with H := upd w.H p o } := ⟨fun a u h n => by
  show upd w.H p o a = some u
  rw [upd_ne fun e => n (by rw [e]; exact hthA)]
  exact h, fun a u _ n => n⟩
theorem RO.weakW {g : G} {w w' : W} (k : Weak w w') (kr : ∀ (n : Nat) a, w.rhA[n]? = some a → w'.rhA[n]? = some a) {d : D} {a : Addr} (e : w'.H a = w.H a) (h : RO g w d a) : RO g w' d a := by
  cases d with
  | lst ds =>
    obtain ⟨vs, h1, h2⟩ := h
    exact ⟨vs, e.trans h1, RDs.weakW k kr ds vs h2⟩
  | dct ks ds =>
    obtain ⟨vs, h1, l, h2⟩ := h
    exact ⟨vs, e.trans h1, l, RDs.weakW k kr ds vs h2⟩
  | dcT ks ds =>
    obtain ⟨vs, h1, l, h2⟩ := h
    exact ⟨vs, e.trans h1, l, RDs.weakW k kr ds vs h2⟩
  | _ => exact h.elim
theorem RS.weakW {g : G} {w w' : W} {S : List D} (k : Weak w w') (hr : w'.rhA = w.rhA) (he : ∀ a, a ∈ w.rhA → w'.H a = w.H a) (h : RS g w S) : RS g w' S := ⟨by rw [hr]; exact h.1, fun n d e => by
  obtain ⟨a, h1, h2⟩ := h.2 n d e
  exact ⟨a, by rw [hr]; exact h1, h2.weakW k (fun n a q => by rw [hr]; exact q) (he a (List.mem_of_getElem? h1))⟩⟩
section
variable {X : Cx} {Wx : WX} {pos : Pos}
theorem dts_nil : PTs X [] (TTof X.g Wx J.tYes) := ⟨fun pins s σ H Q I ⟨w, E, S, a, p⟩ => by
  have := p true w (Ext.refl w) a.good rfl a.sto
  rw [a.hp] at this
  exact pts_nil.run pins s σ H Q I this⟩
theorem dts_one {c : Expr} {mt : MT} (h : PT X c (TTof X.g Wx mt)) : PTs X [c] (TTof X.g Wx mt) := pts_one h
theorem lcUse {own : List Nat} {mi : MI} {t : Tg} {mc : MT} {me m : ME} (hsl : ∀ i, i ∈ t.slots → i ∈ own)
    (hm : (m = eLc own t mi mc me) ∨ (m = eLcL own t mi mc me)) : ∀ (σ : L2.St) H Q, TEof X.g Wx m σ H Q → tLc (TIof X.g Wx mi) (TGof X.g t) (TTof X.g W0 mc) (TEof X.g W0 me) own σ H Q := fun σ H Q ⟨w, E, S, a, p⟩ => by
  -- what is wanted of the whole list
  have p0 : ∃ fin : List D → List D → R D, PR X.g Wx σ w (RD X.g) Q ((lcRun own t mi mc me E S).bind fin) ∧ ∀ (w1 : W) (acc S2 : List D) (vs : List V) (w2 : W) (Dd : Addr), w1.H Dd = none → Good w1 → Good w2 → Ext w1 w2 → Dd ∉ w2.rhA → RS X.g w2 S2 → w2.thA Dd → w2.H Dd = some (.lst vs) → RDs X.g w2 acc vs → PR X.g Wx σ w1 (RD X.g) Q (fin acc S2) → Q (.ref Dd) w2.H := by
    rcases hm with rfl | rfl
    · refine ⟨fun (acc S1 : List D) => (R.ok (D.lst acc) S1 : R D), p, fun w1 acc S2 vs w2 Dd hD G1 G2 x nD rs hthA hDd r q => ?_⟩
      have k : Weak w2 ⟨fun a => w2.thA a ∧ a ≠ Dd, w2.rhA, w2.H⟩ := weak_take rfl fun _ z => z.1
      exact q (.ref Dd) ⟨fun a => w2.thA a ∧ a ≠ Dd, w2.rhA, w2.H⟩ ⟨x.rho, fun a h => ⟨x.th1 a h, fun z => G1.al a h (by rw [z]; exact hD)⟩, fun a h => x.th2 a h.1, x.kp, x.al⟩
        ⟨G2.nd, fun a h => ⟨G2.sub a h, fun z => nD (by rw [← z]; exact h)⟩, fun a h => G2.al a h.1, fun a h => G2.nt a h.1⟩ ⟨Dd, vs, rfl, hDd, fun z => z.2 rfl, RDs.weakW k (fun _ _ h => h) _ _ r⟩ (rs.weakW k rfl fun _ _ => rfl)
    · refine ⟨fun (acc S1 : List D) => (R.ok (D.loc S1.length) (S1 ++ [D.lst acc]) : R D), p, fun w1 acc S2 vs w2 Dd hD G1 G2 x nD rs hthA hDd r q => ?_⟩
      have k : Weak w2 ⟨w2.thA, w2.rhA ++ [Dd], w2.H⟩ := weak_take rfl fun _ z => z
      have kr : ∀ (n : Nat) a, w2.rhA[n]? = some a → (w2.rhA ++ [Dd])[n]? = some a := fun n a h => by
        rw [List.getElem?_append_left (List.getElem?_eq_some_iff.mp h).1]; exact h
      obtain ⟨τ, eτ, fτ⟩ := x.rho
      refine q (.ref Dd) ⟨w2.thA, w2.rhA ++ [Dd], w2.H⟩ ⟨⟨τ ++ [Dd], by show w2.rhA ++ [Dd] = _; rw [eτ, List.append_assoc], fun a h => (List.mem_append.mp h).elim (fτ a) fun h => by rw [List.mem_singleton.mp h]; exact hD⟩, x.th1, x.th2, x.kp, x.al⟩
        ⟨?_, fun a h => ?_, G2.al, G2.nt⟩ ⟨Dd, rfl, by show (w2.rhA ++ [Dd])[S2.length]? = some Dd; rw [rs.1]; simp⟩ ⟨by show (S2 ++ [_]).length = (w2.rhA ++ [Dd]).length; simp [rs.1], fun n d e => ?_⟩
      · show (w2.rhA ++ [Dd]).Nodup
        rw [List.nodup_append]
        refine ⟨G2.nd, by simp, fun a ha b hb e => ?_⟩
        rw [List.mem_singleton.mp hb] at e
        exact nD (by rw [← e]; exact ha)
      · rcases List.mem_append.mp h with h | h
        · exact G2.sub a h
        · rw [List.mem_singleton.mp h]; exact hthA
      · by_cases hn : n < S2.length
        · rw [List.getElem?_append_left hn] at e
          obtain ⟨a, h1, h2⟩ := rs.2 n d e
          exact ⟨a, kr n a h1, h2.weakW k kr rfl⟩
        · have hl : n = S2.length := by
            have := (List.getElem?_eq_some_iff.mp e).1
            simp at this
            omega
          subst hl
          simp at e
          subst e
          exact ⟨Dd, by show (w2.rhA ++ [Dd])[S2.length]? = some Dd; rw [rs.1]; simp, vs, hDd, RDs.weakW k kr _ _ r⟩
  obtain ⟨fin, p, hfin⟩ := p0
  refine ⟨w, E, S, a, ?_⟩
  unfold lcRun at p
  cases hmi : mi E S with
  | bad => rw [hmi] at p; exact p.elim
  | exc c fs S1 => rw [hmi] at p; exact p
  | ok src S1 =>
    rw [hmi] at p
    simp only at p
    split at p
    · rename_i hsz
      intro J0 w1 x1 G1 it rs1 Dd hD
      have p1 := PR.at p x1
      have re1 := a.env.mono a.good x1
      have nD : Dd ∉ w1.rhA := fun z => G1.al Dd (G1.sub Dd z) hD
      refine ⟨fun i k H => ∃ w2 acc vs S2, w2.H = H ∧ Good w2 ∧ RS X.g w2 S2 ∧ Ext w1 w2 ∧ Dd ∉ w2.rhA ∧ S1.length ≤ S2.length ∧ w2.thA Dd ∧ H Dd = some (.lst vs) ∧ RDs X.g w2 acc vs ∧ acc.length ≤ i ∧ i + k = src.len ∧ PR X.g Wx σ w1 (RD X.g) Q ((lcGo src t mc me (wipeE E own) S1.length k i acc S2).bind fin),
        ⟨src.len, w1.hide Dd (.lst []), [], [], S1, rfl, hide_good G1 hD, rs1.keep G1 (hide_ext hD) rfl (fun b hb => upd_ne fun e => nD (by rw [← e]; exact hb)), hide_ext hD, nD, Nat.le_refl _, .inr rfl, upd_same, rfl, Nat.zero_le _, by omega, p1⟩, ?_⟩
      rintro i k H ⟨w2, acc, vs, S2, rfl, G2, rs2, x2, hr2, hl2, hthA2, hD2, r2, hai, hik, p2⟩
      cases k with
      | zero =>
        simp only [lcGo] at p2
        split at p2
        · rename_i al
          have hi : i = src.len := by omega
          subst hi
          exact .inl ⟨it.stop w2 S2 x2 rs2 al, hfin w1 acc S2 vs w2 Dd hD G1 G2 x2 hr2 rs2 hthA2 hD2 r2 p2⟩
        · exact p2.elim
      | succ k =>
        simp only [lcGo] at p2
        split at p2
        · rename_i al
          split at p2
          · exact p2.elim
          · rename_i d hd
            split at p2
            · exact p2.elim
            · rename_i E1 hE
              have hlt : i < src.len := by omega
              refine .inr ⟨it.go i w2 S2 d x2 rs2 al hd hlt, fun H' => ∃ w2 acc vs S2, w2.H = H' ∧ Good w2 ∧ RS X.g w2 S2 ∧ Ext w1 w2 ∧ Dd ∉ w2.rhA ∧ S1.length ≤ S2.length ∧ w2.thA Dd ∧ H' Dd = some (.lst vs) ∧ RDs X.g w2 acc vs ∧ acc.length ≤ i + 1 ∧ (i + 1) + k = src.len ∧ PR X.g Wx σ w1 (RD X.g) Q ((lcGo src t mc me (wipeE E own) S1.length k (i + 1) acc S2).bind fin), fun H' hN => ⟨k, Nat.lt_succ_self k, hN⟩, fun x H' hy => ?_⟩
              obtain ⟨w3, rfl, x3, G3, hr3, hthA3, r3, rs3⟩ := it.yld i w2 S2 d x H' x2 G2 rs2 al hd hlt hy
              have nD2 : Dd ∉ w2.rhA := hr2
              have nD3 : Dd ∉ w3.rhA := by rw [hr3]; exact nD2
              have hthAD3 : w3.thA Dd := x3.th1 Dd hthA2
              have hD3 : w3.H Dd = some (.lst vs) := x3.kpT hD2 nD2 hthA2
              have rw3 : RE X.g w3 (wipeE E own) (L2.wipe σ own) := ((re1.mono G1 x2).mono G2 x3).wipe own
              refine ⟨w3, wipeE E own, S2, d, E1, ⟨rfl, G3, rw3, rs3⟩, r3, hE, fun σ' re hk hl => ⟨wipe_eq hsl hk hl, w3, E1, S2, ⟨rfl, G3, re, rs3⟩, ?_⟩⟩
              cases hc : mc E1 S2 with
              | bad => rw [hc] at p2; exact p2.elim
              | exc c fs S3 => rw [hc] at p2; exact p2.elim
              | ok b S3 =>
                rw [hc] at p2
                simp only at p2
                intro b' w4 x4 G4 rb rs4
                obtain rfl : b = b' := rb
                have rho : ∀ (w5 : W), Ext w3 w5 → Dd ∉ w5.rhA := fun w5 x5 z => by
                  obtain ⟨τ, e5, f5⟩ := x5.rho
                  rw [e5] at z
                  rcases List.mem_append.mp z with z | z
                  · exact nD3 z
                  · have := f5 Dd z
                    rw [hD3] at this
                    cases this
                cases b with
                | false =>
                  rw [if_neg Bool.false_ne_true] at p2 ⊢
                  split at p2
                  · rename_i l3
                    exact ⟨w4, acc, vs, S3, rfl, G4, rs4, x2.trans (x3.trans x4), rho w4 x4, l3, x4.th1 Dd hthAD3, x4.kpT hD3 nD3 hthAD3, (r2.mono G2 (x3.trans x4)), by omega, by omega, p2⟩
                  · exact p2.elim
                | true =>
                  rw [if_pos rfl] at p2 ⊢
                  refine ⟨w4, E1, S3, ⟨rfl, G4, re.mono G3 x4, rs4⟩, ?_⟩
                  cases he : me E1 S3 with
                  | bad => rw [he] at p2; exact p2.elim
                  | exc c fs S3 => rw [he] at p2; exact p2.elim
                  | ok z S4 =>
                    rw [he] at p2
                    simp only at p2
                    split at p2
                    · rename_i l4
                      intro y w5 x5 G5 rz rs5
                      have x35 := x4.trans x5
                      have hr5 := rho w5 x35
                      have hthAD5 : w5.thA Dd := x35.th1 Dd hthAD3
                      have hD5 : w5.H Dd = some (.lst vs) := x35.kpT hD3 nD3 hthAD3
                      have r5 : RDs X.g w5 acc vs := r2.mono G2 (x3.trans x35)
                      have hlen := r5.length
                      refine ⟨vs, hD5, by rw [hlen, ← sl_eq]; omega, ?_⟩
                      have kw : Weak w5 { w5 with H := upd w5.H Dd (.lst (vs ++ [y])) } := weak_upd hthAD5
                      have nD5 : Dd ∉ w5.rhA := hr5
                      have x15 := x2.trans (x3.trans x35)
                      refine ⟨{ w5 with H := upd w5.H Dd (.lst (vs ++ [y])) }, acc ++ [z], vs ++ [y], S4, rfl, put_upd G5, rs5.weakW kw rfl (fun b hb => upd_ne fun e => nD5 (by rw [← e]; exact hb)), ⟨x15.rho, x15.th1, x15.th2, fun b o hb nb => ?_, fun b hb => ?_⟩, hr5, l4, hthAD5, upd_same, RDs.weakW kw (fun _ _ h => h) _ _ (r5.append (RDs.one rz)), by simp; omega, by omega, p2⟩
                      · have hne : b ≠ Dd := fun e => by rw [e, hD] at hb; cases hb
                        rcases x15.kp b o hb nb with q | ⟨nt, od, kvs, eo, q⟩
                        · exact .inl ((upd_ne hne).trans q)
                        · exact .inr ⟨nt, od, kvs, eo, (upd_ne hne).trans q⟩
                      · show upd w5.H Dd _ b ≠ none
                        by_cases e : b = Dd
                        · rw [e, upd_same]; simp
                        · rw [upd_ne e]; exact x15.al b hb
                    · exact p2.elim
        · exact p2.elim
    · exact p.elim
theorem de_lc {elt tg iter : Expr} {ifs : List Expr} {scope : Scope} {own : List (Str × Nat)} {mi : MI} {t : Tg} {mc : MT} {me m : ME} (hsl : ∀ i, i ∈ t.slots → i ∈ own.map (·.2)) (hm : (m = eLc (own.map (·.2)) t mi mc me) ∨ (m = eLcL (own.map (·.2)) t mi mc me))
    (h : PE X (.ListComp elt [⟨tg, iter, ifs, 0⟩] scope pos) (tLc (TIof X.g Wx mi) (TGof X.g t) (TTof X.g W0 mc) (TEof X.g W0 me) (own.map (·.2)))) : PE X (.ListComp elt [⟨tg, iter, ifs, 0⟩] scope pos) (TEof X.g Wx m) := peImp h (lcUse hsl hm)
theorem ds_setT {st : Stmt} {i : Nat} {t0 : TE} {me : ME} (h : PS X st (tAsg t0 (gName i))) (f : ∀ σ H Q, TEof X.g Wx me σ H Q → t0 σ H Q) : PS X st (TSof X.g Wx (sSet i me)) := by
  refine psImp h fun D σ H ⟨w, E, S, a, p⟩ => f σ H _ ⟨w, E, S, a, PR.imp (PO_.bind a.good a.env p) fun x H1 ⟨w1, d, S1, a1, x1, r1, p1⟩ => ?_⟩
  have := p1 _ w1 (Ext.refl w1) a1.good (a1.env.set r1) a1.sto
  rw [a1.hp] at this
  exact this
end
end J
set_option Elab.async false
set_option linter.all false
set_option maxRecDepth 100000
set_option maxHeartbeats 1000000
namespace J
open PySem PySem.Spec PyProof.Rows L2
/-! ### calls -/
def PF (g : G) (w : W) (Q : VK) (E : XK) : R D → Prop
  | .ok d S => ∀ v w', Ext w w' → w'.rhA = w.rhA → Good w' → RD g w' d v → RS g w' S → Q v w'.H
  | .exc c fs S => ∀ cls dx w', Ext w w' → w'.rhA = w.rhA → Good w' → RX g w' c fs cls dx → RS g w' S → E cls dx w'.H
  | .bad => False
/-- the promise of a def: what its plain reading gives -/
def spF (g : G) (np : Nat) (F : MF) : Sp := fun vs H Q E => ∃ w ds S, w.H = H ∧ Good w ∧ RDs g w ds vs ∧ RS g w S ∧ ds.length = np ∧ PF g w Q E (F ds S)
theorem spF_len {g : G} {np : Nat} {F : MF} {ps : List Str} (h : ps.length = np) : ∀ vs H Q E, spF g np F vs H Q E → vs.length = ps.length := fun vs H Q E ⟨w, ds, S, _, _, r, _, l, _⟩ => by rw [r.length, l, h]
theorem byRef_ok {g : G} {w : W} : ∀ {ds ds' : List D} {ns : List Nat} {vs : List V} (k : Nat), byRef ds k = some (ds', ns) → RDs g w ds vs →
    ns.Nodup ∧ (∀ n ∈ ns, n < w.rhA.length) ∧ ds'.length = ds.length ∧ ∀ (rhA : List Addr), (∀ (j n : Nat), ns[j]? = some n → rhA[k + j]? = w.rhA[n]?) → RDs g ⟨w.thA, rhA, w.H⟩ ds' vs
  | [], _, _, _, k, h, r => by
    simp only [byRef, Option.some.injEq, Prod.mk.injEq] at h
    obtain ⟨rfl, rfl⟩ := h
    cases r
    exact ⟨List.nodup_nil, by simp, rfl, fun _ _ => rfl⟩
  | d :: ds, ds', ns, vs, k, h, r => by
    obtain ⟨v, us, rfl, r1, r2⟩ := r
    have flatCase : ∀ (hf : d.flat = true), (byRef ds k).map (fun p => (d :: p.1, p.2)) = some (ds', ns) → ns.Nodup ∧ (∀ n ∈ ns, n < w.rhA.length) ∧ ds'.length = (d :: ds).length ∧ ∀ (rhA : List Addr), (∀ (j n : Nat), ns[j]? = some n → rhA[k + j]? = w.rhA[n]?) → RDs g ⟨w.thA, rhA, w.H⟩ ds' (v :: us) := fun hf h => by
      cases e : byRef ds k with
      | none => rw [e] at h; cases h
      | some p =>
        obtain ⟨ds1, ns1⟩ := p
        rw [e] at h
        simp only [Option.map_some, Option.some.injEq, Prod.mk.injEq] at h
        obtain ⟨rfl, rfl⟩ := h
        obtain ⟨n1, n2, n3, n4⟩ := byRef_ok k e r2
        refine ⟨n1, n2, by simp [n3], fun rhA hrhA => RDs.cons ?_ (n4 rhA hrhA)⟩
        exact RD.flatW (weak_take (w := w) (w' := ⟨w.thA, rhA, w.H⟩) rfl fun _ z => z) _ _ hf r1
    cases d with
    | loc n =>
      simp only [byRef] at h
      cases e : byRef ds (k + 1) with
      | none => rw [e] at h; cases h
      | some p =>
        obtain ⟨ds1, ns1⟩ := p
        rw [e] at h
        simp only [Option.bind_some] at h
        split at h
        · cases h
        · rename_i hc
          simp only [Option.some.injEq, Prod.mk.injEq] at h
          obtain ⟨rfl, rfl⟩ := h
          obtain ⟨n1, n2, n3, n4⟩ := byRef_ok (k + 1) e r2
          obtain ⟨a, rfl, ha⟩ := r1
          refine ⟨List.nodup_cons.mpr ⟨by simpa using hc, n1⟩, fun m hm => ?_, by simp [n3], fun rhA hrhA => RDs.cons ⟨a, rfl, ?_⟩ (n4 rhA fun j m hj => ?_)⟩
          · rcases List.mem_cons.mp hm with rfl | hm
            · exact (List.getElem?_eq_some_iff.mp ha).1
            · exact n2 m hm
          · have := hrhA 0 n (by simp)
            rw [Nat.add_zero] at this
            show rhA[k]? = some a
            rw [this]; exact ha
          · have := hrhA (j + 1) m (by simpa using hj)
            rw [← this]
            congr 1
            omega
    | non => exact flatCase rfl (by simpa only [byRef, D.flat, if_true] using h)
    | bl b => exact flatCase rfl (by simpa only [byRef, D.flat, if_true] using h)
    | int b => exact flatCase rfl (by simpa only [byRef, D.flat, if_true] using h)
    | str b => exact flatCase rfl (by simpa only [byRef, D.flat, if_true] using h)
    | ty b => exact flatCase rfl (by simpa only [byRef, D.flat, if_true] using h)
    | tup b =>
      simp only [byRef] at h
      split at h
      · rename_i hf; exact flatCase hf h
      · cases h
    | lst b =>
      simp only [byRef] at h
      split at h
      · rename_i hf; exact flatCase hf h
      · cases h
    | rdl b =>
      simp only [byRef] at h
      split at h
      · rename_i hf; exact flatCase hf h
      · cases h
    | dct ks b =>
      simp only [byRef] at h
      split at h
      · rename_i hf; exact flatCase hf h
      · cases h
    | dcT ks b =>
      simp only [byRef] at h
      split at h
      · rename_i hf; exact flatCase hf h
      · cases h
    | tuk b =>
      simp only [byRef] at h
      split at h
      · rename_i hf; exact flatCase hf h
      · cases h
theorem mapM_some {α β : Type} {f : α → Option β} : ∀ {l : List α} {r : List β}, l.mapM f = some r → r.length = l.length ∧ ∀ (j : Nat) x, l[j]? = some x → ∃ y, r[j]? = some y ∧ f x = some y
  | [], r, h => by
    simp at h
    subst h
    exact ⟨rfl, by simp⟩
  | x :: l, r, h => by
    rw [List.mapM_cons] at h
    cases e : f x with
    | none => rw [e] at h; cases h
    | some y =>
      rw [e] at h
      cases e2 : l.mapM f with
      | none => rw [e2] at h; cases h
      | some ys =>
        rw [e2] at h
        cases h
        obtain ⟨h1, h2⟩ := mapM_some e2
        refine ⟨by simp [h1], fun j z hj => ?_⟩
        cases j with
        | zero => simp at hj; subst hj; exact ⟨y, rfl, e⟩
        | succ j => exact h2 j z (by simpa using hj)
theorem setAll_len : ∀ (S : List D) (ns : List Nat) (T : List D), (setAll S ns T).length = S.length
  | S, [], _ => by cases ‹List D› <;> rfl
  | S, n :: ns, [] => rfl
  | S, n :: ns, d :: T => by
    show (setAll (S.set n d) ns T).length = _
    rw [setAll_len, List.length_set]
theorem setAll_get : ∀ {S : List D} {ns : List Nat} {T : List D} (m : Nat), ns.Nodup → T.length = ns.length → (∀ n ∈ ns, n < S.length) → (setAll S ns T)[m]? = match ns.idxOf? m with | some j => T[j]? | none => S[m]?
  | S, [], T, m, _, _, _ => by cases T <;> simp [setAll]
  | S, n :: ns, [], m, _, hl, _ => by simp at hl
  | S, n :: ns, d :: T, m, hn, hl, hb => by
    obtain ⟨h1, h2⟩ := List.nodup_cons.mp hn
    show (setAll (S.set n d) ns T)[m]? = _
    rw [setAll_get m h2 (by simpa using hl) (fun k hk => by rw [List.length_set]; exact hb k (List.mem_cons_of_mem _ hk))]
    rw [List.idxOf?_cons]
    by_cases hm : n = m
    · subst hm
      have : ns.idxOf? n = none := by rw [List.idxOf?_eq_none_iff]; exact h1
      rw [this]
      simp only [BEq.rfl, if_true]
      rw [List.getElem?_set_self (hb n List.mem_cons_self)]
      rfl
    · have hb' : (n == m) = false := by simpa using hm
      rw [hb']
      cases e : ns.idxOf? m with
      | none => simp [List.getElem?_set_ne hm]
      | some j => simp
/-- behind a call: the caller's world -/
theorem back_ok {g : G} {w1 wc wc' : W} {S1 S' : List D} {ns : List Nat} (G1 : Good w1) (rs : RS g w1 S1) (hn : ns.Nodup) (hb : ∀ n ∈ ns, n < w1.rhA.length) (hH : wc.H = w1.H) (hthA : wc.thA = w1.thA)
    (hrhA : wc.rhA.length = ns.length) (hrhA2 : ∀ (j n : Nat), ns[j]? = some n → wc.rhA[j]? = w1.rhA[n]?) (x : Ext wc wc') (hr : wc'.rhA = wc.rhA) (G' : Good wc') (rs' : RS g wc' S') (hl : S'.length = ns.length) (hf : S'.all D.flat = true) :
    Ext w1 ⟨wc'.thA, w1.rhA, wc'.H⟩ ∧ Good ⟨wc'.thA, w1.rhA, wc'.H⟩ ∧ RS g ⟨wc'.thA, w1.rhA, wc'.H⟩ (setAll S1 ns S') := by
  have sub : ∀ a, a ∈ wc.rhA → a ∈ w1.rhA := fun a ha => by
    obtain ⟨j, hj⟩ := List.mem_iff_getElem?.mp ha
    have hjl : j < ns.length := by rw [← hrhA]; exact (List.getElem?_eq_some_iff.mp hj).1
    have e := hrhA2 j ns[j] (List.getElem?_eq_getElem hjl)
    rw [hj] at e
    exact List.mem_of_getElem? e.symm
  have x1 : Ext w1 ⟨wc'.thA, w1.rhA, wc'.H⟩ := by
    refine ⟨⟨[], by simp, by simp⟩, fun a h => x.th1 a (by rw [hthA]; exact h), fun a h => ?_, fun a o h n => (x.kp a o (by rw [hH]; exact h) fun z => n (sub a z)).imp id (fun ⟨nt, q⟩ => ⟨by rw [← hthA]; exact nt, q⟩), fun a h => x.al a (by rw [hH]; exact h)⟩
    rcases x.th2 a h with z | z
    · rw [hthA] at z; exact .inl z
    · rw [hH] at z; exact .inr z
  have G1' : Good ⟨wc'.thA, w1.rhA, wc'.H⟩ := ⟨G1.nd, fun a h => x.th1 a (by rw [hthA]; exact G1.sub a h), G'.al, G'.nt⟩
  refine ⟨x1, G1', by rw [setAll_len]; exact rs.1, fun m d e => ?_⟩
  rw [setAll_get m hn hl (fun n h => by rw [rs.1]; exact hb n h)] at e
  cases q : ns.idxOf? m with
  | some j =>
    rw [q] at e
    simp only at e
    have hj : ns[j]? = some m := by
      have := List.idxOf?_eq_some_iff.mp q
      obtain ⟨hlt, hq, _⟩ := this
      rw [List.getElem?_eq_getElem hlt]
      simpa using hq
    obtain ⟨a, h1, h2⟩ := rs'.2 j d e
    refine ⟨a, ?_, h2.flatW (weak_take (w := wc') (w' := ⟨wc'.thA, w1.rhA, wc'.H⟩) rfl fun _ z => z) (allFlat hf e) rfl⟩
    show w1.rhA[m]? = some a
    rw [← hrhA2 j m hj, ← hr]
    exact h1
  | none =>
    rw [q] at e
    simp only at e
    have hm : m ∉ ns := by rwa [List.idxOf?_eq_none_iff] at q
    obtain ⟨a, h1, h2⟩ := rs.2 m d e
    refine ⟨a, h1, h2.mono G1 x1 ?_⟩
    have na : a ∉ wc.rhA := fun ha => by
      obtain ⟨j, hj⟩ := List.mem_iff_getElem?.mp ha
      have hjl : j < ns.length := by rw [← hrhA]; exact (List.getElem?_eq_some_iff.mp hj).1
      have e := hrhA2 j ns[j] (List.getElem?_eq_getElem hjl)
      rw [hj] at e
      have := nd_ix G1.nd h1 e.symm
      exact hm (by rw [this]; exact List.getElem_mem hjl)
    show wc'.H a = w1.H a
    rcases none_or (H := w1.H) a with z | ⟨o, z⟩
    · exact absurd z h2.there
    · rw [z]; exact x.kpT (by rw [hH]; exact z) na (by rw [hthA]; exact G1.sub a (List.mem_of_getElem? h1))
/-- a def that may be called by its name -/
structure Fok (P : Program) (wd : World) (g : G) (base : Heap) (k : Nat) (x : Str) (np : Nat) (F : MF) : Prop where
  ex : ∃ (f : Addr) (fd : FuncData) (ps : List Str), FnOk P wd g.K g.mg base (L2.CX P wd) k f fd ps (spF g np F) ∧ g.mg x = some (.ref f) ∧ PySem.W.keepIn g.K (.ref f) = true ∧ Binds g.K fd ps []
theorem Fok.mono {P : Program} {wd : World} {g : G} {base : Heap} {j k : Nat} {x : Str} {np : Nat} {F : MF} (h : Fok P wd g base j x np F) (hk : j ≤ k) : Fok P wd g base k x np F := by
  obtain ⟨f, fd, ps, a, b⟩ := h.ex
  exact ⟨f, fd, ps, a.mono hk, b⟩
section
variable {X : Cx} {Wx : WX} {pos : Pos}
theorem allSnd : ∀ {fs : List (Str × D)}, fs.all (fun p => p.2.flat) = true → D.flats (fs.map (·.2)) = true
  | [], _ => rfl
  | p :: fs, f => by
    rw [List.all_cons, Bool.and_eq_true] at f
    simp only [List.map_cons, D.flats, Bool.and_eq_true]
    exact ⟨f.1, allSnd f.2⟩
theorem RX.flatW {g : G} {w w' : W} (k : Weak w w') {c : Str} {fs : List (Str × D)} {cls : Value} {dx : Option Addr} (f : fs.all (fun p => p.2.flat) = true) (h : RX g w c fs cls dx) : RX g w' c fs cls dx := by
  obtain ⟨C, h1, h2, h3⟩ := h
  refine ⟨C, h1, h2, h3.imp id fun ⟨d, vs, e0, e, hd, n, r⟩ => ⟨d, vs, e0, e, k.H d _ hd n, k.thA d _ hd n, RDs.flatW k _ _ ?_ r⟩⟩
  exact allSnd f
theorem callUse {np : Nat} {F : MF} (hnp : True) : ∀ (σ : L2.St) (w1 : W) (ds S1 : List D) (vs : List V) (Q : VK), Good w1 → RDs X.g w1 ds vs → RS X.g w1 S1 → ds.length = np → PR X.g Wx σ w1 (RD X.g) Q (callF F ds S1) → spF X.g np F vs w1.H Q (WE Wx σ) := fun σ w1 ds S1 vs Q G1 r rs hl p => by
  unfold callF at p
  split at p
  · exact p.elim
  · rename_i ds' ns hb
    obtain ⟨n1, n2, n3, n4⟩ := byRef_ok 0 hb r
    split at p
    · exact p.elim
    · rename_i Sc hm
      obtain ⟨m1, m2⟩ := mapM_some hm
      split at p
      · rename_i hfl
        have hrhA : ∀ (j n : Nat), ns[j]? = some n → (ns.map fun n => w1.rhA.getD n 0)[j]? = w1.rhA[n]? := fun j n hj => by
          have hn := n2 n (List.mem_of_getElem? hj)
          rw [List.getElem?_map, hj, Option.map_some, List.getD_eq_getElem?_getD, List.getElem?_eq_getElem hn]
          rfl
        have r' := n4 (ns.map fun n => w1.rhA.getD n 0) (fun j n hj => by rw [Nat.zero_add]; exact hrhA j n hj)
        have Gc : Good ⟨w1.thA, ns.map fun n => w1.rhA.getD n 0, w1.H⟩ := by
          refine ⟨?_, fun a ha => ?_, G1.al, G1.nt⟩
          · show (ns.map fun n => w1.rhA.getD n 0).Nodup
            refine List.pairwise_map.mpr (List.Pairwise.imp_of_mem (fun {a b} ha hb hab e => hab ?_) n1)
            have b1 := n2 a ha
            have b2 := n2 b hb
            rw [List.getD_eq_getElem?_getD, List.getD_eq_getElem?_getD, List.getElem?_eq_getElem b1, List.getElem?_eq_getElem b2] at e
            exact nd_ix G1.nd (List.getElem?_eq_getElem b1) (by rw [List.getElem?_eq_getElem b2]; exact congrArg some e.symm)
          · obtain ⟨n, hn, rfl⟩ := List.mem_map.mp ha
            have hb := n2 n hn
            apply G1.sub
            rw [List.getD_eq_getElem?_getD, List.getElem?_eq_getElem hb]
            exact List.getElem_mem hb
        have rsc : RS X.g ⟨w1.thA, ns.map fun n => w1.rhA.getD n 0, w1.H⟩ Sc := by
          refine ⟨by rw [m1, List.length_map], fun j d e => ?_⟩
          have hj : j < ns.length := by rw [← m1]; exact (List.getElem?_eq_some_iff.mp e).1
          obtain ⟨y, hy, hy2⟩ := m2 j ns[j] (List.getElem?_eq_getElem hj)
          rw [e] at hy
          cases hy
          obtain ⟨a, h1, h2⟩ := rs.2 ns[j] d hy2
          refine ⟨a, ?_, h2.flatW (weak_take (w := w1) (w' := ⟨w1.thA, ns.map fun n => w1.rhA.getD n 0, w1.H⟩) rfl fun _ z => z) (allFlat hfl e) rfl⟩
          show (ns.map fun n => w1.rhA.getD n 0)[j]? = some a
          rw [hrhA j ns[j] (List.getElem?_eq_getElem hj)]
          exact h1
        refine ⟨⟨w1.thA, ns.map fun n => w1.rhA.getD n 0, w1.H⟩, ds', Sc, rfl, Gc, r', rsc, by rw [n3]; exact hl, ?_⟩
        cases hF : F ds' Sc with
        | bad => rw [hF] at p; exact p.elim
        | exc c fs S' =>
          rw [hF] at p
          simp only at p
          split at p
          · rename_i hh
            intro cls dx wc' x hr G' rx rs'
            obtain ⟨b1, b2, b3⟩ := back_ok (wc := ⟨w1.thA, ns.map fun n => w1.rhA.getD n 0, w1.H⟩) G1 rs n1 n2 rfl rfl (by show (ns.map _).length = _; rw [List.length_map]) hrhA x hr G' rs' hh.1 hh.2.1
            exact p cls dx ⟨wc'.thA, w1.rhA, wc'.H⟩ b1 b2 (RX.flatW (weak_take (w := wc') (w' := ⟨wc'.thA, w1.rhA, wc'.H⟩) rfl fun _ z => z) hh.2.2 rx) b3
          · exact p.elim
        | ok d S' =>
          rw [hF] at p
          simp only at p
          split at p
          · rename_i hh
            intro v wc' x hr G' rd rs'
            obtain ⟨b1, b2, b3⟩ := back_ok (wc := ⟨w1.thA, ns.map fun n => w1.rhA.getD n 0, w1.H⟩) G1 rs n1 n2 rfl rfl (by show (ns.map _).length = _; rw [List.length_map]) hrhA x hr G' rs' hh.2.1 hh.2.2
            exact p v ⟨wc'.thA, w1.rhA, wc'.H⟩ b1 b2 (RD.flatW (weak_take (w := wc') (w' := ⟨wc'.thA, w1.rhA, wc'.H⟩) rfl fun _ z => z) _ _ hh.1 rd) b3
          · exact p.elim
      · exact p.elim
theorem de_call {x : Str} {k j np : Nat} {F : MF} {p : Pos} {e : Expr} {es : List Expr} {mr : MA} (h : Fok X.prog X.w X.g X.base k x np F) (hk : k ≤ j) (hr : Room j X.A) (tk : Takes X Wx) (hg : Gl X x) (hln : (e :: es).length = np) (ha : PA X (e :: es) (TAof X.g Wx mr))
    (hdb : (x == ("__debug__" : Str)) = false := by decide) (he : starEach (e :: es) X.env = (false, eval e X.env) :: starEach es X.env := by rfl) (hpl : (backTo pos (starEach es X.env)).any (·.1) = false := by rfl)
    (hlen : ∀ E S ds S', mr E S = .ok ds S' → ds.length = np) : PE X (.Call (.Name x p) (e :: es) [] pos) (TEof X.g Wx (eArgs (callF F) mr)) := by
  obtain ⟨f, fd, ps, hF, hm, kp, b⟩ := h.ex
  refine peImp (pe_callS hF (hr.mono hk) hg hm kp b (fun σ => passAt tk σ) ha hdb he hpl) fun σ H Q ⟨w, E, S, a, p⟩ => ?_
  refine ⟨w, E, S, a, ?_⟩
  have p' : PR X.g Wx σ w (RD X.g) Q ((mr E S).bind fun xs S1 => callF F xs S1) := p
  cases hm : mr E S with
  | bad => rw [hm] at p'; exact p'.elim
  | exc c fs S1 => rw [hm] at p'; exact p'
  | ok ds S1 =>
    rw [hm] at p'
    intro vs w1 x1 G1 r rs
    have p2 : PR X.g Wx σ w1 (RD X.g) Q (callF F ds S1) := PR.at p' x1
    exact callUse trivial σ w1 ds S1 vs Q G1 r rs (hlen _ _ _ _ hm) p2
/-- how many arguments there are -/
theorem alen_nil : ∀ E S ds S', aNil E S = .ok ds S' → ds.length = 0 := fun E S ds S' h => by cases h; rfl
theorem alen_cons {ma : ME} {mr : MA} {n : Nat} (h : ∀ E S ds S', mr E S = .ok ds S' → ds.length = n) : ∀ E S ds S', aCons ma mr E S = .ok ds S' → ds.length = n + 1 := fun E S ds S' q => by
  unfold aCons at q
  cases e : ma E S with
  | bad => rw [e] at q; cases q
  | exc c fs S1 => rw [e] at q; cases q
  | ok d S1 =>
    rw [e] at q
    simp only [bind_ok] at q
    cases e2 : mr E S1 with
    | bad => rw [e2] at q; cases q
    | exc c fs S2 => rw [e2] at q; cases q
    | ok es S2 =>
      rw [e2] at q
      cases q
      simp [h _ _ _ _ e2]
/-! ### defs -/
theorem fz_ok {g : G} {w w1 : W} (G0 : Good w) (G1 : Good w1) (x : Ext w w1) {S : List D} (rs : RS g w1 S) : ∀ (n : Nat) (d d' : D) (v : V), fz w.rhA.length S n d = some d' → RD g w1 d v → RD g ⟨w.thA, w.rhA, w1.H⟩ d' v
  | 0, _, _, _, h, _ => by cases h
  | n + 1, d, d', v, h, r => by
    have kw : Weak w1 ⟨w.thA, w.rhA, w1.H⟩ := weak_take rfl x.th1
    unfold fz at h
    split at h
    · rename_i hf
      cases h
      exact RD.flatW kw _ _ hf r
    · have many : ∀ (ds ds' : List D) (vs : List V), ds.mapM (fz w.rhA.length S n) = some ds' → RDs g w1 ds vs → RDs g ⟨w.thA, w.rhA, w1.H⟩ ds' vs := fun ds => by
        induction ds with
        | nil =>
          intro ds' vs e r
          simp at e
          subst e
          cases r
          rfl
        | cons d0 ds ih =>
          intro ds' vs e r
          obtain ⟨u, us, rfl, r1, r2⟩ := r
          rw [List.mapM_cons] at e
          cases e1 : fz w.rhA.length S n d0 with
          | none => rw [e1] at e; cases e
          | some d1 =>
            rw [e1] at e
            cases e2 : ds.mapM (fz w.rhA.length S n) with
            | none => rw [e2] at e; cases e
            | some ds1 =>
              rw [e2] at e
              cases e
              exact RDs.cons (fz_ok G0 G1 x rs n d0 d1 u e1 r1) (ih ds1 us e2 r2)
      split at h
      · rename_i m _
        split at h
        · cases h
        · rename_i hm
          obtain ⟨a, rfl, ha⟩ := r
          have nthA : ¬ w.thA a := fun z => by
            obtain ⟨τ, e1, f1⟩ := x.rho
            rw [e1, List.getElem?_append_right (by omega)] at ha
            have := f1 a (List.mem_of_getElem? ha)
            exact G0.al a z this
          split at h
          · rename_i ds e
            cases q : ds.mapM (fz w.rhA.length S n) with
            | none => rw [q] at h; cases h
            | some ds1 =>
              rw [q] at h
              cases h
              obtain ⟨vs, h1, h2⟩ := rs.obj ha e
              exact ⟨a, vs, rfl, h1, nthA, many _ _ _ q h2⟩
          · rename_i ks ds e
            cases q : ds.mapM (fz w.rhA.length S n) with
            | none => rw [q] at h; cases h
            | some ds1 =>
              rw [q] at h
              cases h
              obtain ⟨vs, h1, l, h2⟩ := rs.obj ha e
              exact ⟨a, vs, rfl, .inl h1, l, nthA, many _ _ _ q h2⟩
          · rename_i ks ds e
            cases q : ds.mapM (fz w.rhA.length S n) with
            | none => rw [q] at h; cases h
            | some ds1 =>
              rw [q] at h
              cases h
              obtain ⟨vs, h1, l, h2⟩ := rs.obj ha e
              exact ⟨a, vs, rfl, .inl h1, l, nthA, many _ _ _ q h2⟩
          · cases h
      · rename_i ds _
        cases q : ds.mapM (fz w.rhA.length S n) with
        | none => rw [q] at h; cases h
        | some ds1 =>
          rw [q] at h
          cases h
          obtain ⟨a, vs, rfl, t, r2⟩ := r
          exact ⟨a, vs, rfl, kw.tup t, many _ _ _ q r2⟩
      · rename_i ds _
        cases q : ds.mapM (fz w.rhA.length S n) with
        | none => rw [q] at h; cases h
        | some ds1 =>
          rw [q] at h
          cases h
          obtain ⟨a, vs, rfl, t, nn, r2⟩ := r
          exact ⟨a, vs, rfl, t, fun z => nn (x.th1 a z), many _ _ _ q r2⟩
      · cases h
/-- back in the caller's hands -/
theorem ret_ext {w w1 : W} (x : Ext w w1) : Ext w ⟨w.thA, w.rhA, w1.H⟩ := ⟨⟨[], by simp, by simp⟩, fun _ h => h, fun _ h => .inl h, x.kp, x.al⟩
theorem ret_good {w w1 : W} (G0 : Good w) (G1 : Good w1) (x : Ext w w1) : Good ⟨w.thA, w.rhA, w1.H⟩ := ⟨G0.nd, G0.sub, fun a h => x.al a (G0.al a h), fun a h => G1.nt a (x.th1 a h)⟩
theorem ret_store {g : G} {w w1 : W} {S1 : List D} (x : Ext w w1) (rs : RS g w1 S1) (hn : w.rhA.length ≤ S1.length) (hf : (S1.take w.rhA.length).all D.flat = true) : RS g ⟨w.thA, w.rhA, w1.H⟩ (S1.take w.rhA.length) := by
  obtain ⟨τ, e1, f1⟩ := x.rho
  refine take_store (w := w1) (weak_take rfl x.th1) rfl ?_ hn hf rs
  show w.rhA = w1.rhA.take w.rhA.length
  rw [e1, List.take_append_of_le_length (Nat.le_refl _), List.take_of_length_le (Nat.le_refl _)]
theorem RE.start {g : G} {w : W} {ds : List D} {vs : List V} (r : RDs g w ds vs) (nn : Nat) : RE g w (ds.map some ++ List.replicate (nn - ds.length) none) (vs.map some ++ List.replicate (nn - vs.length) none) := by
  have hl := r.length
  refine ⟨by simp [hl], fun i d e => ?_⟩
  by_cases hi : i < ds.length
  · rw [List.getElem?_append_left (by simpa using hi), List.getElem?_map, List.getElem?_eq_getElem hi] at e
    simp only [Option.map_some, Option.some.injEq] at e
    obtain ⟨v, h1, h2⟩ := r.get (List.getElem?_eq_getElem hi)
    subst e
    refine ⟨v, ?_, h2⟩
    rw [List.getElem?_append_left (by simpa [hl] using hi), List.getElem?_map, h1]
    rfl
  · rw [List.getElem?_append_right (by simpa using hi), List.getElem?_replicate] at e
    split at e <;> cases e
/-- the context of a body: what it may let out, that it passes on its own frame's errors, room for the calls -/
structure Ctx (X : Cx) (Wx : WX) (k : Nat) : Prop where
  tk : Takes X Wx
  po : PassesOwn (model X.prog X.w) X.A X.env X.xe
  calm : X.calm = true
  hr : Room k X.A
theorem Ctx.u1 {X : Cx} {Wx : WX} {k : Nat} (c : Ctx X Wx k) : X.A.units + 1 < cLine := hu_of c.hr
theorem Ctx.u64 {X : Cx} {Wx : WX} {k : Nat} (c : Ctx X Wx k) : X.A.units + 64 < cLine := c.hr.units
theorem Ctx.blk {X : Cx} {Wx : WX} {k : Nat} (c : Ctx X Wx k) (s : Shared) (H : Hp) (scope : Scope) (ce : PySem.Env) (fp : List Addr) : Ctx (X.blk s H scope ce fp) W0 k := ⟨takes0, PassesOwn.never, c.calm, c.hr⟩
/-- the context of the body of the def x -/
abbrev bodyCx (P : Program) (wd : World) (K : PySem.W.Frag) (mg : Str → Option Value) (base : Heap) (N : List Str) (x : Str) (st : Stmt) (f : Addr) (cdv : Value) (A : Around) (outer : List PySem.Env) (s : Shared) (H : Hp) (E : XK) : Cx := cxOf (L2.CX P wd) P wd K mg base N x (defScope st) f cdv A outer s H E
theorem fn_ok {P : Program} {wd : World} {K : PySem.W.Frag} {mg : Str → Option Value} {base : Heap} {x : Str} {st : Stmt} {f : Addr} {fd : FuncData} {N ps : List Str} {k np nn : Nat} {mb : MS} (F : Fun K x x st f fd) (S : FnScope N ps (defScope st))
    (hbody : ∀ (cdv : Value) (A : Around) (outer : List PySem.Env) (s : Shared) (H : Hp) (E : XK), Ctx (bodyCx P wd K mg base N x st f cdv A outer s H E) (fun cls d _ H => E cls d H) k → PSs (bodyCx P wd K mg base N x st f cdv A outer s H E) (defBody st) (TSof ⟨K, mg⟩ (fun cls d _ H => E cls d H) mb))
    (hnp : ps.length = np := by rfl) (hnn : N.length = nn := by rfl) : FnOk P wd K mg base (L2.CX P wd) (k + 1) f fd ps (spF ⟨K, mg⟩ np (fnF np nn mb)) := by
  subst hnp hnn
  refine F.okX S (spF_len rfl) (fun cdv A outer s H vs Q E hr h => ?_)
  obtain ⟨w, ds, S0, rfl, G0, r, rs, hl, p⟩ := h
  refine ⟨_, hbody cdv A outer s w.H E ⟨takes_of rfl rfl rfl rfl, passes_of rfl, rfl, hr⟩, ?_⟩
  have hn : w.rhA.length = S0.length := rs.1.symm
  refine ⟨w, ds.map some ++ List.replicate (N.length - ds.length) none, S0, ⟨rfl, G0, RE.start r N.length, rs⟩, ?_⟩
  unfold fnF at p
  rw [if_pos hl] at p
  rw [hl]
  cases hb : mb (ds.map some ++ List.replicate (N.length - ps.length) none) S0 with
  | bad => rw [hb] at p; exact p.elim
  | bk E S => rw [hb] at p; exact p.elim
  | ct E S => rw [hb] at p; exact p.elim
  | nx E1 S1 =>
    rw [hb] at p
    simp only [retF] at p
    rw [← hn] at p
    split at p
    · rename_i hh
      split at p
      · rename_i d' hd
        intro σ' w1 x G1 re rs1
        exact p .non ⟨w.thA, w.rhA, w1.H⟩ (ret_ext x) rfl (ret_good G0 G1 x) (fz_ok G0 G1 x rs1 8 .non d' .non hd rfl) (ret_store x rs1 hh.1 hh.2)
      · exact p.elim
    · exact p.elim
  | rt d S1 =>
    rw [hb] at p
    simp only [retF] at p
    rw [← hn] at p
    split at p
    · rename_i hh
      split at p
      · rename_i d' hd
        intro v w1 x G1 rd rs1
        exact p v ⟨w.thA, w.rhA, w1.H⟩ (ret_ext x) rfl (ret_good G0 G1 x) (fz_ok G0 G1 x rs1 8 d d' v hd rd) (ret_store x rs1 hh.1 hh.2)
      · exact p.elim
    · exact p.elim
  | exc c fs E1 S1 =>
    rw [hb] at p
    simp only [excF] at p
    rw [← hn] at p
    split at p
    · rename_i hh
      intro cls dx σ' w1 x G1 rx re rs1
      exact p cls dx ⟨w.thA, w.rhA, w1.H⟩ (ret_ext x) rfl (ret_good G0 G1 x) (RX.flatW (weak_take (w := w1) (w' := ⟨w.thA, w.rhA, w1.H⟩) rfl x.th1) hh.2.2 rx) (ret_store x rs1 hh.1 hh.2.1)
    · exact p.elim
theorem fok_of {P : Program} {wd : World} {K : PySem.W.Frag} {mg : Str → Option Value} {base : Heap} {x : Str} {st : Stmt} {f : Addr} {fd : FuncData} {N ps : List Str} {k np nn : Nat} {mb : MS} (F : Fun K x x st f fd) (S : FnScope N ps (defScope st)) (hm : mg x = some (.ref f)) (b : Binds K fd ps [])
    (hbody : ∀ (cdv : Value) (A : Around) (outer : List PySem.Env) (s : Shared) (H : Hp) (E : XK), Ctx (bodyCx P wd K mg base N x st f cdv A outer s H E) (fun cls d _ H => E cls d H) k → PSs (bodyCx P wd K mg base N x st f cdv A outer s H E) (defBody st) (TSof ⟨K, mg⟩ (fun cls d _ H => E cls d H) mb))
    (hnp : ps.length = np := by rfl) (hnn : N.length = nn := by rfl) : Fok P wd ⟨K, mg⟩ base (k + 1) x np (fnF np nn mb) := ⟨f, fd, ps, fn_ok F S hbody hnp hnn, hm, F.kp, b⟩
end
end J
set_option Elab.async false
set_option linter.all false
set_option maxRecDepth 100000
set_option maxHeartbeats 1000000
namespace J
open PySem PySem.Spec PyProof.Rows L2
section
variable {X : Cx} {Wx : WX} {pos : Pos}
theorem kit_all : ∀ t ∈ ["NoneType", "bool", "int", "str", "tuple", "list", "dict"], ∀ n ∈ isiNames, kitB t n = some (isiB t n) := by decide +kernel
def TyW (K : PySem.W.Frag) (H : Hp) (x : V) (t : Value) : Prop := TyX K H x t ∨ ∃ a kvs, x = .ref a ∧ Rd H a (.dK kvs) ∧ t = .type "dict"
theorem kit_w {pins : List (Addr × Obj)} {σ : L2.St} {H : Hp} {s : Shared} {x : V} {u t : Value} (I : Inv X pins σ H s) (rx : RelV x u) (ty : TyW X.K H x t) : ∃ P : Heap → Prop, PySem.W.KitX X.K u t P ∧ P s.heap ∧ u ≠ .builtin "__main__.__loader__#opaque" := by
  rcases ty with ty | ⟨a, kvs, rfl, ea, rfl⟩
  · exact kit_of I rx ty
  · cases (show u = Value.ref a from rx)
    obtain ⟨_, _, vs, _, p⟩ := dk_rd I.hok ea
    obtain ⟨o, es, ep, h1, h2, _⟩ := p
    exact ⟨_, PySem.W.kitx_dict, ⟨o, h1, h2.1⟩, fun z => nomatch z⟩
theorem call_isiW : CallR X (.builtin "isinstance") (fun xs H Q => ∃ (x c : V) (t u : Value) (b : Bool), xs = [x, c] ∧ ClsV c u ∧ TyW X.K H x t ∧ PySem.W.kitOne X.K t u = some b ∧ Q (.bl b) H) := by
  intro pins s σ H xs us Q I r h
  obtain ⟨x, c, t, u, b, rfl, k, ty, e, q⟩ := h
  obtain ⟨u1, u2, rfl, r1, r2⟩ := vals2 r
  have e2 := k.eq r2
  subst e2
  obtain ⟨P, Z, p, hx⟩ := kit_w I r1 ty
  exact PySem.W.kia_one Z I.kIn p e hx fun tk => ⟨.bl b, H, I.tok tk, rfl, q⟩
theorem call_isiTW : CallR X (.builtin "isinstance") (fun xs H Q => ∃ (x : V) (tp : Addr) (cs : List V) (t : Value) (us : List Value) (b : Bool), xs = [x, .ref tp] ∧ H tp = some (.tup cs) ∧ Paired ClsV cs us ∧ TyW X.K H x t ∧ PySem.W.kitAny X.K t us = some b ∧ Q (.bl b) H) := by
  intro pins s σ H xs us Q I r h
  obtain ⟨x, tp, cs, t, ws, b, rfl, hT, k, ty, e, q⟩ := h
  obtain ⟨u1, u2, rfl, r1, r2⟩ := vals2 r
  cases (show u2 = Value.ref tp from r2)
  obtain ⟨P, Z, p, hx⟩ := kit_w I r1 ty
  obtain ⟨_, its, rv, o, h1, h2, n, h3⟩ := (show ObjOk X.prog X.w H s.heap tp (.tup cs) from I.hok tp _ hT)
  have e3 := ClsV.all k rv
  subst e3
  obtain ⟨oc, od, dt, sl⟩ := o
  simp only at h2 h3
  subst h2 h3
  exact PySem.W.kia_tup Z I.kIn p h1 e hx fun tk => ⟨.bl b, H, I.tok tk, rfl, q⟩
theorem tyX_of {g : G} {w : W} {S : List D} {d : D} {v : V} {t : String} (rs : RS g w S) (r : RD g w d v) (h : tyOf S d = some t) : TyW g.K w.H v (.type t) ∧ t ∈ ["NoneType", "bool", "int", "str", "tuple", "list", "dict"] := by
  cases d with
  | non => cases h; cases r; exact ⟨.inl (.base .non), by decide⟩
  | bl b => cases h; cases r; exact ⟨.inl (.base (.bl b)), by decide⟩
  | int b => cases h; cases r; exact ⟨.inl (.base (.int b)), by decide⟩
  | str b => cases h; cases r; exact ⟨.inl (.base (.str b)), by decide⟩
  | ty b => cases h
  | tup ds =>
    cases h
    obtain ⟨a, vs, rfl, t, r⟩ := r
    exact ⟨.inl (.base (.tup t.1)), by decide⟩
  | lst ds =>
    cases h
    obtain ⟨a, vs, rfl, t, _, r⟩ := r
    exact ⟨.inl (.base (.lst t)), by decide⟩
  | rdl ds =>
    cases h
    obtain ⟨a, vs, rfl, t, r⟩ := r
    rcases t with ⟨t | ⟨o, t⟩, _⟩ | ⟨o, its, n, hk, hc, _⟩
    · exact ⟨.inl (.base (.lst t)), by decide⟩
    · exact ⟨.inl (.base (.frz t)), by decide⟩
    · exact ⟨.inl (.kList hk hc), by decide⟩
  | dct ks ds =>
    cases h
    obtain ⟨a, vs, rfl, t, _, r⟩ := r
    exact ⟨.inr ⟨a, _, rfl, t, rfl⟩, by decide⟩
  | dcT ks ds => cases h
  | tuk ds =>
    cases h
    obtain ⟨a, vs, o, rfl, t, _, _, r⟩ := r
    exact ⟨.inl (.fTuple t), by decide⟩
  | loc n =>
    obtain ⟨a, rfl, ha⟩ := r
    unfold tyOf at h
    simp only at h
    split at h
    · rename_i ds e
      cases h
      obtain ⟨vs, t, _⟩ := rs.obj ha e
      exact ⟨.inl (.base (.lst t)), by decide⟩
    · rename_i ks ds e
      cases h
      obtain ⟨vs, t, _⟩ := rs.obj ha e
      exact ⟨.inl (.base (.dK t)), by decide⟩
    · cases h
theorem jc_isi {n : String} (hn : n ∈ isiNames) {a c : Expr} {ma : ME} {x : Str} {p : Pos} (ha : PE X a (TEof X.g Wx ma)) (hcl : PE X c (tC (.ty n))) (hg : Gl X "isinstance") (hm : X.mg "isinstance" = none)
    (he : starEach [a, c] X.env = (false, eval a X.env) :: starEach [c] X.env := by rfl) (hes : starEach [c] X.env = (false, eval c X.env) :: starEach [] X.env := by rfl) (hpl : (backTo pos (starEach [c] X.env)).any (·.1) = false := by rfl) : PE X (.Call (.Name "isinstance" p) [a, c] [] pos) (TEof X.g Wx (eUn (oIsi [n]) ma)) := by
  refine peImp (pe_callB (call_isiW (X := X)) hg hm (by decide +kernel) (pa_cons ha (pa_cons hcl pa_nil hes) he) (by decide) (by decide) he hpl) fun σ H Q ⟨w, E, S, a, p⟩ => ?_
  refine ⟨w, E, S, a, PR.imp (PR.bind a.good a.env p) fun x H1 ⟨w1, d, S1, a1, x1, r1, p1⟩ => ?_⟩
  unfold oIsi at p1
  split at p1
  · rename_i t e
    obtain ⟨h1, h2⟩ := tyX_of a1.sto r1 e
    have q := putSame p1 a1.good a1.sto rfl
    rw [a1.hp] at q h1
    refine ⟨x, .ty n, .type t, .type n, isiB t n, rfl, .ty n, h1, kit_ty (kit_all t h2 n hn), ?_⟩
    simpa using q
  · exact p1.elim
theorem kitAny_all {K : PySem.W.Frag} {t : String} (ht : t ∈ ["NoneType", "bool", "int", "str", "tuple", "list", "dict"]) : ∀ {ns : List String}, (∀ n ∈ ns, n ∈ isiNames) → PySem.W.kitAny K (.type t) (ns.map Value.type) = some (ns.any (isiB t))
  | [], _ => kitAny_nil
  | n :: ns, h => by
    have h1 := kit_all t ht n (h n List.mem_cons_self)
    have h2 := kitAny_all (K := K) ht (ns := ns) fun m hm => h m (List.mem_cons_of_mem _ hm)
    rw [List.map_cons, List.any_cons]
    cases e : isiB t n with
    | true =>
      rw [e] at h1
      exact kitAny_cons (kit_ty h1) (fun z => by cases z) fun _ => rfl
    | false =>
      rw [e] at h1
      exact kitAny_cons (kit_ty h1) (fun _ => h2) fun z => by cases z
theorem clsV_all : ∀ ns : List String, Paired ClsV (ns.map V.ty) (ns.map Value.type)
  | [] => .nil
  | n :: ns => .cons (.ty n) (clsV_all ns)
/-- isinstance(x, (T1, T2)) -/
theorem jc_isi2 {n m : String} (hn : n ∈ isiNames) (hmm : m ∈ isiNames) {a c d : Expr} {ma : ME} {p p2 : Pos} {k : Nat} (ha : PE X a (TEof X.g Wx ma)) (hc : PE X c (tC (.ty n))) (hd : PE X d (tC (.ty m))) (hg : Gl X "isinstance") (hm : X.mg "isinstance" = none)
    (he : starEach [a, .Tuple [c, d] k p2] X.env = (false, eval a X.env) :: starEach [.Tuple [c, d] k p2] X.env := by rfl) (hes : starEach [.Tuple [c, d] k p2] X.env = (false, eval (.Tuple [c, d] k p2) X.env) :: starEach [] X.env := by rfl)
    (h1 : starEach [c, d] X.env = (false, eval c X.env) :: starEach [d] X.env := by rfl) (h2 : starEach [d] X.env = (false, eval d X.env) :: starEach [] X.env := by rfl)
    (hpl : (backTo pos (starEach [.Tuple [c, d] k p2] X.env)).any (·.1) = false := by rfl) : PE X (.Call (.Name "isinstance" p) [a, .Tuple [c, d] k p2] [] pos) (TEof X.g Wx (eUn (oIsi [n, m]) ma)) := by
  refine peImp (pe_callB (call_isiTW (X := X)) hg hm (by decide +kernel) (pa_cons ha (pa_cons (pe_tup (pa_cons hc (pa_cons hd pa_nil h2) h1)) pa_nil hes) he) (by decide) (by decide) he hpl) fun σ H Q ⟨w, E, S, a, p⟩ => ?_
  refine ⟨w, E, S, a, PR.imp (PR.bind a.good a.env p) fun x H1 ⟨w1, dd, S1, a1, x1, r1, p1⟩ => ?_⟩
  unfold oIsi at p1
  split at p1
  · rename_i t e
    refine ⟨by show 2 ≤ sizeLine; decide, fun q hq => ?_⟩
    rw [← a1.hp] at hq ⊢
    have x2 := put_ext (o := .tup [V.ty n, V.ty m]) hq
    have G2 := put_good (p := q) (o := .tup [V.ty n, V.ty m]) a1.good hq
    have rs2 := put_store (o := .tup [V.ty n, V.ty m]) a1.good hq a1.sto
    obtain ⟨t1, t2⟩ := tyX_of rs2 (RD.mono a1.good x2 _ _ r1) e
    refine ⟨x, q, [V.ty n, V.ty m], .type t, [.type n, .type m], [n, m].any (isiB t), rfl, upd_same, clsV_all [n, m], t1, kitAny_all t2 (ns := [n, m]) (fun z hz => ?_), ?_⟩
    · rcases List.mem_cons.mp hz with rfl | hz
      · exact hn
      · rw [List.mem_singleton.mp hz]; exact hmm
    · exact p1 _ (w1.put q (.tup [V.ty n, V.ty m])) x2 G2 rfl rs2
  · exact p1.elim
/-! a new dict -/
theorem de_dctL : PE X (.Dict [] [] pos) (TEof X.g Wx eDctL) := by
  refine peImp pe_dnewK fun σ H Q ⟨w, E, S, a, p⟩ => fun q hq => ?_
  rw [← a.hp] at hq ⊢
  exact p (.ref q) (w.add q (.dK [])) (add_ext hq) (add_good a.good hq) ⟨q, rfl, by rw [a.sto.1]; simp⟩ (add_store a.good hq a.sto ⟨[], upd_same, rfl, rfl⟩)
theorem de_dct : PE X (.Dict [] [] pos) (TEof X.g Wx eDct) := by
  refine peImp pe_dnewK fun σ H Q ⟨w, E, S, a, p⟩ => fun q hq => ?_
  rw [← a.hp] at hq ⊢
  exact p (.ref q) (w.put q (.dK [])) (put_ext hq) (put_good a.good hq) ⟨q, [], rfl, .inl upd_same, rfl, put_th (w := w) a.good hq, rfl⟩ (put_store a.good hq a.sto)
/-! three names at once -/
theorem ds_par3 {i j l : Nat} {x y z : Str} {a b c : Expr} {ma : MA} {px py pz pt : Pos} {kt k2 pt2} (hc : X.calm = true) (hN : X.N.Nodup) (hi : X.N[i]? = some x) (hj : X.N[j]? = some y) (hl : X.N[l]? = some z) (hij : i ≠ j) (hil : i ≠ l) (hjl : j ≠ l)
    (hx : X.env.scope.names.lookup x = some .local) (hy : X.env.scope.names.lookup y = some .local) (hz : X.env.scope.names.lookup z = some .local) (ha : PA X [a, b, c] (TAof X.g Wx ma))
    (hw : swappedStores [.Tuple [.Name x px, .Name y py, .Name z pz] kt pt] (.Tuple [a, b, c] k2 pt2) X.env = pure (some [x, y, z]))
    (hs : swapsWithSole [.Tuple [.Name x px, .Name y py, .Name z pz] kt pt] (.Tuple [a, b, c] k2 pt2) pos.line X.env = pure false := by rfl) :
    PS X (.Assign [.Tuple [.Name x px, .Name y py, .Name z pz] kt pt] (.Tuple [a, b, c] k2 pt2) pos) (TSof X.g Wx (sPar [i, j, l] ma)) := by
  refine ⟨fun pins s σ H D I h => ?_⟩
  obtain ⟨w, E, S, at_, p⟩ := h
  rw [exec_Assign_arm]
  refine wpAny_bind (wpAny_standAt ?_)
  rw [hs]
  refine wpAny_bind (wpAny_pure ?_)
  rw [if_neg (by decide)]
  have hA : TAof X.g Wx ma σ H fun xs H1 => ∃ w1 ds S1, At X.g w1 E σ H1 S1 ∧ Ext w w1 ∧ RDs X.g w1 ds xs ∧ PO_ X.g Wx D w1 (match Tg.binds ([i, j, l].map .nm) ds E with | some E1 => .nx E1 S1 | none => .bad) :=
    ⟨w, E, S, at_, PO_.abind (k := fun ds S1 => match Tg.binds ([i, j, l].map .nm) ds E with | some E1 => .nx E1 S1 | none => .bad) at_.good at_.env p⟩
  refine wpAny_bind (Tuple_ (thn (ha.run _ pins s σ H _ I hA) fun us s1 ⟨vs, H1, I1, r1, q1⟩ => ?_))
  obtain ⟨w1, ds, S1, a1, x1, rd, p1⟩ := q1
  match ds, rd, p1 with
  | [d1, d2, d3], rd, p1 =>
    obtain ⟨v1, r, rfl, e1, rd⟩ := rd
    obtain ⟨v2, v3, rfl, e2, e3⟩ := rd.two'
    obtain ⟨u1, u2, u3, rfl, rv1, rv2, rv3⟩ : ∃ u1 u2 u3, us = [u1, u2, u3] ∧ RelV v1 u1 ∧ RelV v2 u2 ∧ RelV v3 u3 := by
      cases r1 with
      | cons p q =>
        cases q with
        | cons p' q' =>
          cases q' with
          | cons p'' q'' =>
            cases q''
            exact ⟨_, _, _, rfl, p, p', p''⟩
    refine wpAny_newObj_type ?_ (by show 3 ≤ sizeLine; decide)
    have I2 : Inv X pins σ H1 { s1 with heap := s1.heap.push { cls := .type "tuple", data := .seq [u1, u2, u3].toArray } } := I1.kept (t' := s1.toks) fun b o e => Heap.get?_push_of_some _ e
    rw [hw]
    refine wpAny_bind (wpAny_pure ?_)
    show wpAny (model X.prog X.w) X.A (do rule "assign.swapped-stores"; let items ← unpackItems (.ref s1.heap.objs.size) 3 none; assignInOrder [fun v => bindName X.env z v, fun v => bindName X.env y v, fun v => bindName X.env x v] items.reverse; pure Flow.next) _ _ _
    refine wpAny_bind (wpAny_rule (wpAny_bind (unpackItems_tuple (items := #[u1, u2, u3]) (I.ok.hd hc) (IsTup.new s1.heap _) fun h' hx' => ?_)))
    have I3 := I2.kept (h' := h') (t' := s1.toks) fun b o e => hx' b o (Nat.ne_of_lt (Heap.lt_size e)) e
    show wpAny _ _ (assignInOrder [fun v => bindName X.env z v, fun v => bindName X.env y v, fun v => bindName X.env x v] [u3, u2, u1] >>= fun _ => pure Flow.next) _ _ _
    refine wpAny_bind (assignInOrder_cons (wpAny_bindName (store_ok I3 hN hl (.inl hz) rv3 (fun s2 I4 => ?_) (.inr hz))))
    refine assignInOrder_cons (wpAny_bindName (store_ok I4 hN hj (.inl hy) rv2 (fun s3 I5 => ?_) (.inr hy)))
    refine assignInOrder_cons (wpAny_bindName (store_ok I5 hN hi (.inl hx) rv1 (fun s4 I6 => assignInOrder_nil (wpAny_pure ?_)) (.inr hx)))
    have es : ((σ.set l (some v3)).set j (some v2)).set i (some v1) = ((σ.set i (some v1)).set j (some v2)).set l (some v3) := by
      rw [List.set_comm _ _ (Ne.symm hij), List.set_comm _ _ (Ne.symm hil), List.set_comm _ _ (Ne.symm hjl)]
    rw [es] at I6
    have := p1 _ w1 (Ext.refl w1) a1.good (((a1.env.set e1).set e2).set e3) a1.sto
    rw [a1.hp] at this
    exact ⟨_, H1, I6, this⟩
  | [], _, p1 => exact p1.elim
  | [_], _, p1 => exact p1.elim
  | [_, _], _, p1 => exact p1.elim
  | _ :: _ :: _ :: _ :: _, _, p1 => exact p1.elim
end
end J
set_option Elab.async false
set_option linter.all false
set_option maxRecDepth 100000
set_option maxHeartbeats 1000000
namespace J
open PySem PySem.Spec PyProof.Rows L2
theorem Ctx.u65 {X : Cx} {Wx : WX} {k : Nat} (c : Ctx X Wx k) : X.A.units + 65 < cLine := by have := c.hr.un; omega
theorem blkOk_in {N : List Str} {sc scope1 scope2 : Scope} {own : List (Str × Nat)} {cl : List (Str × Addr)} {C : Addr} {env : PySem.Env} (e : env.scope = sc) (h : blkC N (relS scope1 sc) scope2 own = true) : BlkOk N (compEnvC scope1 cl C env).scope scope2 own := by
  have : (compEnvC scope1 cl C env).scope = relS scope1 sc := by rw [← e]; rfl
  rw [this]
  exact blkOk_by h
section
variable {X : Cx} {Wx : WX} {pos : Pos}
theorem jo_mulL : OpR X (binaryOp .Mult) (opOf X.g oMulL) := by
  intro pins s σ H x y v u Q I rx ry ⟨Wx, σ', w, S, d, e, hH, G, rs, r1, r2, p⟩
  subst hH
  unfold oMulL oMul at p
  split at p
  · split at p <;> exact p.elim
  · split at p <;> exact p.elim
  · split at p
    · rename_i xs e1
      split at p
      · rename_i h
        cases r2
        obtain ⟨a, vs, rfl, ta, ra⟩ := r1.lstAt rs e1
        exact op_rep pins s σ _ _ _ v u Q I rx ry ⟨a, _, vs, rfl, rfl, ta, h.1, h.2.1, by rw [ra.length, ← sl_eq]; exact h.2.2, new_loc p G rs (ra.rep _)⟩
      · exact p.elim
    · exact p.elim
  · exact p.elim
theorem dt_isN {a : Expr} {ma : ME} {j : Nat} {pos' : Pos} (ha : PE X a (TEof X.g Wx ma)) : PT X (.Compare a [.Is] [.Constant .none j pos'] pos) (TTof X.g Wx (tV (eUn oIsN ma))) := by
  refine ptImp (pt_cmp (pc_isN ha) rfl) fun σ H Q hh => ?_
  obtain ⟨w, E, S, a, p⟩ := tvUse hh
  refine ⟨w, E, S, a, PR.imp (PR.bind a.good a.env p) fun x H1 ⟨w1, d, S1, a1, x1, r1, p1⟩ => ?_⟩
  have q := putSame p1 a1.good a1.sto rfl
  rw [a1.hp] at q
  rw [isNon_of r1]
  exact q
theorem dt_notN {a : Expr} {ma : ME} {j : Nat} {pos' : Pos} (ha : PE X a (TEof X.g Wx ma)) : PT X (.Compare a [.IsNot] [.Constant .none j pos'] pos) (TTof X.g Wx (tV (eUn oNotN ma))) := by
  refine ptImp (pt_cmp (pc_notN ha) rfl) fun σ H Q hh => ?_
  obtain ⟨w, E, S, a, p⟩ := tvUse hh
  refine ⟨w, E, S, a, PR.imp (PR.bind a.good a.env p) fun x H1 ⟨w1, d, S1, a1, x1, r1, p1⟩ => ?_⟩
  have q := putSame p1 a1.good a1.sto rfl
  rw [a1.hp] at q
  rw [isNon_of r1]
  exact q
end
end J
set_option Elab.async false
set_option linter.all false
set_option maxRecDepth 100000
set_option maxHeartbeats 1000000
namespace J
open PySem PySem.Spec PyProof.Rows L2
section
variable {X : Cx} {Wx : WX} {pos : Pos}
theorem dss_never {sts : List Stmt} : PSs X sts (TSof X.g Wx sNever) := pssImp pss_never fun D σ H ⟨w, E, S, a, p⟩ => p
/-! max and min of ints -/
theorem foldMax_mem : ∀ (ns : List Int) (n : Int), ns.foldl (fun a y => if a < y then y else a) n ∈ n :: ns
  | [], n => by simp
  | m :: ns, n => by
    rw [List.foldl_cons]
    have := foldMax_mem ns (if n < m then m else n)
    rcases List.mem_cons.mp this with h | h
    · rw [h]; split <;> simp
    · exact List.mem_cons_of_mem _ (List.mem_cons_of_mem _ h)
theorem foldMax_ge : ∀ (ns : List Int) (n : Int) (y : Int), y ∈ n :: ns → y ≤ ns.foldl (fun a y => if a < y then y else a) n
  | [], n, y, h => by simp at h; subst h; exact Int.le_refl _
  | m :: ns, n, y, h => by
    rw [List.foldl_cons]
    rcases List.mem_cons.mp h with rfl | h
    · refine Int.le_trans ?_ (foldMax_ge ns _ _ List.mem_cons_self)
      split <;> omega
    · rcases List.mem_cons.mp h with rfl | h
      · refine Int.le_trans ?_ (foldMax_ge ns _ _ List.mem_cons_self)
        split <;> omega
      · exact foldMax_ge ns _ _ (List.mem_cons_of_mem _ h)
theorem foldMin_mem : ∀ (ns : List Int) (n : Int), ns.foldl (fun a y => if y < a then y else a) n ∈ n :: ns
  | [], n => by simp
  | m :: ns, n => by
    rw [List.foldl_cons]
    have := foldMin_mem ns (if m < n then m else n)
    rcases List.mem_cons.mp this with h | h
    · rw [h]; split <;> simp
    · exact List.mem_cons_of_mem _ (List.mem_cons_of_mem _ h)
theorem foldMin_le : ∀ (ns : List Int) (n : Int) (y : Int), y ∈ n :: ns → ns.foldl (fun a y => if y < a then y else a) n ≤ y
  | [], n, y, h => by simp at h; subst h; exact Int.le_refl _
  | m :: ns, n, y, h => by
    rw [List.foldl_cons]
    rcases List.mem_cons.mp h with rfl | h
    · refine Int.le_trans (foldMin_le ns _ _ List.mem_cons_self) ?_
      split <;> omega
    · rcases List.mem_cons.mp h with rfl | h
      · refine Int.le_trans (foldMin_le ns _ _ List.mem_cons_self) ?_
        split <;> omega
      · exact foldMin_le ns _ _ (List.mem_cons_of_mem _ h)
theorem hold_ints {h : Heap} : ∀ {ns : List Int} {us : List Value}, Vals (ns.map V.int) us → PySem.W.HoldAll h us ns
  | [], _, .nil => PySem.W.HoldAll.nil
  | n :: ns, _, .cons r rs => by
    obtain ⟨t, rfl⟩ := r
    exact PySem.W.HoldAll.cons (PySem.W.holds_int n t) (hold_ints rs)
theorem crT_max (hc : X.calm = true) (hu : X.A.units + 1 < cLine) : CallR X (.builtin "max") (fun vs H Q => ∃ (a : Addr) (n : Int) (ns : List Int), vs = [V.ref a] ∧ SqT X.K H a ((n :: ns).map V.int) ∧ Q (.int (ns.foldl (fun a y => if a < y then y else a) n)) H) := by
  intro pins s σ H vs us Q I r h
  obtain ⟨a, n, ns, rfl, hs, q⟩ := h
  obtain ⟨its, rv, pl, hz⟩ := I.tuple hs
  rw [Vals.ref1 r]
  refine PySem.W.max_tuple_datum (α := Int) (x := n) (xs := ns) (I.ok.hd hc) pl (hold_ints rv) (by simpa [PySem.W.Datum.depth] using hu) fun i v h' tk hi hv hk => ?_
  obtain ⟨t, rfl⟩ := PySem.W.int_of_holds hv
  refine ⟨.int _, H, I.kept hk, ⟨t, rfl⟩, ?_⟩
  have e : PySem.W.maxOf n ns = ns.foldl (fun a y => if a < y then y else a) n := by
    unfold PySem.W.maxOf
    congr 1
    funext a y
    show (if decide (a < y) = true then y else a) = _
    by_cases h : a < y <;> simp [h]
  rw [e]
  exact q
theorem crT_min (hc : X.calm = true) (hu : X.A.units + 1 < cLine) : CallR X (.builtin "min") (fun vs H Q => ∃ (a : Addr) (n : Int) (ns : List Int), vs = [V.ref a] ∧ SqT X.K H a ((n :: ns).map V.int) ∧ Q (.int (ns.foldl (fun a y => if y < a then y else a) n)) H) := by
  intro pins s σ H vs us Q I r h
  obtain ⟨a, n, ns, rfl, hs, q⟩ := h
  obtain ⟨its, rv, pl, hz⟩ := I.tuple hs
  rw [Vals.ref1 r]
  refine PySem.W.min_tuple_datum (α := Int) (x := n) (xs := ns) (I.ok.hd hc) pl (hold_ints rv) (by simpa [PySem.W.Datum.depth] using hu) fun i v h' tk hi hv hk => ?_
  obtain ⟨t, rfl⟩ := PySem.W.int_of_holds hv
  refine ⟨.int _, H, I.kept hk, ⟨t, rfl⟩, ?_⟩
  have e : PySem.W.minOf n ns = ns.foldl (fun a y => if y < a then y else a) n := by
    unfold PySem.W.minOf
    congr 1
    funext a y
    show (if decide (y < a) = true then y else a) = _
    by_cases h : y < a <;> simp [h]
  rw [e]
  exact q
theorem jc_max1 (hc : X.calm = true) (hu : X.A.units + 1 < cLine) : CallR X (.builtin "max") (argOf X.g bMax1) := by
  intro pins s σ H xs us Q I r ⟨Wx, σ', w, S, ds, hH, G, rs, r1, p⟩
  subst hH
  unfold bMax1 at p
  split at p
  · obtain ⟨v, rfl, r2⟩ := r1.one'
    split at p
    · rename_i xs e
      split at p
      · rename_i n ns e2
        obtain ⟨a, vs, rfl, t, r3⟩ := r2.seq rs e
        have := ints_vals r3 e2
        subst this
        rcases t with t | t
        · refine cr_max hc pins s σ _ _ us Q I r ⟨a, n :: ns, rfl, t, by simp, fun m h1 h2 => ?_⟩
          have e3 : m = ns.foldl (fun a y => if a < y then y else a) n := Int.le_antisymm (foldMax_ge ns n m h1) (h2 _ (foldMax_mem ns n))
          subst e3
          exact putSame p G rs rfl
        · exact crT_max hc hu pins s σ _ _ us Q I r ⟨a, n, ns, rfl, t, putSame p G rs rfl⟩
      · exact p.elim
    · exact p.elim
  · exact p.elim
theorem jc_min1 (hc : X.calm = true) (hu : X.A.units + 1 < cLine) : CallR X (.builtin "min") (argOf X.g bMin1) := by
  intro pins s σ H xs us Q I r ⟨Wx, σ', w, S, ds, hH, G, rs, r1, p⟩
  subst hH
  unfold bMin1 at p
  split at p
  · obtain ⟨v, rfl, r2⟩ := r1.one'
    split at p
    · rename_i xs e
      split at p
      · rename_i n ns e2
        obtain ⟨a, vs, rfl, t, r3⟩ := r2.seq rs e
        have := ints_vals r3 e2
        subst this
        rcases t with t | t
        · refine cr_min hc pins s σ _ _ us Q I r ⟨a, n :: ns, rfl, t, by simp, fun m h1 h2 => ?_⟩
          have e3 : m = ns.foldl (fun a y => if y < a then y else a) n := Int.le_antisymm (h2 _ (foldMin_mem ns n)) (foldMin_le ns n m h1)
          subst e3
          exact putSame p G rs rfl
        · exact crT_min hc hu pins s σ _ _ us Q I r ⟨a, n, ns, rfl, t, putSame p G rs rfl⟩
      · exact p.elim
    · exact p.elim
  · exact p.elim
theorem max3_v (i j k : Int) : nuMax3 (.int i) (.int j) (.int k) = some (.int (if k > (if j > i then j else i) then k else (if j > i then j else i))) := by
  have nl : ∀ a b : Int, nuLt (.int a) (.int b) = some (decide (a < b)) := fun _ _ => rfl
  unfold nuMax3 nuMax2
  rw [nl]
  by_cases h : i < j
  · by_cases h2 : j < k <;> simp [nl, h, h2]
  · by_cases h2 : i < k <;> simp [nl, h, h2]
theorem jc_max3 (hc : X.calm = true) : CallR X (.builtin "max") (argOf X.g bMax3) := by
  intro pins s σ H xs us Q I r ⟨Wx, σ', w, S, ds, hH, G, rs, r1, p⟩
  subst hH
  unfold bMax3 at p
  split at p
  · obtain ⟨v, vs, rfl, r2, r3⟩ := r1
    obtain ⟨u, us', rfl, r4, r5⟩ := r3
    obtain ⟨t, ts, rfl, r6, r7⟩ := r5
    cases r7
    cases r2
    cases r4
    cases r6
    refine call_max3Nu hc pins s σ _ _ us Q I r ⟨_, _, _, _, rfl, max3_v _ _ _, putSame p G rs rfl⟩
  · exact p.elim
/-! list(range(n)) -/
theorem ints_rg {g : G} {w : W} : ∀ (n : Nat) (f : Nat → Int), RDs g w ((List.range n).map fun i => D.int (f i)) ((List.range n).map fun i => V.int (f i)) := by
  intro n
  induction n with
  | zero => intro f; rfl
  | succ n ih =>
    intro f
    rw [List.range_succ, List.map_append, List.map_append]
    exact (ih f).append (RDs.one rfl)
theorem de_lstRgL {a : Expr} {ma : ME} {p p2 pos2 : Pos} (hc : X.calm = true) (hg : Gl X "list") (hm : X.mg "list" = none) (hg2 : Gl X "range") (hm2 : X.mg "range" = none) (ha : PE X a (TEof X.g Wx ma))
    (na : starEach [a] X.env = (false, eval a X.env) :: starEach [] X.env := by rfl) (na2 : starEach [.Call (.Name "range" p2) [a] [] pos2] X.env = (false, eval (.Call (.Name "range" p2) [a] [] pos2) X.env) :: starEach [] X.env := by rfl) :
    PE X (.Call (.Name "list" p) [.Call (.Name "range" p2) [a] [] pos2] [] pos) (TEof X.g Wx (eLstRgL ma)) := by
  refine peImp (pe_listRg hc hg hm (prg_1 hg2 hm2 ha na) na2) fun σ H Q ⟨w, E, S, a, p⟩ => ?_
  refine ⟨w, E, S, a, PR.imp (PR.bind a.good a.env p) fun x H1 ⟨w1, d, S1, a1, x1, r1, p1⟩ => ?_⟩
  split at p1
  · rename_i n
    split at p1
    · rename_i hn
      cases r1
      refine ⟨n, rfl, ⟨by omega, by omega, by omega, ?_, ?_⟩, fun q hq => ?_⟩
      · have := hn.2; unfold SL at this; omega
      · have := hn.2; unfold SL at this; omega
      · rw [← a1.hp] at hq ⊢
        refine new_loc p1 a1.good a1.sto ?_ q hq
        have := ints_rg (g := X.g) (w := w1) n.toNat fun i => 0 + (i : Int)
        unfold rgV
        rw [Int.sub_zero]
        simpa using this
    · exact p1.elim
  · exact p1.elim
end
end J
set_option Elab.async false
set_option linter.all false
set_option maxRecDepth 100000
set_option maxHeartbeats 1000000
namespace J
open PySem PySem.Spec PyProof.Rows L2
section
variable {X : Cx} {Wx : WX} {pos : Pos}
/-! any and all -/
theorem scals_len : ∀ {ds : List D} {bs : List Bool}, scals ds = some bs → bs.length = ds.length
  | [], bs, h => by cases h; rfl
  | d :: ds, bs, h => by
    simp only [scals, Option.bind_eq_some_iff, Option.map_eq_some_iff] at h
    obtain ⟨b, _, bs', h2, rfl⟩ := h
    simp [scals_len h2]
theorem scals_get {g : G} {w : W} : ∀ {ds : List D} {vs : List V} {us : List Value} {bs : List Bool}, RDs g w ds vs → Vals vs us → scals ds = some bs → ∀ (i : Nat) (u : Value), us[i]? = some u → ∃ b, bs[i]? = some b ∧ ((u = .bool b) ∨ ∃ n t, u = .int n t ∧ b = (n != 0))
  | [], _, us, bs, r, rv, h, i, u, e => by
    cases r
    cases rv
    simp at e
  | d :: ds, vs, us, bs, r, rv, h, i, u, e => by
    obtain ⟨v, vs', rfl, r1, r2⟩ := r
    cases rv with
    | cons q qs =>
      simp only [scals, Option.bind_eq_some_iff, Option.map_eq_some_iff] at h
      obtain ⟨b, h1, bs', h2, rfl⟩ := h
      cases i with
      | zero =>
        simp at e
        subst e
        refine ⟨b, rfl, ?_⟩
        cases d with
        | bl c => cases r1; cases h1; cases q; exact .inl rfl
        | int n =>
          cases r1
          cases h1
          obtain ⟨t, rfl⟩ := q
          exact .inr ⟨n, t, rfl, rfl⟩
        | _ => simp [scal] at h1
      | succ i =>
        obtain ⟨c, h3, h4⟩ := scals_get r2 qs h2 i u (by simpa using e)
        exact ⟨c, by simpa using h3, h4⟩
theorem truth_scals {prog : Program} {w : World} {A : Around} {bs : List Bool} {its : List Value} (e : ∀ (i : Nat) (u : Value), its[i]? = some u → ∃ b, bs[i]? = some b ∧ ((u = .bool b) ∨ ∃ n t, u = .int n t ∧ b = (n != 0))) :
    TruthOf prog w A (fun i v => its.toArray[i]? = some v) (fun i => bs.getD i false) := fun i v s Q E hv hq => by
  have hv' : its[i]? = some v := by simpa using hv
  obtain ⟨b, hb, h⟩ := e i v hv'
  have hg : bs.getD i false = b := by rw [List.getD_eq_getElem?_getD, hb] <;> rfl
  have hq' : Q (bs.getD i false) s := hq
  rw [hg] at hq'
  rcases h with rfl | ⟨n, t, rfl, rfl⟩
  · exact wpAny_truthy_bool hq'
  · exact PySem.P.truthy_int hq'
theorem keyOf_kV {g : G} {w : W} {d : D} {v : V} {k : Ky} (r : RD g w d v) (h : keyOf d = some k) : v = kV k := by
  cases d with
  | int i => cases r; cases h; rfl
  | str x => cases r; cases h; rfl
  | _ => simp [keyOf] at h
theorem jc_any (hc : X.calm = true) : CallR X (.builtin "any") (argOf X.g bAny) := by
  intro pins s σ H xs us Q I r ⟨Wx, σ', w, S, ds, hH, G, rs, r1, p⟩
  subst hH
  unfold bAny at p
  split at p
  · obtain ⟨v, rfl, r2⟩ := r1.one'
    split at p
    · rename_i xs e
      split at p
      · rename_i bs e2
        obtain ⟨a, vs, rfl, t, r3⟩ := r2.lstAt rs e
        obtain ⟨its, rv, hl, _⟩ := I.list (SqL.of t)
        rw [Vals.ref1 r]
        have hlen : its.length = bs.length := by rw [← rv.length, r3.length, scals_len e2]
        refine call_any_walk (iter_any hl.isList fun s₂ e2' st hne => ?_)
        subst e2'
        refine ⟨_, _, _, _, _, _, _, rfl, Walks.list (A := X.A.in1) (I.ok.hd hc) _ a hne its.toArray, st, truth_scals (scals_get r3 rv e2), fun h' tk hk => ?_⟩
        refine ⟨.bl (bs.any id), w.H, I.kept fun b o eo => hk b o (fun hmem => ?_) (Heap.get?_push_of_some _ eo), ?_, putSame p G rs rfl⟩
        · rcases List.mem_cons.mp hmem with e1 | hmem
          · exact absurd (e1 ▸ Heap.lt_size eo) (Nat.lt_irrefl _)
          · cases hmem
        · show Value.bool _ = Value.bool _
          rw [← L2.any_range, List.size_toArray, hlen]
      · exact p.elim
    · exact p.elim
  · exact p.elim
theorem jc_all (hc : X.calm = true) : CallR X (.builtin "all") (argOf X.g bAll) := by
  intro pins s σ H xs us Q I r ⟨Wx, σ', w, S, ds, hH, G, rs, r1, p⟩
  subst hH
  unfold bAll at p
  split at p
  · obtain ⟨v, rfl, r2⟩ := r1.one'
    split at p
    · rename_i xs e
      split at p
      · rename_i bs e2
        obtain ⟨a, vs, rfl, t, r3⟩ := r2.lstAt rs e
        obtain ⟨its, rv, hl, _⟩ := I.list (SqL.of t)
        rw [Vals.ref1 r]
        have hlen : its.length = bs.length := by rw [← rv.length, r3.length, scals_len e2]
        refine call_all_walk (iter_any hl.isList fun s₂ e2' st hne => ?_)
        subst e2'
        refine ⟨_, _, _, _, _, _, _, rfl, Walks.list (A := X.A.in1) (I.ok.hd hc) _ a hne its.toArray, st, truth_scals (scals_get r3 rv e2), fun h' tk hk => ?_⟩
        refine ⟨.bl (bs.all id), w.H, I.kept fun b o eo => hk b o (fun hmem => ?_) (Heap.get?_push_of_some _ eo), ?_, putSame p G rs rfl⟩
        · rcases List.mem_cons.mp hmem with e1 | hmem
          · exact absurd (e1 ▸ Heap.lt_size eo) (Nat.lt_irrefl _)
          · cases hmem
        · show Value.bool _ = Value.bool _
          rw [← L2.all_range, List.size_toArray, hlen]
      · exact p.elim
    · exact p.elim
  · exact p.elim
/-! {k: v} -/
theorem de_disp1L {k v : Expr} {mk mv : ME} (hk : PE X k (TEof X.g Wx mk)) (hv : PE X v (TEof X.g Wx mv)) : PE X (.Dict [some k] [v] pos) (TEof X.g Wx (eDisp1L mk mv)) := by
  refine peImp (pe_disp (pps_cons hk (pos := pos) hv pps_nil) rfl rfl (by simp) (by simp)) fun σ H Q ⟨w, E, S, a, p⟩ => ?_
  intro q hq
  have hq' : w.H q = none := by rw [a.hp]; exact hq
  have x0 := hide_ext (o := .dK []) hq'
  have G0 := hide_good (o := .dK []) a.good hq'
  have nD : q ∉ w.rhA := fun z => a.good.al q (a.good.sub q z) hq'
  have a0 : At X.g (w.hide q (.dK [])) E σ (upd H q (.dK [])) S := ⟨by rw [← a.hp], G0, a.env.mono a.good x0, a.sto.keep a.good x0 rfl (fun b hb => upd_ne fun e => nD (by rw [← e]; exact hb))⟩
  have p0 : PR X.g Wx σ w (RD X.g) Q ((mk E S).bind fun x S1 => (mv E S1).bind fun y S2 => kDisp1 x y S2) := p
  refine ⟨w.hide q (.dK []), E, S, a0, ?_⟩
  cases hmk : mk E S with
  | bad => rw [hmk] at p0; exact p0.elim
  | exc c fs S1 => rw [hmk] at p0; exact PR.at p0 x0
  | ok d S1 =>
    rw [hmk] at p0
    intro x w1 x1 G1 r1 rs1
    have a1 : At X.g w1 E σ w1.H S1 := ⟨rfl, G1, a0.env.mono G0 x1, rs1⟩
    refine ⟨w1, E, S1, a1, ?_⟩
    simp only [bind_ok] at p0
    cases hmv : mv E S1 with
    | bad => rw [hmv] at p0; exact p0.elim
    | exc c fs S2 => rw [hmv] at p0; exact PR.at p0 (x0.trans x1)
    | ok d2 S2 =>
      rw [hmv] at p0
      intro y w2 x2 G2 r2 rs2
      simp only [bind_ok, kDisp1] at p0
      split at p0
      · rename_i ky hky
        have x12 := x1.trans x2
        have x := x0.trans x12
        have hq2 : w2.H q = some (.dK []) := x12.kpT upd_same nD (.inr rfl)
        have hth : w2.thA q := x12.th1 q (.inr rfl)
        have nD2 : q ∉ w2.rhA := fun z => by
          obtain ⟨τ, e5, f5⟩ := x12.rho
          rw [e5] at z
          rcases List.mem_append.mp z with z | z
          · exact nD z
          · have := f5 q z
            rw [show (w.hide q (.dK [])).H q = some (.dK []) from upd_same] at this
            cases this
        refine ⟨hq2, [(ky, y)], ?_, by simp, ?_⟩
        · have : _ = kV ky := keyOf_kV r1 hky
          rw [this]
          rfl
        · have hm : mergeK [] [(ky, y)] = [(ky, y)] := rfl
          rw [hm]
          have kw : Weak w2 { w2 with H := upd w2.H q (.dK [(ky, y)]) } := weak_upd hth
          have rs2' : RS X.g { w2 with H := upd w2.H q (.dK [(ky, y)]) } S2 := rs2.weakW kw rfl (fun b hb => upd_ne fun e => nD2 (by rw [← e]; exact hb))
          have r2' : RD X.g { w2 with H := upd w2.H q (.dK [(ky, y)]) } d2 y := RD.weakW kw (fun _ _ h => h) _ _ r2
          have k3 : Weak { w2 with H := upd w2.H q (.dK [(ky, y)]) } ⟨w2.thA, w2.rhA ++ [q], upd w2.H q (.dK [(ky, y)])⟩ := weak_take rfl fun _ z => z
          have kr : ∀ (n : Nat) a, w2.rhA[n]? = some a → (w2.rhA ++ [q])[n]? = some a := fun n a h => by
            rw [List.getElem?_append_left (List.getElem?_eq_some_iff.mp h).1]; exact h
          obtain ⟨τ, eτ, fτ⟩ := x.rho
          refine p0 (.ref q) ⟨w2.thA, w2.rhA ++ [q], upd w2.H q (.dK [(ky, y)])⟩ ⟨⟨τ ++ [q], by show w2.rhA ++ [q] = _; rw [eτ, List.append_assoc], fun a h => (List.mem_append.mp h).elim (fτ a) fun h => by rw [List.mem_singleton.mp h]; exact hq'⟩, x.th1, x.th2, fun b o hb nb => ?_, fun b hb => ?_⟩
            ⟨?_, fun b h => ?_, fun b hb => ?_, fun b hb xs => by
              show upd w2.H q _ b ≠ some (.tup xs)
              by_cases e : b = q
              · rw [e, upd_same]; intro z; cases z
              · rw [upd_ne e]; exact G2.nt b hb xs⟩ ⟨q, rfl, by show (w2.rhA ++ [q])[S2.length]? = some q; rw [rs2.1]; simp⟩ ⟨by show (S2 ++ [_]).length = (w2.rhA ++ [q]).length; simp [rs2.1], fun n d e => ?_⟩
          · have hne : b ≠ q := fun e => by rw [e, hq'] at hb; cases hb
            rcases x.kp b o hb nb with q' | ⟨nt, od, kvs, eo, q'⟩
            · exact .inl ((upd_ne hne).trans q')
            · exact .inr ⟨nt, od, kvs, eo, (upd_ne hne).trans q'⟩
          · show upd w2.H q _ b ≠ none
            by_cases e : b = q
            · rw [e, upd_same]; simp
            · rw [upd_ne e]; exact x.al b hb
          · show (w2.rhA ++ [q]).Nodup
            rw [List.nodup_append]
            refine ⟨G2.nd, by simp, fun a ha b hb e => ?_⟩
            rw [List.mem_singleton.mp hb] at e
            exact nD2 (by rw [← e]; exact ha)
          · rcases List.mem_append.mp h with h | h
            · exact G2.sub b h
            · rw [List.mem_singleton.mp h]; exact hth
          · show upd w2.H q _ b ≠ none
            by_cases e : b = q
            · rw [e, upd_same]; simp
            · rw [upd_ne e]; exact G2.al b hb
          · by_cases hn : n < S2.length
            · rw [List.getElem?_append_left hn] at e
              obtain ⟨a, h1, h2⟩ := rs2'.2 n d e
              exact ⟨a, kr n a h1, h2.weakW k3 kr rfl⟩
            · have hl : n = S2.length := by
                have := (List.getElem?_eq_some_iff.mp e).1
                simp at this
                omega
              subst hl
              simp at e
              subst e
              exact ⟨q, by show (w2.rhA ++ [q])[S2.length]? = some q; rw [rs2.1]; simp, [y], upd_same, rfl, RDs.one (RD.weakW k3 kr _ _ r2')⟩
      · exact p0.elim
/-! try: .. (no exception comes), x, o[i] = e -/
theorem Ctx.nox {X : Cx} {Wx : WX} {k : Nat} (c : Ctx X Wx k) : Ctx X.nox W0 k := ⟨takes0, PassesOwn.never, c.calm, c.hr⟩
theorem ds_try {body : List Stmt} {h₀ : ExceptHandler} {hs : List ExceptHandler} {mb : MS} (hb : PSs X.nox body (TSof X.g W0 mb)) : PS X (.Try body (h₀ :: hs) [] [] pos) (TSof X.g Wx (sTry mb)) := by
  refine psImp (ps_try_thru0 (h₀ := h₀) (hs := hs) hb) fun D σ H ⟨w, E, S, a, p⟩ => ⟨w, E, S, a, ?_⟩
  unfold sTry at p
  cases hm : mb E S with
  | exc c fs E1 S1 => rw [hm] at p; exact p.elim
  | bad => rw [hm] at p; exact p.elim
  | nx E1 S1 => rw [hm] at p; exact p
  | rt d S1 => rw [hm] at p; exact p
  | bk E1 S1 => rw [hm] at p; exact p
  | ct E1 S1 => rw [hm] at p; exact p
theorem var_ok {j : Nat} {E : Env} {S : List D} {d : D} (h : E[j]? = some (some d)) : eVar j E S = .ok d S := by unfold eVar; rw [h]
theorem ds_asgSub {i j l : Nat} {tx o k e : Expr} {kk : Nat} {me : ME} {pt pos' : Pos} (hc : X.calm = true) (hx : PG X tx (gName i)) (ho : PE X o (TEof X.g Wx (eVar j))) (hk : PE X k (TEof X.g Wx (eVar l))) (he : PE X e (TEof X.g Wx me)) (hu : X.A.units + 1 < cLine)
    (ha : ∀ v, assign (.Subscript o k pos') X.env v = (do
      let ov ← holding [v] (eval o X.env)
      let iv ← holding [v, ov] (eval k X.env)
      standAt pos'
      holding [v, ov, iv] (setItem ov iv v)
      release [v, ov, iv] []) := by intro _; rfl)
    (hs1 : (assignEach [.Subscript o k pos'] X.env).map (·.2) = assign (.Subscript o k pos') X.env :: (assignEach [] X.env).map (·.2) := by rfl)
    (hs2 : (assignEach [tx, .Subscript o k pos'] X.env).map (·.2) = assign tx X.env :: (assignEach [.Subscript o k pos'] X.env).map (·.2) := by rfl)
    (hn : (assignEach [tx, .Subscript o k pos'] X.env).length = 2 := by rfl) (hst : (assignEach [tx, .Subscript o k pos'] X.env).findIdx? (·.1) = none := by rfl)
    (hs : swapsWithSole [.Tuple [tx, .Subscript o k pos'] kk pt] e pos.line X.env = pure false := by rfl) (hw : swappedStores [.Tuple [tx, .Subscript o k pos'] kk pt] e X.env = pure none := by rfl)
    (h1 : (assignEach [.Tuple [tx, .Subscript o k pos'] kk pt] X.env).map (·.2) = [assign (.Tuple [tx, .Subscript o k pos'] kk pt) X.env] := by rfl) :
    PS X (.Assign [.Tuple [tx, .Subscript o k pos'] kk pt] e pos) (TSof X.g Wx (sAsgSub i j l me)) := by
  refine psImp (ps_asg he (pg_tup hc (pgs_cons hx (pgs_cons (pg_sub ho hk (jp_put hu) ha) pgs_nil hs1) hs2) hn hst) hs hw h1) fun D σ H ⟨w, E, S, a, p⟩ => ⟨w, E, S, a, PR.imp (PO_.bind a.good a.env p) fun v H1 ⟨w1, d, S1, a1, x1, r1, p1⟩ => ?_⟩
  split at p1
  · rename_i dx dy
    split at p1
    · rename_i ov kv e1 e2
      split at p1
      · rename_i S2 e3
        obtain ⟨q, vs, rfl, t, vx, vr, rfl, rx, rr⟩ := r1
        obtain ⟨vy, vr2, rfl, ry, rz⟩ := rr
        cases rz
        have env1 : RE X.g w1 (E.set i (some dx)) (σ.set i (some vx)) := a1.env.set rx
        refine ⟨q, [vx, vy], rfl, by rw [← a1.hp]; exact t.sq, rfl, vx, [vy], rfl, vy, [], rfl, w1, E.set i (some dx), S1, ⟨a1.hp, a1.good, env1, a1.sto⟩, ?_⟩
        rw [var_ok e1]
        intro vo w2 x2 G2 ro rs2
        refine ⟨w2, E.set i (some dx), S1, ⟨rfl, G2, env1.mono a1.good x2, rs2⟩, ?_⟩
        rw [var_ok e2]
        intro vk w3 x3 G3 rk rs3
        refine ⟨w3, S1, ov, kv, dy, S2, rfl, G3, rs3, RD.mono G2 x3 _ _ ro, rk, RD.mono a1.good (x2.trans x3) _ _ ry, e3, fun w' x' G' rs' => ⟨rfl, ?_⟩⟩
        exact p1 _ w' (x2.trans (x3.trans x')) G' (env1.mono a1.good (x2.trans (x3.trans x'))) rs'
      · exact p1.elim
    · exact p1.elim
  · exact p1.elim
end
end J
set_option Elab.async false
set_option linter.all false
set_option maxRecDepth 100000
set_option maxHeartbeats 1000000
namespace J
open PySem PySem.Spec PyProof.Rows L2
/-! xs[::-1] of a list or tuple -/
section
variable {prog : Program} {w : World} {A : Around} {E : Value → Shared → Prop} {s : Shared}
theorem rev_adj (n : Nat) : Builtin.Slice.sliceAdjust none none (-1) (n : Int) = ((n : Int) - 1, -1) := by
  unfold Builtin.Slice.sliceAdjust
  simp
theorem rev_places (n : Nat) : Builtin.Slice.slicePlaces ((n : Int) - 1) (-1) (-1) = n := by
  unfold Builtin.Slice.slicePlaces
  have h1 : ¬ ((-1 : Int) > 0) := by decide
  rw [if_neg h1]
  by_cases h : (n : Int) - 1 > -1
  · rw [if_pos h, show (- -1 : Int) = 1 by decide, Int.ediv_one]
    omega
  · rw [if_neg h]
    omega
theorem fm_congr {α β : Type} {f g : α → Option β} : ∀ (l : List α), (∀ a ∈ l, f a = g a) → l.filterMap f = l.filterMap g
  | [], _ => rfl
  | a :: l, h => by
    rw [List.filterMap_cons, List.filterMap_cons, h a List.mem_cons_self, fm_congr l fun b hb => h b (List.mem_cons_of_mem _ hb)]
theorem rev_pick (xs : Array Value) : ((List.range xs.size).filterMap fun (k : Nat) => xs[((xs.size : Int) - 1 + (k : Int) * (-1)).toNat]?).toArray = xs.toList.reverse.toArray := by
  congr 1
  have e : ∀ k ∈ List.range xs.size, xs[((xs.size : Int) - 1 + (k : Int) * (-1)).toNat]? = xs.toList.reverse[k]? := by
    intro k hk
    have hk' := List.mem_range.mp hk
    have hx : ((xs.size : Int) - 1 + (k : Int) * (-1)).toNat = xs.size - 1 - k := by omega
    rw [hx]
    rw [List.getElem?_reverse (by simpa using hk')]
    simp only [Array.length_toList, Array.getElem?_toList]
  rw [fm_congr _ e]
  have : ∀ (ys : List Value), (List.range ys.length).filterMap (fun k => ys[k]?) = ys := by
    intro ys
    induction ys with
    | nil => rfl
    | cons y ys ih =>
      rw [List.length_cons, List.range_succ_eq_map, List.filterMap_cons]
      simp only [List.getElem?_cons_zero]
      rw [List.filterMap_map]
      simpa [Function.comp_def] using ih
  have h2 := this xs.toList.reverse
  rw [List.length_reverse, Array.length_toList] at h2
  exact h2
theorem getItem_tuple_rev {t sl : Addr} {items : Array Value} {vl vu vs : Value} {Q : Value → Shared → Prop} (ht : IsTup s.heap t items) (hs : s.heap.IsSliceOf sl vl vu vs) (pl : IsPart vl none) (pu : IsPart vu none) (ps : IsPart vs (some (-1)))
    (h : Q (.ref s.heap.objs.size) { s with heap := s.heap.push { cls := .type "tuple", data := .seq items.toList.reverse.toArray } })
    (hsz : items.size ≤ sizeLine) : wpAny (model prog w) A (getItem (.ref t) (.ref sl)) Q E s := by
  have htake : sizeOk (.seq items.toList.reverse.toArray) := by
    show items.toList.reverse.toArray.size ≤ sizeLine
    rw [List.size_toArray, List.length_reverse, Array.length_toList]
    exact hsz
  obtain ⟨os, hos, hcs, hds⟩ := id hs
  have hTs : s.TypeIs (.ref sl) "slice" := ⟨os, hos, hcs⟩
  unfold getItem
  try with_reducible refine wpAny_holding ?_
  first | refine wpAny_bind (wpAny_pure ?_) | skip
  refine wpAny_bind (wpAny_sequenceKey ht.typeIs (by decide) ?_)
  refine wpAny_bind (wpAny_callSpecial?_slot (name := Str.ofString "__getitem__") ht.typeIs PyProof.Rows.slot_tuple_getitem
    (wpAny_call_entry PyProof.Rows.slot_tuple_getitem ht.typeIs entry_tuple_getitem ?_ (args_tuple_getitem _ _)))
  show wpAny _ _ (Builtin.Tuple.tupleItemsOf (.ref t) >>= _) _ _ s
  refine wpAny_bind (tupleItemsOf_ ht ?_)
  refine wpAny_bind (wpAny_typeOf hTs ?_)
  rw [if_pos (by decide)]
  refine wpAny_bind ?_
  unfold Builtin.Slice.sliceApplied Builtin.Slice.sliceFields
  refine wpAny_bind (wpAny_bind (wpAny_field hos hds (x := vl) rfl (wpAny_bind (wpAny_field hos hds (x := vu) rfl (wpAny_bind (wpAny_field hos hds (x := vs) rfl (wpAny_pure ?_)))))))
  refine wpAny_bind (HT.slicePart_ ps ?_)
  show wpAny _ _ (if ((-1 : Int) == 0) = true then _ else _) _ _ s
  rw [if_neg (by decide)]
  refine wpAny_bind (HT.slicePart_ pl (wpAny_bind (HT.slicePart_ pu (wpAny_bind (wpAny_pure ?_)))))
  show wpAny _ _ (match Builtin.Slice.sliceAdjust none none (-1) ((items.size : Nat) : Int) with | (lo, hi) => pure (lo, (-1 : Int), Builtin.Slice.slicePlaces lo hi (-1))) _ _ s
  rw [rev_adj]
  show wpAny _ _ (pure (((items.size : Nat) : Int) - 1, (-1 : Int), Builtin.Slice.slicePlaces (((items.size : Nat) : Int) - 1) (-1) (-1))) _ _ s
  rw [rev_places]
  refine wpAny_pure ?_
  show wpAny _ _ (if ((((items.size : Nat) : Int) - 1) == 0 && (-1 : Int) == 1 && items.size == items.size) = true then _ else _) _ _ s
  rw [if_neg (by simp), rev_pick]
  first
    | exact wpAny_bind (m := Builtin.Tuple.tupleExact _) (wpAny_newObj_type (wpAny_pure ⟨_, rfl, wpAny_pure h⟩) htake)
    | exact wpAny_bind (m := Builtin.Tuple.tupleExact _) (wpAny_newObj_type (wpAny_bind (wpAny_pure (wpAny_pure ⟨_, rfl, wpAny_pure h⟩))) htake)
    | exact wpAny_bind (wpAny_bind (m := Builtin.Tuple.tupleExact _) (wpAny_newObj_type (wpAny_pure (wpAny_pure ⟨_, rfl, wpAny_pure h⟩)) htake))
    | exact wpAny_bind (wpAny_bind (m := Builtin.Tuple.tupleExact _) (wpAny_newObj_type (wpAny_pure ⟨_, rfl, wpAny_pure h⟩) htake))
end
section
variable {X : Cx} {Wx : WX} {pos : Pos}
def tRevA (K : PySem.W.Frag) (te : TE) : TE := fun σ H Q => te σ H fun x H1 => ∃ a xs, x = .ref a ∧ ((SqL K H1 a xs ∧ ∀ p, H1 p = none → Q (.ref p) (upd H1 p (.lst xs.reverse))) ∨ (SqT K H1 a xs ∧ ∀ p, H1 p = none → Q (.ref p) (upd H1 p (.tup xs.reverse))))
theorem pe_revA {e : Expr} {te : TE} {k : Nat} {p1 p2 p3 pos : Pos} (he : PE X e te) : PE X (.Subscript e (.Slice none none (some (.UnaryOp .USub (.Constant (.int 1) k p1) p2)) p3) pos) (tRevA X.K te) := by
  refine ⟨fun pins s σ H Q I h => ?_⟩
  refine Subscript_ (thn (he.run pins s σ H _ I h) fun v s1 ⟨x, H1, I1, r1, q1⟩ => ?_)
  obtain ⟨a, xs, ex, q⟩ := q1
  subst ex
  cases r1
  have hst : PO X (some (.UnaryOp .USub (.Constant (.int 1) k p1) p2)) (tPart (tUn (rU fun i => .int (-i)) (tC (.int 1)))) := po_some (pe_un un_neg pe_int)
  refine wpAny_Slice (thn (po_none.run pins s1 σ H1 (fun o H2 => o = none ∧ H2 = H1) I1 ⟨rfl, rfl⟩) fun vl s2 ⟨l, H2, I2, pl, el, e2⟩ => ?_)
  subst el e2
  refine thn (po_none.run pins s2 σ H2 (fun o H3 => o = none ∧ H3 = H2) I2 ⟨rfl, rfl⟩) fun vu s3 ⟨u, H3, I3, pu, eu, e3⟩ => ?_
  subst eu e3
  refine thn (hst.run pins s3 σ H3 (fun o H4 => o = some (-1) ∧ H4 = H3) I3 ⟨1, rfl, -1, rfl, rfl, rfl⟩) fun vs s4 ⟨o, H4, I4, ps, eo, e4⟩ => ?_
  subst eo e4
  have I5 : Inv X pins σ H4 { s4 with heap := s4.heap.push { cls := .type "slice", data := .fields #[vl, vu, vs] } } := I4.kept (t' := s4.toks) fun b ob q => Heap.get?_push_of_some _ q
  show wpAny (model X.prog X.w) X.A (subscriptTail e (.Slice none none (some (.UnaryOp .USub (.Constant (.int 1) k p1) p2)) p3) (.ref a) (.ref s4.heap.objs.size)) (EP X pins σ Q) X.xe { s4 with heap := s4.heap.push { cls := .type "slice", data := .fields #[vl, vu, vs] } }
  rcases q with ⟨hx, q⟩ | ⟨hx, q⟩
  · obtain ⟨its, r, ht, hz⟩ := I5.list hx
    have hlen := r.length
    refine tail_any (ops := [.ref a, .ref s4.heap.objs.size]) ht.isList.typeIs (PySem.slot_list_getitem.lookup) ?_ (by with_unfolding_all rfl)
    refine wpAny_getItem_list_slice ht.isList (Heap.IsSliceOf.new _ vl vu vs) pl pu ps (by decide) ?_ (by rw [List.size_toArray]; omega)
    rw [PySem.W.krv_pick]
    refine ⟨.ref _, _, I5.laid (t' := s4.toks) (o := .lst xs.reverse) (fun b ob q => Heap.get?_push_of_some _ q) (Nat.le_refl _) ?_, rfl, q _ (I5.hok.fresh (Nat.le_refl _))⟩
    exact ⟨by rw [List.length_reverse]; exact hz, _, 0, r.reverse, Heap.get?_push_size _ rfl⟩
  · obtain ⟨its, r, ht, hz⟩ := I5.tuple hx
    have hlen := r.length
    refine tail_any (ops := [.ref a, .ref s4.heap.objs.size]) ht.typeIs (PyProof.Rows.slot_tuple_getitem.lookup) ?_ (by with_unfolding_all rfl)
    refine getItem_tuple_rev ht (Heap.IsSliceOf.new _ vl vu vs) pl pu ps ?_ (by rw [List.size_toArray]; omega)
    refine ⟨.ref _, _, I5.laid (t' := s4.toks) (o := .tup xs.reverse) (fun b ob q => Heap.get?_push_of_some _ q) (Nat.le_refl _) ?_, rfl, q _ (I5.hok.fresh (Nat.le_refl _))⟩
    exact ⟨by rw [List.length_reverse]; exact hz, _, r.reverse, IsTup.new _ _⟩
theorem RDs.rev {g : G} {w : W} : ∀ {ds : List D} {vs : List V}, RDs g w ds vs → RDs g w ds.reverse vs.reverse
  | [], vs, r => by
    cases r
    exact rfl
  | d :: ds, vs, r => by
    obtain ⟨v, vs', rfl, r1, r2⟩ := r
    rw [List.reverse_cons, List.reverse_cons]
    exact r2.rev.append (RDs.one r1)
theorem de_rev {e : Expr} {ma : ME} {k : Nat} {p1 p2 p3 pos : Pos} (he : PE X e (TEof X.g Wx ma)) : PE X (.Subscript e (.Slice none none (some (.UnaryOp .USub (.Constant (.int 1) k p1) p2)) p3) pos) (TEof X.g Wx (eRev ma)) := by
  refine peImp (pe_revA he) fun σ H Q ⟨w, E, S, a, p⟩ => ?_
  refine ⟨w, E, S, a, PR.imp (PR.bind a.good a.env p) fun x H1 ⟨w1, d, S1, a1, x1, r1, p1⟩ => ?_⟩
  unfold oRev at p1
  rw [← a1.hp]
  split at p1
  · obtain ⟨q, vs, rfl, t, r⟩ := r1
    exact ⟨q, vs, rfl, .inr ⟨t.sq, fun z hz => new_tup p1 a1.good a1.sto r.rev z hz⟩⟩
  · split at p1
    · rename_i ds e2
      obtain ⟨q, vs, rfl, t, r⟩ := r1.lstAt a1.sto e2
      exact ⟨q, vs, rfl, .inl ⟨SqL.of t, fun z hz => new_lst p1 a1.good a1.sto r.rev z hz⟩⟩
    · exact p1.elim
/-! sorted of ints, of a tuple too -/
theorem insI_perm (n : Int) : ∀ ms, (insI n ms).Perm (n :: ms)
  | [] => List.Perm.refl _
  | m :: ms => by
    unfold insI
    split
    · exact List.Perm.refl _
    · exact ((insI_perm n ms).cons m).trans (List.Perm.swap _ _ _)
theorem sortI_perm : ∀ ns, (sortI ns).Perm ns
  | [] => List.Perm.refl _
  | n :: ns => (insI_perm n _).trans ((sortI_perm ns).cons n)
theorem insI_sorted (n : Int) : ∀ ms : List Int, ms.Pairwise (· ≤ ·) → (insI n ms).Pairwise (· ≤ ·)
  | [], _ => by unfold insI; simp
  | m :: ms, h => by
    have h0 := List.pairwise_cons.mp h
    unfold insI
    split
    · rename_i hl
      refine List.pairwise_cons.mpr ⟨fun x hx => ?_, h⟩
      rcases List.mem_cons.mp hx with rfl | hx
      · exact hl
      · exact Int.le_trans hl (h0.1 x hx)
    · rename_i hl
      refine List.pairwise_cons.mpr ⟨fun x hx => ?_, insI_sorted n ms h0.2⟩
      rcases List.mem_cons.mp ((insI_perm n ms).mem_iff.mp hx) with rfl | hx
      · omega
      · exact h0.1 x hx
theorem sortI_sorted : ∀ ns, (sortI ns).Pairwise (· ≤ ·)
  | [] => List.Pairwise.nil
  | n :: ns => insI_sorted n _ (sortI_sorted ns)
theorem sorted_uniq : ∀ {as bs : List Int}, as.Perm bs → as.Pairwise (· ≤ ·) → bs.Pairwise (· ≤ ·) → as = bs
  | [], bs, p, _, _ => by simpa using p.symm
  | a :: as, [], p, _, _ => by simpa using p
  | a :: as, b :: bs, p, h1, h2 => by
    have h1' := List.pairwise_cons.mp h1
    have h2' := List.pairwise_cons.mp h2
    have e : a = b := by
      have m1 : a ∈ b :: bs := p.mem_iff.mp List.mem_cons_self
      have m2 : b ∈ a :: as := p.mem_iff.mpr List.mem_cons_self
      rcases List.mem_cons.mp m1 with e | m1
      · exact e
      · rcases List.mem_cons.mp m2 with e | m2
        · exact e.symm
        · exact Int.le_antisymm (h1'.1 b m2) (h2'.1 a m1)
    subst e
    rw [sorted_uniq (List.perm_cons a |>.mp p) h1'.2 h2'.2]
end
section
variable {prog : Program} {w : World} {A : Around} {E : Value → Shared → Prop} {s : Shared}
theorem collect_tup {l : Addr} {vs : List Value} {Q : List Value → Shared → Prop} (hl : IsTup s.heap l vs.toArray)
    (h : Q vs { s with heap := (s.heap.push (seqObj "list" #[] 0)).update s.heap.objs.size (Obj.mapSeq (· ++ vs.toArray)) }) (hsz : vs.length ≤ sizeLine) :
    wpAny (model prog w) A (collect (.ref l)) Q E s := by
  obtain ⟨o, ho, hc, n, hd⟩ := id hl
  unfold collect
  refine wpAny_bind (wpAny_runValue (codeAny_builtin entry_proto_collect' ?_))
  show wpAny _ _ (do again (.builtin "list.__iadd__" ⟨[← newList [], .ref l], []⟩)) _ _ s
  refine wpAny_bind (wpAny_newList (wpAny_pure ⟨Code.quiet_builtin _ (by decide +kernel), codeAny_builtin entry_list_iadd' ?_⟩))
  show wpAny _ _ (Builtin.List.listExtendWith (.ref s.heap.objs.size) (.ref l) (.ref s.heap.objs.size)) _ _ { s with heap := s.heap.push (seqObj "list" #[] 0) }
  unfold Builtin.List.listExtendWith
  have ho' : (s.heap.push (seqObj "list" #[] 0)).get? l = some o := Heap.get?_push_of_some _ ho
  refine wpAny_bind (wpAny_typeOf (T := "tuple") ⟨o, ho', hc⟩ ?_)
  have ht : (Value.type "tuple" == Value.type "tuple") = true := by rfl
  rw [if_pos (by rw [ht]; simp)]
  refine wpAny_bind (listItems_at ho' hd ?_)
  refine wpAny_bind (listItems_at (xs := #[]) (n := 0) (Heap.get?_push_size _ rfl) rfl ?_)
  rw [if_neg (by simp)]
  refine wpAny_bind (listUpdate_at (xs := #[]) (n := 0) (Heap.get?_push_size _ rfl) rfl ?_ (Nat.zero_le _) (by show (#[] ++ vs.toArray).size ≤ sizeLine + 1; simp only [Array.size_append, List.size_toArray, List.length_nil]; omega))
  refine wpAny_pure ?_
  show wpAny (model prog w) A (do
      let o ← load s.heap.objs.size
      match o.data with
      | .seq xs _ => pure xs.toList
      | _ => unsupported "internal:collect") Q E { s with heap := (s.heap.push (seqObj "list" #[] 0)).update s.heap.objs.size (Obj.mapSeq (· ++ vs.toArray)) }
  refine wpAny_bind (wpAny_load (get?_update_seq (Heap.get?_push_size _ rfl) _) ?_)
  show wpAny _ _ (pure ((#[] : Array Value) ++ vs.toArray).toList) Q E _
  rw [show ((#[] : Array Value) ++ vs.toArray).toList = vs by simp]
  exact wpAny_pure h
open SrtO in
theorem sortedT_ord {l : Addr} {vs : List Value} {ltv : Value → Value → Bool} {Q : Value → Shared → Prop} (O : Swo ltv) (hl : IsTup s.heap l vs.toArray) (hz : vs.length ≤ sizeLine)
    (hS : 2 ≤ vs.length → ∀ (h₁ : Heap) (a : Addr), h₁.get? a = some (seqObj "list" vs.toArray 0) → SortableO prog w A.in1.in1 { s with heap := h₁ } a vs ltv)
    (h : ∀ out : List Value, Srtd ltv out → Stb ltv out vs → Q (.ref (s.heap.objs.size + 1)) { s with heap := sortedAll s.heap vs out.toArray }) :
    wpAny (model prog w) A (call (.builtin "sorted") [.ref l]) Q E s := by
  refine Calls.call_function_entry kind_sorted plain_sorted entry_sorted (args_sorted1 _) ?_
  unfold Builtin.«sorted»
  refine wpAny_bind (m := checkCount "sorted" 1 1 _) (wpAny_pure ?_)
  refine wpAny_bind (collect_tup hl ?_ hz)
  refine wpAny_bind (wpAny_newList ?_ hz)
  have hsz : ((s.heap.push (seqObj "list" #[] 0)).update s.heap.objs.size (Obj.mapSeq (· ++ vs.toArray))).objs.size = s.heap.objs.size + 1 := by
    rw [Heap.size_update, size_push']
  have hoL : (((s.heap.push (seqObj "list" #[] 0)).update s.heap.objs.size (Obj.mapSeq (· ++ vs.toArray))).push (seqObj "list" vs.toArray 0)).get? (s.heap.objs.size + 1) = some (seqObj "list" vs.toArray 0) := by
    rw [← hsz]; exact Heap.get?_push_size _ rfl
  show wpAny _ _ _ _ _ { s with heap := ((s.heap.push (seqObj "list" #[] 0)).update s.heap.objs.size (Obj.mapSeq (· ++ vs.toArray))).push (seqObj "list" vs.toArray 0) }
  rw [hsz]
  refine wpAny_bind (wpAny_holding (wpAny_call_entry slot_list_sort ⟨_, hoL, rfl⟩ entry_list_sort (list_sort_ord O hoL hz (fun h2 => hS h2 _ _ hoL) fun out hs hb => ⟨_, rfl, ?_⟩) (args_list_sort _)))
  exact wpAny_pure ⟨_, rfl, h out hs hb⟩
end
section
variable {X : Cx} {Wx : WX} {pos : Pos}
theorem crT_sortedI : CallR X (.builtin "sorted") (fun vs H Q => ∃ (a : Addr) (ns : List Int), vs = [V.ref a] ∧ SqT X.K H a (ns.map V.int) ∧
    ∀ (ns' : List Int) (p : Addr), ns'.Perm ns → ns'.Pairwise (· ≤ ·) → H p = none → Q (.ref p) (upd H p (.lst (ns'.map V.int)))) := by
  intro pins s σ H vs us Q I r h
  obtain ⟨a, ns, rfl, hs, q⟩ := h
  obtain ⟨its, rv, hl, hz⟩ := I.tuple hs
  rw [Vals.ref1 r]
  have hi := rv.ints
  refine sortedT_ord SrtO.swo_int hl (by rw [← rv.length]; exact hz) (fun h2 h₁ a' _ => SrtO.ints_sortable hi h2) fun out h1 h2 => ?_
  obtain ⟨k1, k2, k3⟩ := SrtO.ints_out hi h1 h2
  obtain ⟨ep, he'⟩ := PyProof.Rows.sortedAll_at s.heap its out.toArray
  have hlen : ((out.map SrtO.iv).map V.int).length ≤ sizeLine := by
    rw [List.length_map, k2.length_eq]
    rw [List.length_map] at hz
    exact hz
  exact ⟨.ref _, upd H (s.heap.objs.size + 1) (.lst ((out.map SrtO.iv).map V.int)), I.laid (t' := s.toks) (fun _ _ => PyProof.Rows.sortedAll_old) (Nat.le_succ _) ⟨hlen, out, ep, vals_of_ints k1, he'⟩, rfl, q _ _ k2 k3 (I.hok.fresh (Nat.le_succ _))⟩
theorem rds_ints {g : G} {w : W} : ∀ ns : List Int, RDs g w (ns.map D.int) (ns.map V.int)
  | [] => rfl
  | n :: ns => ⟨.int n, ns.map V.int, rfl, rfl, rds_ints ns⟩
theorem jc_sorted : CallR X (.builtin "sorted") (argOf X.g bSorted) := by
  intro pins s σ H xs us Q I r ⟨Wx, σ', w, S, ds, hH, G, rs, r1, p⟩
  subst hH
  unfold bSorted at p
  split at p
  · obtain ⟨v, rfl, r2⟩ := r1.one'
    split at p
    · rename_i xs e
      split at p
      · rename_i ns e2
        obtain ⟨a, vs, rfl, t, r3⟩ := r2.seq rs e
        have := ints_vals r3 e2
        subst this
        have fin : ∀ (ns' : List Int) (p' : Addr), ns'.Perm ns → ns'.Pairwise (· ≤ ·) → w.H p' = none → Q (.ref p') (upd w.H p' (.lst (ns'.map V.int))) := fun ns' p' h1 h2 h3 => by
          have e3 : ns' = sortI ns := sorted_uniq (h1.trans (sortI_perm ns).symm) h2 (sortI_sorted ns)
          subst e3
          exact new_lst p G rs (rds_ints _) p' h3
        rcases t with t | t
        · exact cr_sortedI pins s σ _ _ us Q I r ⟨a, ns, rfl, t, fin⟩
        · exact crT_sortedI pins s σ _ _ us Q I r ⟨a, ns, rfl, t, fin⟩
      · exact p.elim
    · exact p.elim
  · exact p.elim
/-! bool(x) -/
theorem jc_bool : CallR X (.type "bool") (argOf X.g bBool) := by
  intro pins s σ H xs us Q I r ⟨Wx, σ', w, S, ds, hH, G, rs, r1, p⟩
  subst hH
  unfold bBool at p
  split at p
  · obtain ⟨v, rfl, r2⟩ := r1.one'
    cases r2
    exact call_bool1 pins s σ _ _ us Q I r (.inl ⟨_, rfl, putSame p G rs rfl⟩)
  · obtain ⟨v, rfl, r2⟩ := r1.one'
    cases r2
    exact call_bool1 pins s σ _ _ us Q I r (.inr ⟨_, rfl, putSame p G rs rfl⟩)
  · exact p.elim
/-! t.count(k), ints -/
theorem jm_countT (hu : X.A.units + 1 < cLine) : MtR X "tuple.count" (mtOf X.g mCountT) := by
  intro pins s σ H x xs v us Q I rx rs' ⟨Wx, σ', w, S, d, ds, hH, G, rs, r1, r2, p⟩
  subst hH
  unfold mCountT at p
  split at p
  · obtain ⟨z, rfl, r3⟩ := r2.one'
    split at p
    · rename_i ns e
      obtain ⟨a, vs, rfl, t, r4⟩ := r1
      have := ints_vals r4 e
      subst this
      cases r3
      cases rx
      obtain ⟨u, rfl, tk, rfl⟩ := rs'.one
      obtain ⟨its, rv, pl, hz⟩ := I.tuple t.sq
      refine PySem.W.count_tuple_datum (α := Int) (xs := ns) pl (hold_ints rv) (PySem.W.holds_int _ tk) (by simpa [PySem.W.Datum.depth] using hu) ?_
      refine ⟨.int _, w.H, I.tok _, ⟨_, rfl⟩, ?_⟩
      exact putSame p G rs (by
        show V.int _ = V.int _
        congr 1)
    · exact p.elim
  · exact p.elim
/-! t * 0 -/
theorem tuple_mulW0 (l : Addr) (items : Array Value) (n : Nat) (dd : Option Addr) (sl : Array (Option Value)) (u : Tok) (hi : items.isEmpty = false) :
    Meets (Builtin.«tuple.__mul__» ⟨[.ref l, .int 0 u], []⟩) (fun _ R s => s.heap.get? l = some { cls := .type "tuple", dict := dd, data := .seq items n, slots := sl } ∧
      R (.ok (.ret (Value.ref s.heap.objs.size))) { s with heap := s.heap.push { cls := Value.type "tuple", data := Data.seq #[] }, toks := s.toks }) :=
  .of_wp fun prog w A R s h => by
    obtain ⟨hp, g, d, tk, os⟩ := s
    obtain ⟨hl, h⟩ := h
    have f1 := AutoSeq1.idx_int
    have c0 : (decide ((0 : Int) < -(2 ^ 63)) || decide ((0 : Int) ≥ 2 ^ 63)) = false := by decide
    have c1 : (items.isEmpty || (0 : Int) == 1) = false := by rw [hi]; rfl
    have c2 : (decide ((0 : Int) ≤ 0) || items.isEmpty) = true := by simp
    wp_walk using wpAny_loadPart' hl
    repeat (first
      | (refine wpAny_ite_false (decide_eq_false (by rw [c0]; exact Bool.false_ne_true)) ?_; wp_walk using wpAny_loadPart' hl)
      | (refine wpAny_ite_false (decide_eq_false (by rw [c1]; exact Bool.false_ne_true)) ?_; wp_walk using wpAny_loadPart' hl)
      | (refine wpAny_ite_true (decide_eq_true (by rw [c2])) ?_; wp_walk using wpAny_loadPart' hl))
    exact ⟨_, rfl, h⟩
theorem op_repT0 : OpR X (binaryOp .Mult) (fun x y H Q => ∃ l xs, x = .ref l ∧ y = .int 0 ∧ SqT X.K H l xs ∧ xs ≠ [] ∧ ∀ p, H p = none → Q (.ref p) (upd H p (.tup []))) := by
  intro pins s σ H x y v u Q I rx ry h
  obtain ⟨l, xs, rfl, rfl, hT, hne, q⟩ := h
  cases rx
  obtain ⟨t, rfl⟩ := ry
  obtain ⟨its, r, ⟨⟨cls, dd, data, sl⟩, ho, hc, n, hd⟩, hs⟩ := I.tuple hT
  simp only at hc hd
  subst hc hd
  have hi : its.toArray.isEmpty = false := by
    cases its with
    | nil => cases r; exact absurd rfl hne
    | cons a b => rfl
  refine wpAny_binaryOp_repeat_ref (T := "tuple") (U := "int") (by decide) ⟨_, ho, rfl⟩ (fun s' => typeIs_int s' 0 t) noFill_tuple_mul F.fills_int_mul F.slot_int_rmul repeat_tuple F.slot_int_index.lookup
    (call_meets F.slot_int_rmul (typeIs_int s 0 t) F.entry_int_rmul (F.args_int_rmul_2 _ _) (int_rmul_tuple 0 t l its.toArray n dd sl)
      ⟨ho, rfl, ⟨_, ho, rfl⟩, call_meets F.slot_tuple_mul ⟨_, ho, rfl⟩ F.entry_tuple_mul (F.args_tuple_mul_2 _ _) (tuple_mulW0 l its.toArray n dd sl t hi) ⟨ho, ?_⟩⟩)
  exact ⟨.ref _, _, I.laid (t' := s.toks) (o := .tup []) (fun b ob q => Heap.get?_push_of_some _ q) (Nat.le_refl _) ⟨Nat.zero_le _, [], .nil, IsTup.new _ _⟩, rfl, q _ (I.hok.fresh (Nat.le_refl _))⟩
theorem jo_mulT : OpR X (binaryOp .Mult) (opOf X.g oMulT) := by
  intro pins s σ H x y v u Q I rx ry ⟨Wx, σ', w, S, d, e, hH, G, rs, r1, r2, p⟩
  unfold oMulT at p
  split at p
  · split at p
    · rename_i xs hne
      subst hH
      cases r2
      obtain ⟨a, vs, rfl, ta, ra⟩ := r1
      refine op_repT0 pins s σ _ _ _ v u Q I rx ry ⟨a, vs, rfl, rfl, ta.sq, fun z => hne ?_, new_tup p G rs rfl⟩
      have := ra.length
      rw [z] at this
      exact List.eq_nil_of_length_eq_zero this.symm
    · exact p.elim
  · exact jo_mul pins s σ H x y v u Q I rx ry ⟨Wx, σ', w, S, d, e, hH, G, rs, r1, r2, p⟩
end
end J
set_option Elab.async false
set_option linter.all false
set_option maxRecDepth 100000
set_option maxHeartbeats 1000000
namespace J
open PySem PySem.Spec PyProof.Rows L2
section
variable {X : Cx} {Wx : WX} {pos : Pos}
theorem putKs_len {ks : List Ky} {k : Ky} : (putKs ks k).length ≤ ks.length + 1 := by
  unfold putKs
  split
  · omega
  · simp
theorem put_zip {g : G} {w : W} {ks : List Ky} {ds : List D} {vs : List V} {k : Ky} {d : D} {v : V} (l : ks.length = vs.length) (r : RDs g w ds vs) (rd : RD g w d v) :
    ∃ us, L2.putK (ks.zip vs) k v = (putKs ks k).zip us ∧ (putKs ks k).length = us.length ∧ RDs g w (putDs ks ds k d) us := by
  have ea : ((ks.zip vs).any fun kv => decide (kv.1 = k)) = keyIn ks k := by rw [valV_any, valV_some k l]
  unfold L2.putK putKs putDs
  rw [ea]
  cases hk : keyIn ks k with
  | true =>
    rw [if_pos rfl, if_pos rfl, if_pos rfl, zip_map (ks := ks) k v l]
    exact ⟨_, rfl, by simp [l], RDs.zipSet k rd r⟩
  | false =>
    rw [if_neg Bool.false_ne_true, if_neg Bool.false_ne_true, if_neg Bool.false_ne_true]
    refine ⟨vs ++ [v], by rw [List.zip_append l]; rfl, by simp [l], r.append (RDs.one rd)⟩
theorem dcUse {own : List Nat} {mi : MI} {t : Tg} {mc : MT} {mk mv : ME} (hsl : ∀ i, i ∈ t.slots → i ∈ own) :
    ∀ (σ : L2.St) H Q, TEof X.g Wx (eDc own t mi mc mk mv) σ H Q → tDc (TIof X.g Wx mi) (TGof X.g t) (TTof X.g W0 mc) (TEof X.g W0 mk) (TEof X.g W0 mv) own σ H Q := fun σ H Q ⟨w, E, S, a, p⟩ => by
  refine ⟨w, E, S, a, ?_⟩
  unfold eDc at p
  cases hmi : mi E S with
  | bad => rw [hmi] at p; exact p.elim
  | exc c fs S1 => rw [hmi] at p; exact p
  | ok src S1 =>
    rw [hmi] at p
    simp only at p
    split at p
    · rename_i hsz
      intro J0 w1 x1 G1 it rs1 Dd hD
      have p1 := PR.at p x1
      have re1 := a.env.mono a.good x1
      have nD : Dd ∉ w1.rhA := fun z => G1.al Dd (G1.sub Dd z) hD
      refine ⟨fun i k H => ∃ w2 ks ds vs S2, w2.H = H ∧ Good w2 ∧ RS X.g w2 S2 ∧ Ext w1 w2 ∧ Dd ∉ w2.rhA ∧ S1.length ≤ S2.length ∧ w2.thA Dd ∧ H Dd = some (.dK (ks.zip vs)) ∧ ks.length = vs.length ∧ RDs X.g w2 ds vs ∧ ks.length ≤ i ∧ i + k = src.len ∧ PR X.g Wx σ w1 (RD X.g) Q (dcGo src t mc mk mv (wipeE E own) S1.length k i ks ds S2),
        ⟨src.len, w1.hide Dd (.dK []), [], [], [], S1, rfl, hide_good G1 hD, rs1.keep G1 (hide_ext hD) rfl (fun b hb => upd_ne fun e => nD (by rw [← e]; exact hb)), hide_ext hD, nD, Nat.le_refl _, .inr rfl, upd_same, rfl, rfl, Nat.zero_le _, by omega, p1⟩, ?_⟩
      rintro i k H ⟨w2, ks, ds, vs, S2, rfl, G2, rs2, x2, hr2, hl2, hthA2, hD2, hkv, r2, hai, hik, p2⟩
      cases k with
      | zero =>
        simp only [dcGo] at p2
        split at p2
        · rename_i al
          have hi : i = src.len := by omega
          subst hi
          refine .inl ⟨it.stop w2 S2 x2 rs2 al, ?_⟩
          have k : Weak w2 ⟨fun a => w2.thA a ∧ a ≠ Dd, w2.rhA, w2.H⟩ := weak_take rfl fun _ z => z.1
          exact p2 (.ref Dd) ⟨fun a => w2.thA a ∧ a ≠ Dd, w2.rhA, w2.H⟩ ⟨x2.rho, fun a h => ⟨x2.th1 a h, fun z => G1.al a h (by rw [z]; exact hD)⟩, fun a h => x2.th2 a h.1, x2.kp, x2.al⟩
            ⟨G2.nd, fun a h => ⟨G2.sub a h, fun z => hr2 (by rw [← z]; exact h)⟩, fun a h => G2.al a h.1, fun a h => G2.nt a h.1⟩ ⟨Dd, vs, rfl, .inl hD2, hkv, fun z => z.2 rfl, RDs.weakW k (fun _ _ h => h) _ _ r2⟩ (rs2.weakW k rfl fun _ _ => rfl)
        · exact p2.elim
      | succ k =>
        simp only [dcGo] at p2
        split at p2
        · rename_i al
          split at p2
          · exact p2.elim
          · rename_i d hd
            split at p2
            · exact p2.elim
            · rename_i E1 hE
              have hlt : i < src.len := by omega
              refine .inr ⟨it.go i w2 S2 d x2 rs2 al hd hlt, fun H' => ∃ w2 ks ds vs S2, w2.H = H' ∧ Good w2 ∧ RS X.g w2 S2 ∧ Ext w1 w2 ∧ Dd ∉ w2.rhA ∧ S1.length ≤ S2.length ∧ w2.thA Dd ∧ H' Dd = some (.dK (ks.zip vs)) ∧ ks.length = vs.length ∧ RDs X.g w2 ds vs ∧ ks.length ≤ i + 1 ∧ (i + 1) + k = src.len ∧ PR X.g Wx σ w1 (RD X.g) Q (dcGo src t mc mk mv (wipeE E own) S1.length k (i + 1) ks ds S2), fun H' hN => ⟨k, Nat.lt_succ_self k, hN⟩, fun x H' hy => ?_⟩
              obtain ⟨w3, rfl, x3, G3, hr3, hthA3, r3, rs3⟩ := it.yld i w2 S2 d x H' x2 G2 rs2 al hd hlt hy
              have nD2 : Dd ∉ w2.rhA := hr2
              have nD3 : Dd ∉ w3.rhA := by rw [hr3]; exact nD2
              have hthAD3 : w3.thA Dd := x3.th1 Dd hthA2
              have hD3 : w3.H Dd = some (.dK (ks.zip vs)) := x3.kpT hD2 nD2 hthA2
              have rw3 : RE X.g w3 (wipeE E own) (L2.wipe σ own) := ((re1.mono G1 x2).mono G2 x3).wipe own
              refine ⟨w3, wipeE E own, S2, d, E1, ⟨rfl, G3, rw3, rs3⟩, r3, hE, fun σ' re hk hl => ⟨wipe_eq hsl hk hl, w3, E1, S2, ⟨rfl, G3, re, rs3⟩, ?_⟩⟩
              cases hc : mc E1 S2 with
              | bad => rw [hc] at p2; exact p2.elim
              | exc c fs S3 => rw [hc] at p2; exact p2.elim
              | ok b S3 =>
                rw [hc] at p2
                simp only at p2
                intro b' w4 x4 G4 rb rs4
                obtain rfl : b = b' := rb
                have rho : ∀ (w5 : W), Ext w3 w5 → Dd ∉ w5.rhA := fun w5 x5 z => by
                  obtain ⟨τ, e5, f5⟩ := x5.rho
                  rw [e5] at z
                  rcases List.mem_append.mp z with z | z
                  · exact nD3 z
                  · have := f5 Dd z
                    rw [hD3] at this
                    cases this
                cases b with
                | false =>
                  rw [if_neg Bool.false_ne_true] at p2 ⊢
                  split at p2
                  · rename_i l3
                    exact ⟨w4, ks, ds, vs, S3, rfl, G4, rs4, x2.trans (x3.trans x4), rho w4 x4, l3, x4.th1 Dd hthAD3, x4.kpT hD3 nD3 hthAD3, hkv, (r2.mono G2 (x3.trans x4)), by omega, by omega, p2⟩
                  · exact p2.elim
                | true =>
                  rw [if_pos rfl] at p2 ⊢
                  refine ⟨w4, E1, S3, ⟨rfl, G4, re.mono G3 x4, rs4⟩, ?_⟩
                  cases he : mk E1 S3 with
                  | bad => rw [he] at p2; exact p2.elim
                  | exc c fs S3 => rw [he] at p2; exact p2.elim
                  | ok z S4 =>
                    rw [he] at p2
                    simp only at p2
                    split at p2
                    · exact p2.elim
                    · rename_i q hq
                      intro y w5 x5 G5 rz rs5
                      obtain rfl : y = kV q := keyOf_kV rz hq
                      refine ⟨w5, E1, S4, ⟨rfl, G5, (re.mono G3 x4).mono G4 x5, rs5⟩, ?_⟩
                      cases hv : mv E1 S4 with
                      | bad => rw [hv] at p2; exact p2.elim
                      | exc c fs S3 => rw [hv] at p2; exact p2.elim
                      | ok zz S5 =>
                        rw [hv] at p2
                        simp only at p2
                        split at p2
                        · rename_i l4
                          intro u w6 x6 G6 ru rs6
                          have x36 := x4.trans (x5.trans x6)
                          have hr6 := rho w6 x36
                          have hthAD6 : w6.thA Dd := x36.th1 Dd hthAD3
                          have hD6 : w6.H Dd = some (.dK (ks.zip vs)) := x36.kpT hD3 nD3 hthAD3
                          have r6 : RDs X.g w6 ds vs := r2.mono G2 (x3.trans x36)
                          obtain ⟨us, ez, lz, rz6⟩ := put_zip (k := q) hkv r6 ru
                          refine ⟨ks.zip vs, q, rfl, hD6, by rw [List.length_zip, ← hkv, Nat.min_self, ← sl_eq]; omega, ?_⟩
                          rw [ez]
                          have kw : Weak w6 { w6 with H := upd w6.H Dd (.dK ((putKs ks q).zip us)) } := weak_upd hthAD6
                          have x16 := x2.trans (x3.trans x36)
                          refine ⟨{ w6 with H := upd w6.H Dd (.dK ((putKs ks q).zip us)) }, putKs ks q, putDs ks ds q zz, us, S5, rfl, put_upd G6, rs6.weakW kw rfl (fun b hb => upd_ne fun e => hr6 (by rw [← e]; exact hb)), ⟨x16.rho, x16.th1, x16.th2, fun b o hb nb => ?_, fun b hb => ?_⟩, hr6, l4, hthAD6, upd_same, lz, RDs.weakW kw (fun _ _ h => h) _ _ rz6, by have := putKs_len (ks := ks) (k := q); omega, by omega, p2⟩
                          · have hne : b ≠ Dd := fun e => by rw [e, hD] at hb; cases hb
                            rcases x16.kp b o hb nb with q | ⟨nt, od, kvs, eo, q⟩
                            · exact .inl ((upd_ne hne).trans q)
                            · exact .inr ⟨nt, od, kvs, eo, (upd_ne hne).trans q⟩
                          · show upd w6.H Dd _ b ≠ none
                            by_cases e : b = Dd
                            · rw [e, upd_same]; simp
                            · rw [upd_ne e]; exact x16.al b hb
                        · exact p2.elim
        · exact p2.elim
    · exact p.elim
theorem de_dc {kx vx tg iter : Expr} {ifs : List Expr} {scope : Scope} {own : List (Str × Nat)} {mi : MI} {t : Tg} {mc : MT} {mk mv : ME} (hsl : ∀ i, i ∈ t.slots → i ∈ own.map (·.2))
    (h : PE X (.DictComp kx vx [⟨tg, iter, ifs, 0⟩] scope pos) (tDc (TIof X.g Wx mi) (TGof X.g t) (TTof X.g W0 mc) (TEof X.g W0 mk) (TEof X.g W0 mv) (own.map (·.2)))) : PE X (.DictComp kx vx [⟨tg, iter, ifs, 0⟩] scope pos) (TEof X.g Wx (eDc (own.map (·.2)) t mi mc mk mv)) := peImp h (dcUse hsl)
theorem getK_some : ∀ {ks : List Ky} {ds : List D} {k : Ky}, ks.length = ds.length → keyIn ks k = true → ∃ d, getK ks ds k = some d
  | [], _, k, _, h => by simp [keyIn] at h
  | q :: ks, [], k, l, h => by simp at l
  | q :: ks, d :: ds, k, l, h => by
    unfold getK
    by_cases e : q = k
    · exact ⟨d, by rw [if_pos e]⟩
    · rw [if_neg e]
      refine getK_some (by simpa using l) ?_
      unfold keyIn at h ⊢
      simpa [e] using h
/-- y = {k: v for ..} -/
theorem ps_setDc {i : Nat} {y : Str} {py : Pos} {kx vx tg iter : Expr} {ifs : List Expr} {scope : Scope} {own : List (Str × Nat)} {pos spos : Pos} {wi : TI} {g : TG} {tt : TT} {tk tv : TE} (hc : X.calm = true) (hN : X.N.Nodup) (hy : X.N[i]? = some y) (hyl : X.env.scope.names.lookup y = some .local)
    (hsw : swapsWith (.DictComp kx vx [⟨tg, iter, ifs, 0⟩] scope pos) (some (.Name y py)) spos.line X.env = pure true) (hi : PI X tg iter wi) (ok : BlkOk X.N X.env.scope scope own)
    (hg : ∀ (s : Shared) (H : Hp) (C : Addr) (cl : List (Str × Addr)) (fp : List Addr), PG (X.blk s H scope (compEnvC scope cl C X.env) fp) tg g) (ht : ∀ (s : Shared) (H : Hp) (C : Addr) (cl : List (Str × Addr)) (fp : List Addr), PTs (X.blk s H scope (compEnvC scope cl C X.env) fp) ifs tt)
    (hk : ∀ (s : Shared) (H : Hp) (C : Addr) (cl : List (Str × Addr)) (fp : List Addr), PE (X.blk s H scope (compEnvC scope cl C X.env) fp) kx tk)
    (he : ∀ (s : Shared) (H : Hp) (C : Addr) (cl : List (Str × Addr)) (fp : List Addr), PE (X.blk s H scope (compEnvC scope cl C X.env) fp) vx tv) (hs : ∀ x, foldedSetIterable iter X.env x = pure x := by intro _; rfl) :
    PS X (.Assign [.Name y py] (.DictComp kx vx [⟨tg, iter, ifs, 0⟩] scope pos) spos) (tAsg (tDc wi g tt tk tv (own.map (·.2))) (gName i)) := by
  refine ⟨fun pins s σ H D I h => ?_⟩
  rw [exec_Assign_Name_used _ _ _ _ hsw]
  refine wpAny_bind (wpAny_standAt (wpAny_bind ?_))
  show wpAny _ X.A (do let _ ← comprehension (.DictComp kx vx [⟨tg, iter, ifs, 0⟩] scope pos) scope X.env (firstIterPos [⟨tg, iter, ifs, 0⟩] pos) newDict false (eval iter X.env) (some (assign (.Name y py) X.env))) _ _ s
  have h : tDc wi g tt tk tv (own.map (·.2)) σ H (fun x H1 => gName i x σ H1 D.nx) := h
  refine wpAny_bind (thn (dc_core (Qf := fun _ s' => SP X pins D .next s') hc hN I hi ok hg ht hk he hs h fun L C s' m H' I' q hn f => ?_) fun _ s' hq => wpAny_pure (wpAny_pure hq))
  show wpAny _ _ (assign (.Name y py) X.env (.ref L)) _ _ _
  refine wpAny_assign_Name (store_ok2 (v := V.ref L) I' hN hy (.inl hyl) rfl (fun s2 I2 ⟨a, sb, ha⟩ => ?_) (.inr hyl))
  obtain ⟨f0, f1, f2, f3, f4, f5⟩ := f
  have haC : C ≠ a := by
    rcases ha with z | z
    · rw [z]; exact f1
    · exact fun e => f4 y a z e.symm
  refine ⟨m, hn.sameBut sb haC, fun h3 sb3 => ?_⟩
  exact ⟨_, H', I2.turned (t' := s2.toks) (fun b o hb e => (sb3.2 b hb).trans e) f0 f1 f3 f4 f5, q⟩
theorem sw_trueD {kx vx : Expr} {gs : List Comprehension} {scope : Scope} {pos py : Pos} {y : Str} {l : Nat} {env : PySem.Env} (hk : env.scope.kind = .function) (hy : env.scope.names.lookup y = some .local) (hl : (py.line == pos.line) = true)
    (ha : (scope.names.any fun (n, k) => n == y && (k == .local || k == .cell)) = false) : swapsWith (.DictComp kx vx gs scope pos) (some (.Name y py)) l env = pure true := by
  have ky : env.kindOf y = some .local := hy
  have hb : env.blockKind = .function := by unfold Env.blockKind; rw [hk]; rfl
  unfold swapsWith
  simp only [hb, ky, ha, Expr.pos, hl]
  rfl
/-! min(d) -/
theorem intKys_map : ∀ {ks : List Ky} {is : List Int}, intKys ks = some is → ks = is.map Sum.inl
  | [], is, h => by cases h; rfl
  | .inl i :: ks, is, h => by
    simp only [intKys, Option.map_eq_some_iff] at h
    obtain ⟨js, h1, rfl⟩ := h
    rw [intKys_map h1]
    rfl
  | .inr x :: ks, is, h => by simp [intKys] at h
theorem cr_minR (hc : X.calm = true) : CallR X (.builtin "min") (fun vs H Q => ∃ (a : Addr) (kvs : List (Key × V)) (is : List Int), vs = [V.ref a] ∧ Rd H a (.dK kvs) ∧ kvs.map (·.1) = is.map Sum.inl ∧ is ≠ [] ∧ ∀ m, m ∈ is → (∀ j ∈ is, m ≤ j) → Q (.int m) H) := by
  intro pins s σ H vs us Q I r h
  obtain ⟨a, kvs, is, rfl, ha, hv, hne, q⟩ := h
  rw [Vals.ref1 r]
  obtain ⟨_, hsys, vs, rel, dof⟩ := dk_rd I.hok ha
  obtain ⟨ep, dat⟩ := dof.dictAt
  obtain ⟨ob, es, ho, hex, hdat, hko, hpr, hnd⟩ := id dat
  have hlt : a < s.heap.objs.size := Heap.lt_size ho
  have hkeys : vs.map (·.1) = is.map Sum.inl := (KV.keys rel).symm.trans hv
  have hlv : vs.length = is.length := by
    have e1 := congrArg List.length hkeys
    rw [List.length_map, List.length_map] at e1
    exact e1
  have hlen : 0 < vs.length := by
    rw [hlv]
    exact List.length_pos_iff.mpr hne
  have hval : ∀ (i : Nat) (v : Value), (∃ k x, vs[i]? = some (k, x) ∧ (mixKind X.prog X.w).is k v = true) → ∃ t, v = Value.int (is.getD i 0) t := fun i v ⟨k, x, hk, hkey⟩ => by
    have e1 : (vs.map (·.1))[i]? = some k := by rw [List.getElem?_map, hk] <;> rfl
    rw [hkeys, List.getElem?_map] at e1
    obtain ⟨j, hj, e2⟩ := Option.map_eq_some_iff.mp e1
    subst e2
    have hi : Value.isInt j v = true := hkey
    obtain ⟨t, e3⟩ := Value.isInt_shape (k := j) (v := v) hi
    refine ⟨t, ?_⟩
    rw [e3, List.getD_eq_getElem?_getD, hj] <;> rfl
  refine call_min_walk (wpAny_pyIter_dict (knd := mixKind X.prog X.w) hsys dat ?_)
  refine ⟨_, _, _, _, _, _, _, rfl, Walks.dictKeys (knd := mixKind X.prog X.w) (A := X.A.in1) (I.ok.hd hc) s.heap.objs.size a (Nat.ne_of_lt hlt) vs ep,
    ⟨⟨_, Heap.get?_push_size _ rfl, rfl, rfl⟩, dat.keep fun b u e => Heap.get?_push_of_some _ e⟩, fun b hb => ?_, hlen, CmpOf.ints_lt (fun i => is.getD i 0) hval, fun v h' tk hP hk => ?_⟩
  · show b < (s.heap.push _).objs.size
    rw [Heap.size_push]
    rcases List.mem_cons.mp hb with e | hb
    · rw [e]
      exact Nat.lt_succ_self _
    · rw [List.mem_singleton.mp hb]
      exact Nat.lt_succ_of_lt hlt
  · obtain ⟨t, rfl⟩ := hval _ v hP
    obtain ⟨b1, b2⟩ := argBest_lt (fun i => is.getD i 0) (vs.length - 1)
    refine ⟨.int _, H, I.kept (t' := tk) fun b u e => hk b u (fun hmem => ?_) (Heap.get?_push_of_some _ e), ⟨t, rfl⟩, q _ ?_ fun j hj => ?_⟩
    · have e1 : b = s.heap.objs.size := List.mem_singleton.mp hmem
      have e2 := Heap.lt_size e
      rw [e1] at e2
      exact absurd e2 (Nat.lt_irrefl _)
    · have hb : argBest (fun i j => decide (is.getD i 0 < is.getD j 0)) (vs.length - 1) < is.length := by omega
      rw [List.getD_eq_getElem?_getD, List.getElem?_eq_getElem hb]
      exact List.getElem_mem hb
    · obtain ⟨i, hi, e⟩ := List.mem_iff_getElem.mp hj
      have e2 : is.getD i 0 = j := by rw [List.getD_eq_getElem?_getD, List.getElem?_eq_getElem hi, ← e] <;> rfl
      rw [← e2]
      exact b2 i (by omega)
theorem jc_minD (hc : X.calm = true) : CallR X (.builtin "min") (argOf X.g bMinD) := by
  intro pins s σ H xs us Q I r ⟨Wx, σ', w, S, ds, hH, G, rs, r1, p⟩
  subst hH
  unfold bMinD at p
  split at p
  · obtain ⟨v, rfl, r2⟩ := r1.one'
    split at p
    · rename_i ks vs e
      split at p
      · rename_i n ns e2
        obtain ⟨a, us', rfl, t, l, r3⟩ := r2.dctAt rs e
        have e4 := intKys_map e2
        refine cr_minR hc pins s σ _ _ us Q I r ⟨a, _, n :: ns, rfl, t, ?_, by simp, fun m h1 h2 => ?_⟩
        · rw [← e4]
          exact List.map_fst_zip (by omega)
        · have e3 : m = ns.foldl (fun a y => if y < a then y else a) n := Int.le_antisymm (h2 _ (foldMin_mem ns n)) (foldMin_le ns n m h1)
          subst e3
          exact putSame p G rs rfl
      · exact p.elim
    · exact p.elim
  · exact p.elim
/-! d.get(k, x) -/
theorem de_get2 {o e f : Expr} {apos cpos : Pos} {mo ma mb : ME} (hu : X.A.units + 1 < cLine) (ho : PE X o (TEof X.g Wx mo)) (he : PE X e (TEof X.g Wx ma)) (hf : PE X f (TEof X.g Wx mb))
    (h1 : attributeBase o "get" X.env (eval o X.env) = eval o X.env := by rfl)
    (h2 : ((backTo cpos (starEach [e, f] X.env)).all (fun x => !x.1) && (backToKw cpos (keywordEach [] X.env)).all (fun x => x.1.isSome)
    && decide (([e, f] : List Expr).length + ([] : List Keyword).length + (if ([] : List Keyword).isEmpty then 0 else 1) < 30)) = true := by rfl)
    (h3 : (apos.endLine == cpos.line) = true := by rfl) (h4 : backTo cpos (starEach [e, f] X.env) = [(false, eval e X.env), (false, eval f X.env)] := by rfl) :
    PE X (.Call (.Attribute o "get" apos) [e, f] [] cpos) (TEof X.g Wx (eGet2 mo ma mb)) := by
  refine peImp (pe_dget2 hu ho he hf ⟨h1, h2, h3, h4⟩) fun σ H Q ⟨w, E, S, a, p⟩ => ?_
  refine ⟨w, E, S, a, PR.imp (PR.bind a.good a.env p) fun x H1 ⟨w1, d, S1, a1, x1, r1, p1⟩ => ?_⟩
  split at p1
  · rename_i hs
    obtain ⟨⟨ks, xs⟩, e0⟩ := Option.isSome_iff_exists.mp hs
    obtain ⟨b, vs, rfl, t, l, r3⟩ := r1.dctAt a1.sto e0
    refine ⟨b, rfl, .inl ⟨_, by rw [← a1.hp]; exact t⟩, w1, E, S1, a1, PR.imp (PR.bind a1.good a1.env p1) fun y H2 ⟨w2, dy, S2, a2, x2, ry, p2⟩ => ?_⟩
    refine ⟨w2, E, S2, a2, PR.imp (PR.bind a2.good a2.env p2) fun z H3 ⟨w3, dz, S3, a3, x3, rz, p3⟩ => ?_⟩
    split at p3
    · rename_i ks' ds' q e1 e2
      have r1' : RD X.g w3 d (.ref b) := RD.mono a1.good (x2.trans x3) d _ r1
      obtain ⟨b', vs', eb, t', l', r3'⟩ := r1'.dctAt a3.sto e1
      cases eb
      have ek : y = kV q := keyOf_kV ry e2
      rw [← a3.hp]
      refine ⟨valV (ks'.zip vs') q, .inl ⟨_, q, t', ek, rfl⟩, ?_⟩
      cases hg : getK ks' ds' q with
      | some dd =>
        rw [hg] at p3
        obtain ⟨vv, h5, h6⟩ := valV_zip q l' r3' dd hg
        rw [h5]
        exact putSame p3 a3.good a3.sto h6
      | none =>
        rw [hg] at p3
        have hn : valV (ks'.zip vs') q = none := by
          have h5 := valV_some (vs := vs') q l'
          have h6 : keyIn ks' q = false := by
            have h7 := r3'.length
            have := fun (h : keyIn ks' q = true) => getK_some (ds := ds') (by omega) h
            cases hk : keyIn ks' q with
            | false => rfl
            | true =>
              obtain ⟨z, hz⟩ := this hk
              rw [hg] at hz
              cases hz
          rw [h6] at h5
          cases hv : valV (ks'.zip vs') q with
          | none => rfl
          | some z => rw [hv] at h5; cases h5
        rw [hn]
        exact putSame p3 a3.good a3.sto rz
    · exact p3.elim
  · exact p1.elim
/-! is True -/
theorem jo_isB : OpR X (compareOp .Is) (opOf X.g oIsB) := by
  intro pins s σ H x y v u Q I rx ry ⟨Wx, σ', w, S, d, e, hH, G, rs, r1, r2, p⟩
  subst hH
  unfold oIsB at p
  split at p
  · cases r1
    cases r2
    exact op_isBl pins s σ _ _ _ v u Q I rx ry ⟨_, _, rfl, rfl, putSame p G rs rfl⟩
  · exact p.elim
/-! tuple(range(n)) -/
theorem de_tupRg {a : Expr} {ma : ME} {p p2 pos2 : Pos} (hc : X.calm = true) (hg : Gl X "tuple") (hm : X.mg "tuple" = none) (hg2 : Gl X "range") (hm2 : X.mg "range" = none) (ha : PE X a (TEof X.g Wx ma))
    (na : starEach [a] X.env = (false, eval a X.env) :: starEach [] X.env := by rfl) (na2 : starEach [.Call (.Name "range" p2) [a] [] pos2] X.env = (false, eval (.Call (.Name "range" p2) [a] [] pos2) X.env) :: starEach [] X.env := by rfl) :
    PE X (.Call (.Name "tuple" p) [.Call (.Name "range" p2) [a] [] pos2] [] pos) (TEof X.g Wx (eTupRg ma)) := by
  refine peImp (pe_tupRg hc hg hm (prg_1 hg2 hm2 ha na) na2) fun σ H Q ⟨w, E, S, a, p⟩ => ?_
  refine ⟨w, E, S, a, PR.imp (PR.bind a.good a.env p) fun x H1 ⟨w1, d, S1, a1, x1, r1, p1⟩ => ?_⟩
  split at p1
  · rename_i n
    split at p1
    · rename_i hn
      cases r1
      refine ⟨n, rfl, ⟨by omega, by omega, by omega, ?_, ?_⟩, fun q hq => ?_⟩
      · have := hn.2; unfold SL at this; omega
      · have := hn.2; unfold SL at this; omega
      · rw [← a1.hp] at hq ⊢
        refine new_tup p1 a1.good a1.sto ?_ q hq
        have := ints_rg (g := X.g) (w := w1) n.toNat fun i => 0 + (i : Int)
        unfold rgV
        rw [Int.sub_zero]
        simpa using this
    · exact p1.elim
  · exact p1.elim
end
end J
set_option Elab.async false
set_option linter.all false
set_option maxRecDepth 100000
set_option maxHeartbeats 1000000
namespace J
open PySem PySem.Spec PyProof.Rows L2
/-! for .. in d.items() -/
theorem kD_rd {g : G} {w : W} (k : Ky) : RD g w (kD k) (kV k) := by
  cases k <;> rfl
section
variable {X : Cx} {Wx : WX}
/-- a dict is looked through: it stays -/
def tFz (te : TE) : TE := fun σ H Q => te σ H fun x H1 => ∃ d kvs, x = .ref d ∧ Rd H1 d (.dK kvs) ∧ (∀ o, H1 d = some (.dK kvs) → Q x (upd H1 d (.frz o (.dK kvs)))) ∧ ∀ o, H1 d = some (.frz o (.dK kvs)) → Q x H1
theorem pe_fz {e : Expr} {te : TE} (he : PE X e te) : PE X e (tFz te) := by
  refine ⟨fun pins s σ H Q I h => ?_⟩
  refine thn (he.run pins s σ H _ I h) fun v s1 ⟨x, H1, I1, rx, d, kvs, ex, hd, q1, q2⟩ => ?_
  rcases hd with hd | ⟨o, hd⟩
  · obtain ⟨od, I2⟩ := I1.lock hd True.intro
    exact ⟨x, _, I2, rx, q1 od hd⟩
  · exact ⟨x, H1, I1, rx, q2 o hd⟩
theorem its_items {g : G} {w : W} {a : Addr} {o : Obj} {ks : List Ky} {ds : List D} {vs : List V} (G0 : Good w) (h : w.H a = some (.frz o (.dK (ks.zip vs)))) (n : ¬ w.thA a) (l : ks.length = vs.length) (r : RDs g w ds vs) :
    ItOk g w (Iti a o (ks.zip vs)) (Src.its (itemsS ks ds)) := by
  have na : a ∉ w.rhA := fun z => n (G0.sub a z)
  have hl := r.length
  have hlen : (itemsS ks ds).length = (ks.zip vs).length := by simp [itemsS]; omega
  have kp : ∀ w', Ext w w' → w'.H a = some (.frz o (.dK (ks.zip vs))) := fun w' x => x.kpN h na dkt_frz
  refine ⟨fun i w' S d x rs al e hi => ⟨kp w' x, ?_⟩, fun w' S x rs al => ⟨kp w' x, ?_⟩, fun i w' S d x H' ex G rs al e hi y => ?_⟩
  · have : i < (itemsS ks ds).length := hi
    omega
  · show (ks.zip vs).length ≤ (itemsS ks ds).length
    omega
  · obtain ⟨T, k, v, hk, rfl, hT, rfl⟩ := y
    have e' : (itemsS ks ds)[i]? = some d := e
    unfold itemsS at e'
    rw [List.getElem?_zipWith] at e'
    have hki : ks[i]? = some k ∧ vs[i]? = some v := by
      rw [List.getElem?_zip_eq_some] at hk
      exact hk
    rw [hki.1] at e'
    cases hd : ds[i]? with
    | none => rw [hd] at e'; simp at e'
    | some d0 =>
      rw [hd] at e'
      simp at e'
      subst e'
      obtain ⟨v', hv', rd⟩ := (r.mono G0 ex).get hd
      rw [hki.2] at hv'
      cases hv'
      exact pairNew G rs hT (kD_rd k) rd
theorem di_items {e : Expr} {ma : ME} {elts : List Expr} {kk : Nat} {tpos apos cpos : Pos} (he : PE X e (TEof X.g Wx ma)) (hbase : attributeBase e "items" X.env (eval e X.env) = eval e X.env := by rfl) (hline : (apos.endLine == cpos.line) = true := by rfl) :
    PI X (.Tuple elts kk tpos) (.Call (.Attribute e "items" apos) [] [] cpos) (TIof X.g Wx (iItemsJ ma)) := by
  refine piImp (pi_items (pe_fz he) hbase hline) fun σ H Q ⟨w, E, S, a, p⟩ => ?_
  refine ⟨w, E, S, a, ?_⟩
  have p1 : PR X.g Wx σ w (fun w' s J => ItOk X.g w' J s) Q ((ma E S).bind fun x S1 => match x with
    | .dct ks ds => .ok (Src.its (itemsS ks ds)) S1
    | _ => .bad) := p
  cases hm : ma E S with
  | bad => rw [hm] at p1; exact p1.elim
  | exc c fs S1 => rw [hm] at p1; exact p1
  | ok x S1 =>
    rw [hm] at p1
    cases x with
    | dct ks ds =>
      have p2 : PR X.g Wx σ w (fun w' s J => ItOk X.g w' J s) Q (.ok (Src.its (itemsS ks ds)) S1) := p1
      intro v w1 x1 G1 r1 rs1
      obtain ⟨b, vs, rfl, t, l, n, r3⟩ := r1
      refine ⟨b, _, rfl, t, fun o h => ?_, fun o h => ?_⟩
      · have na : b ∉ w1.rhA := fun z => n (G1.sub b z)
        have x2 : Ext w1 { w1 with H := upd w1.H b (.frz o (.dK (ks.zip vs))) } := by
          refine ⟨⟨[], by simp, by simp⟩, fun _ z => z, fun _ z => .inl z, fun c u hc hn => ?_, fun c hc => ?_⟩
          · by_cases ec : c = b
            · subst ec
              rw [h] at hc
              cases hc
              exact .inr ⟨n, o, .inl _, rfl, upd_same⟩
            · exact .inl ((upd_ne ec).trans hc)
          · show upd w1.H b _ c ≠ none
            by_cases ec : c = b
            · rw [ec, upd_same]; simp
            · rw [upd_ne ec]; exact hc
        have G2 : Good { w1 with H := upd w1.H b (.frz o (.dK (ks.zip vs))) } := put_upd G1
        have rs2 := rs1.keep G1 x2 rfl fun c hc => upd_ne fun ec => na (by rw [← ec]; exact hc)
        exact ⟨b, o, _, rfl, upd_same, p2 _ _ (x1.trans x2) G2 (its_items G2 upd_same n l (r3.mono G1 x2)) rs2⟩
      · exact ⟨b, o, _, rfl, h, p2 _ _ x1 G1 (its_items G1 h n l r3) rs1⟩
    | _ => exact p1.elim
/-! x *= y -/
theorem ji_mul : PIp X .Mult (opOf X.g iMul) := by
  intro pins s σ H x y v u Q I rx ry ⟨Wx, σ', w, S, d, e, hH, G, rs, r1, r2, p⟩
  subst hH
  unfold iMul at p
  split at p
  · split at p
    · rename_i h
      cases r1
      cases r2
      exact iop_mul pins s σ _ _ _ v u Q I rx ry ⟨_, _, rfl, rfl, h.imp smallI_iff.mp smallI_iff.mp, putSame p G rs rfl⟩
    · exact p.elim
  · exact p.elim
/-! gcd, lcm -/
theorem jc_gcd : CallR X (.builtin "math.gcd") (argOf X.g bGcd) := by
  intro pins s σ H xs us Q I r ⟨Wx, σ', w, S, ds, hH, G, rs, r1, p⟩
  subst hH
  unfold bGcd at p
  split at p
  · obtain ⟨v, u, rfl, r2, r3⟩ := r1.two'
    cases r2
    cases r3
    exact cr_gcd pins s σ _ _ us Q I r ⟨_, _, rfl, putSame p G rs rfl⟩
  · exact p.elim
theorem lcm_bits {a b : Nat} (ha : a < 18446744073709551616) (hb : b < 18446744073709551616) : (((a.lcm b : Nat) : Int)).natAbs.log2 < bitsLine := by
  have h1 : a.lcm b ≤ a * b := Nat.div_le_self _ _
  have h2 : a * b ≤ 18446744073709551616 * 18446744073709551616 := Nat.mul_le_mul (by omega) (by omega)
  have h3 : a.lcm b < 2 ^ 129 := by omega
  rw [Int.natAbs_natCast]
  by_cases h0 : a.lcm b = 0
  · rw [h0]; decide
  · have := (Nat.log2_lt h0).mpr h3
    have hb : 129 ≤ bitsLine := by decide
    omega
theorem jc_lcm : CallR X (.builtin "math.lcm") (argOf X.g bLcm) := by
  intro pins s σ H xs us Q I r ⟨Wx, σ', w, S, ds, hH, G, rs, r1, p⟩
  subst hH
  unfold bLcm at p
  split at p
  · split at p
    · rename_i h
      obtain ⟨v, u, rfl, r2, r3⟩ := r1.two'
      cases r2
      cases r3
      obtain ⟨t, u, rfl⟩ := Vals.int2 r
      have e1 : ∀ n : Nat, Nat.lcm 1 n = n := fun n => by simp [Nat.lcm]
      refine PySem.W.mg_lcm (by have := h.1; omega) (by have := h.2; omega) (by rw [e1]; exact lcm_bits h.1 h.2) ?_
      rw [e1]
      exact ⟨.int _, _, I.tok _, ⟨_, rfl⟩, putSame p G rs rfl⟩
    · exact p.elim
  · exact p.elim
theorem de_callBf {x : Str} {id : String} {b : List D → List D → R D} {e : Expr} {es : List Expr} {ma : MA} {p pos : Pos} (hc : CallR X (.builtin id) (argOf X.g b)) (hg : Gl X x) (hm : X.mg x = some (.builtin id)) (ha : PA X (e :: es) (TAof X.g Wx ma)) (hdb : (x == ("__debug__" : Str)) = false := by decide +kernel)
    (he : starEach (e :: es) X.env = (false, eval e X.env) :: starEach es X.env := by rfl) (hpl : (backTo pos (starEach es X.env)).any (·.1) = false := by rfl) : PE X (.Call (.Name x p) (e :: es) [] pos) (TEof X.g Wx (eArgs b ma)) :=
  peImp (pe_callBfun hc hg hm ha hdb he hpl) (args fun _ _ _ h => h)
end
end J
set_option Elab.async false
set_option linter.all false
set_option maxRecDepth 100000
set_option maxHeartbeats 1000000
namespace J
open PySem PySem.Spec PyProof.Rows L2
section
variable {X : Cx} {Wx : WX} {pos : Pos}
/-! is not True -/
theorem jo_notB : OpR X (compareOp .IsNot) (opOf X.g oNotB) := by
  intro pins s σ H x y v u Q I rx ry ⟨Wx, σ', w, S, d, e, hH, G, rs, r1, r2, p⟩
  subst hH
  unfold oNotB at p
  split at p
  · cases r1
    cases r2
    exact op_notBl pins s σ _ _ _ v u Q I rx ry ⟨_, _, rfl, rfl, putSame p G rs rfl⟩
  · exact p.elim
/-! min(xs, default=None) -/
theorem minOf_fold (n : Int) (ns : List Int) : PySem.W.minOf n ns = ns.foldl (fun a y => if y < a then y else a) n := by
  unfold PySem.W.minOf
  congr 1
  funext a y
  show (if decide (y < a) = true then y else a) = _
  by_cases h : y < a <;> simp [h]
theorem jck_minN (hc : X.calm = true) (hu : X.A.units + 1 < cLine) : CallRK X (.builtin "min") [Str.ofString "default"] (fun vs zs H Q => zs = [.non] ∧ argOf X.g bMinN vs H Q) := by
  intro pins s σ H vs zs us ws Q I r rz ⟨hz, Wx, σ', w, S, ds, hH, G, rs, r1, p⟩
  subst hH
  subst hz
  obtain ⟨w1, rfl, e1⟩ := vals1 rz
  obtain rfl : w1 = Value.none := e1
  unfold bMinN at p
  split at p
  · obtain ⟨v, rfl, r2⟩ := r1.one'
    split at p
    · rename_i xs e
      obtain ⟨a, vs, rfl, t, r3⟩ := r2.seq rs e
      rw [Vals.ref1 r]
      split at p
      · rename_i n ns e2
        have := ints_vals r3 e2
        subst this
        have fin : ∀ (y : Int) (ys : List Int) (v : Value) (h' : Heap) (tk : Nat), n :: ns = y :: ys → PySem.W.Holds h' v (PySem.W.minOf y ys) → (∀ b o, s.heap.get? b = some o → h'.get? b = some o) → EP X pins σ Q v { s with heap := h', toks := tk } := fun y ys v h' tk e hv hk => by
          injection e with e1 e2
          subst e1
          subst e2
          obtain ⟨t, rfl⟩ := PySem.W.int_of_holds hv
          refine ⟨.int _, w.H, I.kept hk, ⟨t, rfl⟩, ?_⟩
          rw [minOf_fold]
          exact putSame p G rs rfl
        rcases t with t | t
        · obtain ⟨its, rv, pl, hz⟩ := I.list t
          exact PySem.W.min_list_datum_default (α := Int) (xs := n :: ns) (I.ok.hd hc) pl.isList (hold_ints rv) (by simpa [PySem.W.Datum.depth] using hu) (fun e => by cases e) fun y ys i v h' tk e hi hv hk => fin y ys v h' tk e hv hk
        · obtain ⟨its, rv, pl, hz⟩ := I.tuple t
          exact PySem.W.min_tuple_datum_default (α := Int) (xs := n :: ns) (I.ok.hd hc) pl (hold_ints rv) (by simpa [PySem.W.Datum.depth] using hu) (fun e => by cases e) fun y ys i v h' tk e hi hv hk => fin y ys v h' tk e hv hk
      · rename_i e2
        have := ints_vals r3 e2
        subst this
        have fin : ∀ (h' : Heap) (tk : Nat), (∀ b o, s.heap.get? b = some o → h'.get? b = some o) → EP X pins σ Q Value.none { s with heap := h', toks := tk } := fun h' tk hk =>
          ⟨.non, w.H, I.kept hk, rfl, putSame p G rs rfl⟩
        rcases t with t | t
        · obtain ⟨its, rv, pl, hz⟩ := I.list t
          exact PySem.W.min_list_datum_default (α := Int) (xs := []) (I.ok.hd hc) pl.isList (hold_ints rv) (by simpa [PySem.W.Datum.depth] using hu) (fun _ h' tk hk => fin h' tk hk) fun y ys i v h' tk e hi hv hk => by cases e
        · obtain ⟨its, rv, pl, hz⟩ := I.tuple t
          exact PySem.W.min_tuple_datum_default (α := Int) (xs := []) (I.ok.hd hc) pl (hold_ints rv) (by simpa [PySem.W.Datum.depth] using hu) (fun _ h' tk hk => fin h' tk hk) fun y ys i v h' tk e hi hv hk => by cases e
      · exact p.elim
    · exact p.elim
  · exact p.elim
theorem de_minN {a : Expr} {ma : MA} {p p2 pos2 : Pos} (hc : X.calm = true) (hu : X.A.units + 1 < cLine) (hg : Gl X "min") (hm : X.mg "min" = none) (ha : PA X [a] (TAof X.g Wx ma))
    (he : backTo pos (starEach [a] X.env) = (false, eval a X.env) :: backTo pos (starEach [] X.env) := by rfl) (hpl : (backTo pos (starEach [a] X.env)).any (·.1) = false := by rfl)
    (hall : (backToKw pos (keywordEach [⟨some "default", .Constant .none k2 p2, pos2⟩] X.env)).all (·.1.isSome) = true := by rfl) (hnone : (backToKw pos (keywordEach [⟨some "default", .Constant .none k2 p2, pos2⟩] X.env)).any (·.1.isNone) = false := by rfl) (hks : (backToKw pos (keywordEach [⟨some "default", .Constant .none k2 p2, pos2⟩] X.env)).filterMap (·.1) = [Str.ofString "default"] := by rfl) :
    PE X (.Call (.Name "min" p) [a] [⟨some "default", .Constant .none k2 p2, pos2⟩] pos) (TEof X.g Wx (eArgs bMinN ma)) := by
  refine peImp (pe_callBK (jck_minN hc hu) hg hm (by decide +kernel) ha (pk_cons pe_non pk_nil) (by decide) (by decide) he hpl hall hnone hks) fun σ H Q ⟨w, E, S, a, p⟩ => ?_
  refine ⟨w, E, S, a, PR.imp (PR.bind a.good a.env p) fun xs H1 ⟨w1, ds, S1, a1, x1, r1, p1⟩ => ?_⟩
  exact ⟨rfl, Wx, σ, w1, S1, ds, a1.hp, a1.good, a1.sto, r1, p1⟩
/-! any(xs), of a tuple too -/
theorem iter_anyT {prog : Program} {w : World} {A : Around} {E : Value → Shared → Prop} {s : Shared} {l : Addr} {items : Array Value} {Q : Value → Shared → Prop} (hl : s.heap.IsTuple l items)
    (h : ∀ s₂ : Shared, s₂ = { s with heap := s.heap.push { cls := .type "tuple_iterator", data := .fields #[.ref l, .int 0 0] } } → (s₂.heap.IsTupleIter s.heap.objs.size l 0 ∧ s₂.heap.IsTuple l items) → l ≠ s.heap.objs.size → Q (.ref s.heap.objs.size) s₂) :
    wpAny (model prog w) A (pyIter (.ref l)) Q E s := by
  have hlt : l < s.heap.objs.size := by obtain ⟨_, e, _⟩ := hl; exact Heap.lt_size e
  exact wpAny_pyIter_tuple hl (h _ rfl ⟨⟨_, Heap.get?_push_size _ rfl, rfl, rfl⟩, hl.push _⟩ (Nat.ne_of_lt hlt))
theorem jc_anyS (hc : X.calm = true) : CallR X (.builtin "any") (argOf X.g bAnyS) := by
  intro pins s σ H xs us Q I r ⟨Wx, σ', w, S, ds, hH, G, rs, r1, p⟩
  subst hH
  unfold bAnyS at p
  split at p
  · obtain ⟨v, rfl, r2⟩ := r1.one'
    split at p
    · rename_i xs e
      split at p
      · rename_i bs e2
        obtain ⟨a, vs, rfl, t, r3⟩ := r2.seq rs e
        rw [Vals.ref1 r]
        rcases t with t | t
        · obtain ⟨its, rv, hl, _⟩ := I.list t
          have hlen : its.length = bs.length := by rw [← rv.length, r3.length, scals_len e2]
          refine call_any_walk (iter_any hl.isList fun s₂ e2' st hne => ?_)
          subst e2'
          refine ⟨_, _, _, _, _, _, _, rfl, Walks.list (A := X.A.in1) (I.ok.hd hc) _ a hne its.toArray, st, truth_scals (scals_get r3 rv e2), fun h' tk hk => ?_⟩
          refine ⟨.bl (bs.any id), w.H, I.kept fun b o eo => hk b o (fun hmem => ?_) (Heap.get?_push_of_some _ eo), ?_, putSame p G rs rfl⟩
          · rcases List.mem_cons.mp hmem with e1 | hmem
            · exact absurd (e1 ▸ Heap.lt_size eo) (Nat.lt_irrefl _)
            · cases hmem
          · show Value.bool _ = Value.bool _
            rw [← L2.any_range, List.size_toArray, hlen]
        · obtain ⟨its, rv, hl, _⟩ := I.tuple t
          have hlen : its.length = bs.length := by rw [← rv.length, r3.length, scals_len e2]
          refine call_any_walk (iter_anyT hl fun s₂ e2' st hne => ?_)
          subst e2'
          refine ⟨_, _, _, _, _, _, _, rfl, Walks.tuple (A := X.A.in1) (I.ok.hd hc) _ a hne its.toArray, st, truth_scals (scals_get r3 rv e2), fun h' tk hk => ?_⟩
          refine ⟨.bl (bs.any id), w.H, I.kept fun b o eo => hk b o (fun hmem => ?_) (Heap.get?_push_of_some _ eo), ?_, putSame p G rs rfl⟩
          · rcases List.mem_cons.mp hmem with e1 | hmem
            · exact absurd (e1 ▸ Heap.lt_size eo) (Nat.lt_irrefl _)
            · cases hmem
          · show Value.bool _ = Value.bool _
            rw [← L2.any_range, List.size_toArray, hlen]
      · exact p.elim
    · exact p.elim
  · exact p.elim
end
end J
set_option Elab.async false
set_option linter.all false
set_option maxRecDepth 100000
set_option maxHeartbeats 1000000
namespace J
open PySem PySem.Spec PyProof.Rows L2
/-! dicts whose keys are tuples -/
theorem dctT_some {S : List D} {d : D} {ks : List (List Ky)} {xs : List D} (h : dctT S d = some (ks, xs)) : d = .dcT ks xs ∨ ∃ n, d = .loc n ∧ S[n]? = some (.dcT ks xs) := by
  unfold dctT at h
  split at h
  · cases h
    exact .inl rfl
  · split at h
    · rename_i n _ _ _ e
      cases h
      exact .inr ⟨_, rfl, e⟩
    · cases h
  · cases h
theorem RD.dctTAt {g : G} {w : W} {S : List D} {d : D} {v : V} {ks : List (List Ky)} {xs : List D} (rs : RS g w S) (r : RD g w d v) (h : dctT S d = some (ks, xs)) : ∃ p vs, v = .ref p ∧ Rd w.H p (.dT (ks.zip vs)) ∧ ks.length = vs.length ∧ RDs g w xs vs := by
  rcases dctT_some h with rfl | ⟨n, rfl, e⟩
  · obtain ⟨p, vs, rfl, t, l, _, r⟩ := r
    exact ⟨p, vs, rfl, t, l, r⟩
  · obtain ⟨p, rfl, hp⟩ := r
    obtain ⟨vs, h1, l, h2⟩ := rs.obj hp e
    exact ⟨p, vs, rfl, .inl h1, l, h2⟩
theorem valT_zip {g : G} {w : W} : ∀ {ks : List (List Ky)} {ds : List D} {vs : List V} (k : List Ky), ks.length = vs.length → RDs g w ds vs →
    (∀ d, getT ks ds k = some d → ∃ v, valV (ks.zip vs) k = some v ∧ RD g w d v) ∧ (getT ks ds k = none → valV (ks.zip vs) k = none)
  | [], ds, vs, k, l, r => ⟨fun d h => by simp [getT] at h, fun h => rfl⟩
  | q :: ks, [], vs, k, l, r => by
    have := r.length
    rw [← l] at this
    simp at this
  | q :: ks, e :: ds, _, k, l, r => by
    obtain ⟨v, vs, rfl, r1, r2⟩ := r
    have ih := valT_zip (ks := ks) (ds := ds) (vs := vs) k (by simpa using l) r2
    simp only [getT]
    rw [List.zip_cons_cons]
    by_cases hq : q = k
    · rw [if_pos hq]
      exact ⟨fun d h => by cases h; exact ⟨v, valV_pos hq, r1⟩, fun h => by cases h⟩
    · rw [if_neg hq, valV_neg hq]
      exact ih
section
variable {X : Cx} {Wx : WX} {pos : Pos}
theorem de_dctTL : PE X (.Dict [] [] pos) (TEof X.g Wx eDctTL) := by
  refine peImp pe_dnewT fun σ H Q ⟨w, E, S, a, p⟩ => fun q hq => ?_
  rw [← a.hp] at hq ⊢
  exact p (.ref q) (w.add q (.dT [])) (add_ext hq) (add_good a.good hq) ⟨q, rfl, by rw [a.sto.1]; simp⟩ (add_store a.good hq a.sto ⟨[], upd_same, rfl, rfl⟩)
/-! {k: v} -/
def tDispT (tk tv : TE) : TE := fun σ H Q => ∀ p, H p = none → tk σ (upd H p (.dT [])) fun x H1 => tv σ H1 fun y H2 => H2 p = some (.dT []) ∧ ∃ (k : List Key) (b : Addr), x = .ref b ∧ H2 b = some (.tup (k.map kV)) ∧ Q (.ref p) (upd H2 p (.dT [(k, y)]))
theorem pe_dispT {k v : Expr} {tk tv : TE} (hu : X.A.units < cLine) (hk : PE X k tk) (hv : PE X v tv) : PE X (.Dict [some k] [v] pos) (tDispT tk tv) := by
  refine ⟨fun pins s σ H Q I q => ?_⟩
  have hn := I.hok.fresh (Nat.le_refl s.heap.objs.size)
  have I1 := I.laid (a := s.heap.objs.size) (o := .dT []) (h' := s.heap.push { cls := .type "dict", data := .dict #[] }) (t' := s.toks) (fun _ _ q => Heap.get?_push_of_some _ q) (Nat.le_refl _) (dt_empty s.heap I.big)
  rw [arm_eval_Dict, zip_pairTrees [some k] [v] X.env pos rfl rfl, dictDisplay_pairs (pairTrees [some k] [v] X.env pos) (by simp [pairTrees]) (by simp [pairTrees])]
  refine wpAny_bind (wpAny_standAt (wpAny_bind ?_))
  unfold subDict
  refine wpAny_bind (wpAny_alloc ?_)
  refine wpAny_bind (wpAny_holding ?_)
  rw [if_pos (by simp [pairTrees])]
  refine wpAny_bind (pairTrees_cons_walk (thn (hk.run pins _ σ _ _ I1 (q _ hn)) fun u s2 ⟨x, H1, I2, rx, q1⟩ => thn (hv.run pins s2 σ H1 _ I2 q1) fun u2 s3 ⟨y, H2, I3, ry, q2⟩ => pairTrees_nil_walk ?_))
  obtain ⟨e, ks, b, rfl, hb, q3⟩ := q2
  cases (show u = Value.ref b from rx)
  refine wpAny_holding ?_
  rw [List.forIn_cons]
  obtain ⟨z, hd, xs, rel, dd⟩ := dt_of I3.hok e
  cases rel
  refine wpAny_bind ?_
  show wpAny _ _ ((dictSet s.heap.objs.size (Value.ref b) u2 >>= fun _ => pure (ForInStep.yield PUnit.unit)) >>= _) _ _ _
  refine wpAny_bind (wpAny_bind (wpAny_dictSet_heap (hsz := by simp) (knd := tupleKind (mixKind X.prog X.w)) hu (key_of I3.hok hb) dd fun h' dd' hs => wpAny_pure ?_))
  simp only [List.forIn_nil]
  refine wpAny_pure (wpAny_pure (wpAny_pure (wpAny_pure ?_)))
  obtain ⟨qo, es, ep, hq, h2, h3, h4, _, h5⟩ := dd'
  have hl : (putK ([] : List (List Key × V)) ks y).length ≤ sizeLine := by rw [sizeLine_eq]; simp [putK]
  refine ⟨.ref s.heap.objs.size, _, d_write (ob := .dT (putK [] ks y)) I3 (by rw [e]; exact True.intro) hs ⟨qo, hq⟩ ⟨hl, hd, _, ((KT.put (H := H2) (kvs := []) (xs := []) .nil ks hb ry).keeps fun c ys ec => ?_), qo, es, ep, hq, h2, h3, h4, h5⟩, rfl, q3⟩
  rw [upd_ne (ne_of ec e (fun z => nomatch z))]
  exact ec
theorem de_dispT {k v : Expr} {mk mv : ME} (hu : X.A.units + 1 < cLine) (hk : PE X k (TEof X.g Wx mk)) (hv : PE X v (TEof X.g Wx mv)) : PE X (.Dict [some k] [v] pos) (TEof X.g Wx (eDispT mk mv)) := by
  refine peImp (pe_dispT (by omega) hk hv) fun σ H Q ⟨w, E, S, a, p⟩ => ?_
  intro q hq
  have hq' : w.H q = none := by rw [a.hp]; exact hq
  have x0 := hide_ext (o := .dT []) hq'
  have G0 := hide_good (o := .dT []) a.good hq'
  have nD : q ∉ w.rhA := fun z => a.good.al q (a.good.sub q z) hq'
  have a0 : At X.g (w.hide q (.dT [])) E σ (upd H q (.dT [])) S := ⟨by rw [← a.hp], G0, a.env.mono a.good x0, a.sto.keep a.good x0 rfl (fun b hb => upd_ne fun e => nD (by rw [← e]; exact hb))⟩
  have p0 : PR X.g Wx σ w (RD X.g) Q ((mk E S).bind fun x S1 => (mv E S1).bind fun y S2 => kDispT x y S2) := p
  refine ⟨w.hide q (.dT []), E, S, a0, ?_⟩
  cases hmk : mk E S with
  | bad => rw [hmk] at p0; exact p0.elim
  | exc c fs S1 => rw [hmk] at p0; exact PR.at p0 x0
  | ok d S1 =>
    rw [hmk] at p0
    intro x w1 x1 G1 r1 rs1
    have a1 : At X.g w1 E σ w1.H S1 := ⟨rfl, G1, a0.env.mono G0 x1, rs1⟩
    refine ⟨w1, E, S1, a1, ?_⟩
    simp only [bind_ok] at p0
    cases hmv : mv E S1 with
    | bad => rw [hmv] at p0; exact p0.elim
    | exc c fs S2 => rw [hmv] at p0; exact PR.at p0 (x0.trans x1)
    | ok d2 S2 =>
      rw [hmv] at p0
      intro y w2 x2 G2 r2 rs2
      simp only [bind_ok, kDispT] at p0
      split at p0
      · rename_i ky hky
        have x12 := x1.trans x2
        have x := x0.trans x12
        have hq2 : w2.H q = some (.dT []) := x12.kpT upd_same nD (.inr rfl)
        have hth : w2.thA q := x12.th1 q (.inr rfl)
        have nD2 : q ∉ w2.rhA := fun z => by
          obtain ⟨τ, e5, f5⟩ := x12.rho
          rw [e5] at z
          rcases List.mem_append.mp z with z | z
          · exact nD z
          · have := f5 q z
            rw [show (w.hide q (.dT [])).H q = some (.dT []) from upd_same] at this
            cases this
        obtain ⟨b, rfl, tb, nb⟩ := kyT_of (r1.mono G1 x2) hky
        refine ⟨hq2, ky, b, rfl, tb, ?_⟩
        have kw : Weak w2 { w2 with H := upd w2.H q (.dT [(ky, y)]) } := weak_upd hth
        have rs2' : RS X.g { w2 with H := upd w2.H q (.dT [(ky, y)]) } S2 := rs2.weakW kw rfl (fun b hb => upd_ne fun e => nD2 (by rw [← e]; exact hb))
        have r2' : RD X.g { w2 with H := upd w2.H q (.dT [(ky, y)]) } d2 y := RD.weakW kw (fun _ _ h => h) _ _ r2
        have k3 : Weak { w2 with H := upd w2.H q (.dT [(ky, y)]) } ⟨fun a => w2.thA a ∧ a ≠ q, w2.rhA, upd w2.H q (.dT [(ky, y)])⟩ := weak_take rfl fun _ z => z.1
        refine p0 (.ref q) ⟨fun a => w2.thA a ∧ a ≠ q, w2.rhA, upd w2.H q (.dT [(ky, y)])⟩ ⟨x.rho, fun c h => ⟨x.th1 c h, fun z => a.good.al c h (by rw [z]; exact hq')⟩, fun c h => x.th2 c h.1, fun b o hb nb => ?_, fun b hb => ?_⟩
          ⟨G2.nd, fun a h => ⟨G2.sub a h, fun z => nD2 (by rw [← z]; exact h)⟩, fun b hb => ?_, fun b hb xs => ?_⟩ ⟨q, [y], rfl, .inl upd_same, rfl, fun z => z.2 rfl, RDs.one (RD.weakW k3 (fun _ _ h => h) _ _ r2')⟩ (rs2'.weakW k3 rfl fun _ _ => rfl)
        · have hne : b ≠ q := fun e => by rw [e, hq'] at hb; cases hb
          rcases x.kp b o hb nb with q' | ⟨nt, od, kvs, eo, q'⟩
          · exact .inl ((upd_ne hne).trans q')
          · exact .inr ⟨nt, od, kvs, eo, (upd_ne hne).trans q'⟩
        · show upd w2.H q _ b ≠ none
          by_cases e : b = q
          · rw [e, upd_same]; simp
          · rw [upd_ne e]; exact x.al b hb
        · show upd w2.H q _ b ≠ none
          by_cases e : b = q
          · rw [e, upd_same]; simp
          · rw [upd_ne e]; exact G2.al b hb.1
        · show upd w2.H q _ b ≠ some (.tup xs)
          rw [upd_ne hb.2]
          exact G2.nt b hb.1 xs
      · exact p0.elim
/-! d.get(k, x) -/
theorem de_get2T {o e f : Expr} {apos cpos : Pos} {mo ma mb : ME} (hu : X.A.units + 1 < cLine) (ho : PE X o (TEof X.g Wx mo)) (he : PE X e (TEof X.g Wx ma)) (hf : PE X f (TEof X.g Wx mb))
    (h1 : attributeBase o "get" X.env (eval o X.env) = eval o X.env := by rfl)
    (h2 : ((backTo cpos (starEach [e, f] X.env)).all (fun x => !x.1) && (backToKw cpos (keywordEach [] X.env)).all (fun x => x.1.isSome)
    && decide (([e, f] : List Expr).length + ([] : List Keyword).length + (if ([] : List Keyword).isEmpty then 0 else 1) < 30)) = true := by rfl)
    (h3 : (apos.endLine == cpos.line) = true := by rfl) (h4 : backTo cpos (starEach [e, f] X.env) = [(false, eval e X.env), (false, eval f X.env)] := by rfl) :
    PE X (.Call (.Attribute o "get" apos) [e, f] [] cpos) (TEof X.g Wx (eGet2T mo ma mb)) := by
  refine peImp (pe_dget2 hu ho he hf ⟨h1, h2, h3, h4⟩) fun σ H Q ⟨w, E, S, a, p⟩ => ?_
  refine ⟨w, E, S, a, PR.imp (PR.bind a.good a.env p) fun x H1 ⟨w1, d, S1, a1, x1, r1, p1⟩ => ?_⟩
  split at p1
  · rename_i hs
    obtain ⟨⟨ks, xs⟩, e0⟩ := Option.isSome_iff_exists.mp hs
    obtain ⟨b, vs, rfl, t, l, r3⟩ := r1.dctTAt a1.sto e0
    refine ⟨b, rfl, .inr ⟨_, by rw [← a1.hp]; exact t⟩, w1, E, S1, a1, PR.imp (PR.bind a1.good a1.env p1) fun y H2 ⟨w2, dy, S2, a2, x2, ry, p2⟩ => ?_⟩
    refine ⟨w2, E, S2, a2, PR.imp (PR.bind a2.good a2.env p2) fun z H3 ⟨w3, dz, S3, a3, x3, rz, p3⟩ => ?_⟩
    split at p3
    · rename_i ks' ds' q e1 e2
      have r1' : RD X.g w3 d (.ref b) := RD.mono a1.good (x2.trans x3) d _ r1
      obtain ⟨b', vs', eb, t', l', r3'⟩ := r1'.dctTAt a3.sto e1
      cases eb
      obtain ⟨kb, rfl, tb, _⟩ := kyT_of (ry.mono a2.good x3) e2
      rw [← a3.hp]
      refine ⟨valV (ks'.zip vs') q, .inr ⟨_, q, kb, t', rfl, tb, rfl⟩, ?_⟩
      obtain ⟨z1, z2⟩ := valT_zip q l' r3'
      cases hg : getT ks' ds' q with
      | some dd =>
        rw [hg] at p3
        obtain ⟨vv, h5, h6⟩ := z1 dd hg
        rw [h5]
        exact putSame p3 a3.good a3.sto h6
      | none =>
        rw [hg] at p3
        rw [z2 hg]
        exact putSame p3 a3.good a3.sto rz
    · exact p3.elim
  · exact p1.elim
end
/-! for k, v in d.items() -/
theorem frzT2 {X : Cx} {pins : List (Addr × Obj)} {σ : L2.St} {H : Hp} {s : Shared} {d : Addr} {o : Obj} {kvs : List (List Key × V)} (I : Inv X pins σ H s) (h : H d = some (.frz o (.dT kvs))) :
    (d == sysModules) = false ∧ s.heap.get? d = some o ∧ o.ExactDict ∧ ∃ (es : Array DictEntry) (ep : Nat), o.data = .dict es ep ∧ es.size = kvs.length ∧
      ∀ (i : Nat) (k : List Key) (v : V), kvs[i]? = some (k, v) → ∃ (en : DictEntry) (q : Addr), es[i]? = some en ∧ en.key = .ref q ∧ H q = some (.tup (k.map kV)) ∧ RelV v en.val := by
  obtain ⟨hd, z, hs, xs, pr, o', es, ep, ho, hx, hdt, he, _⟩ := I.hok d _ h
  rw [hd] at ho
  cases ho
  refine ⟨hs, hd, hx, es, ep, hdt, ?_, fun i k v e => ?_⟩
  · have l1 : es.size = xs.length := size_of_entries he
    have l2 : kvs.length = xs.length := Paired.length pr
    omega
  · obtain ⟨b, hb, e1, e2, e3⟩ := paired_get pr e
    have q := entry_at he i
    rw [hb] at q
    exact ⟨_, b.2.1, q, rfl, e2, e3⟩
def ItiT (d : Addr) (o : Obj) (kvs : List (List Key × V)) : It :=
  ⟨fun i H => H d = some (.frz o (.dT kvs)) ∧ i < kvs.length, fun i H x H' => ∃ T k v q, kvs[i]? = some (k, v) ∧ x = .ref T ∧ H q = some (.tup (k.map kV)) ∧ H T = none ∧ H' = upd H T (.tup [.ref q, v]), fun i H => H d = some (.frz o (.dT kvs)) ∧ kvs.length ≤ i⟩
theorem turn_itemsT {P : Program} {w : World} {K : PySem.W.Frag} {d : Addr} {o : Obj} {es : Array DictEntry} {ep : Nat} {kvs : List (List Key × V)} {elts : List Expr} {kk : Nat} {tpos : Pos} (it : Addr) (hod : o.data = .dict es ep) :
    Turn P w K (.Tuple elts kk tpos) (ItiT d o kvs) [it] it (fun i h => ∃ ok ov, IsItemIter h it d i kvs.length ep ok ov) where
  mem := by simp
  obj := fun i h st b hb => by
    have e : b = it := by simpa using hb
    subst e
    obtain ⟨ok, ov, e⟩ := st
    exact ⟨_, e, fun v z => nomatch z⟩
  keep := fun i h h' st k => let ⟨ok, ov, e⟩ := st; ⟨ok, ov, k it (by simp) _ e⟩
  item := by
    intro X hP hw hK hc i pins s σ H E I hf st hg
    subst hP hw hK
    obtain ⟨hd, hi⟩ := hg
    obtain ⟨hs, hgd, hx, es', ep', hdt', hsz, ent⟩ := frzT2 I hd
    have hdt := hod
    obtain ⟨e1, e2⟩ := dict_ep hod hdt'
    rw [e1] at hsz ent
    obtain ⟨⟨k, v⟩, hkv⟩ : ∃ p, kvs[i]? = some p := ⟨kvs[i], List.getElem?_eq_getElem hi⟩
    obtain ⟨en, q, hen, hkey, hq, hv⟩ := ent i k v hkv
    obtain ⟨ok, ov, he⟩ := st
    have hlt : it < s.heap.objs.size := Heap.lt_size he
    have hi' : i < es.size := by rw [hsz]; exact hi
    have een : es[i] = en := by
      rw [Array.getElem?_eq_getElem hi'] at hen
      exact Option.some.inj hen
    rw [← hsz] at he
    refine DT.nextI (es := es) he ⟨o, hgd, hx, hdt⟩ hi' fun h' ho hT hz hk => ?_
    refine ⟨_, rfl, wpAny_letOwnedTupleGo_items (s := { s with heap := h' }) ho fun h'' he' sb => ?_⟩
    rw [een] at hT he'
    have hT2 : h''.get? s.heap.objs.size = some { cls := .type "tuple", data := .seq #[en.key, en.val] } := (sb.2 _ (Nat.ne_of_gt hlt)).trans hT
    have new : ObjOk X.prog X.w (upd H s.heap.objs.size (.tup [.ref q, v])) h'' s.heap.objs.size (.tup [.ref q, v]) :=
      ⟨by show 2 ≤ sizeLine; decide, [en.key, en.val], .cons hkey (.cons hv .nil), ⟨_, hT2, rfl, _, rfl⟩⟩
    have I1 : Inv X pins σ (upd H s.heap.objs.size (.tup [.ref q, v])) { s with heap := h'' } :=
      I.turnedNew (t' := s.toks) (ch := [it]) (fun b ob hb e => (sb.2 b (by simpa using hb)).trans (hk b ob (by simpa using hb) e)) hf (Nat.le_refl _) new
    refine ⟨.ref s.heap.objs.size, _, I1, rfl, ⟨_, k, v, q, hkv, rfl, hq, I.hok.fresh (Nat.le_refl _), rfl⟩, ⟨en.key, en.val, ?_⟩, fun b hb => ?_⟩
    · rw [← hsz]; exact he'
    · have e : b = it := by simpa using hb
      rw [e, upd_ne (Nat.ne_of_lt hlt)]
      exact (hf it (by simp)).1
  done := by
    intro X hP hw hK hc i pins s σ H E I hf st hg
    subst hP hw hK
    obtain ⟨hd, hi⟩ := hg
    obtain ⟨f0, f1, f2, f3, f4, f5⟩ := hf it (by simp)
    obtain ⟨hs, hgd, hx, es', ep', hdt', hsz, ent⟩ := frzT2 I hd
    have hdt := hod
    obtain ⟨e1, e2⟩ := dict_ep hod hdt'
    rw [e1] at hsz ent
    obtain ⟨ok, ov, he⟩ := st
    rw [← hsz] at he
    exact DT.endI (es := es) (I.ok.hd hc) he ⟨o, hgd, hx, hdt⟩ (by rw [hsz]; exact hi) fun h' eb => ⟨rfl, I.turned (t' := s.toks) (fun b ob hb e => eb b ob hb e) f0 f1 f3 f4 f5⟩
  self := fun A i s Q E st h => let ⟨_, _, e⟩ := st; PySem.W.kcp_self e h
def iItemsT' (td : TE) : TI := fun σ H R => td σ H fun x H1 => ∃ d o kvs, x = .ref d ∧ H1 d = some (.frz o (.dT kvs)) ∧ R (ItiT d o kvs) H1
theorem pi_itemsT {X : Cx} {e : Expr} {td : TE} {apos cpos : Pos} {elts : List Expr} {kk : Nat} {tpos : Pos} (he : PE X e td) (hbase : attributeBase e "items" X.env (eval e X.env) = eval e X.env := by rfl) (hline : (apos.endLine == cpos.line) = true := by rfl) :
    PI X (.Tuple elts kk tpos) (.Call (.Attribute e "items" apos) [] [] cpos) (iItemsT' td) := by
  refine ⟨fun pins s σ H R I h => ?_⟩
  refine wpAny_Call_method (T := "dict") (id := "dict.items") hbase rfl hline F.plainAttrs_dict F.slot_dict_items F.type_dict_items (thn (he.run pins s σ H _ I h) fun u s1 ⟨x, H1, I1, rx, d, o, kvs, ex, hd, q⟩ => ?_)
  subst ex
  obtain rfl : u = Value.ref d := rx
  obtain ⟨hs, hgd, hx, es, ep, hdt, hsz, ent⟩ := frzT2 I1 hd
  refine ⟨⟨o, hgd, hx.1⟩, fun b z => by cases z; exact ⟨o, hgd, hx.2.1⟩, ?_⟩
  have I2 : Inv X pins σ H1 { s1 with heap := s1.heap.push { cls := .type "dict_items", data := .fields #[.ref d] } } := I1.kept (t' := s1.toks) fun b ob q => Heap.get?_push_of_some _ q
  have raw : DT.Raw (s1.heap.push { cls := .type "dict_items", data := .fields #[.ref d] }) d es ep := ⟨o, Heap.get?_push_of_some _ hgd, hx, hdt⟩
  have fin : wpAny (model X.prog X.w) X.A (pyIter (.ref s1.heap.objs.size)) (PIE X pins σ (.Tuple elts kk tpos) R) X.xe { s1 with heap := s1.heap.push { cls := .type "dict_items", data := .fields #[.ref d] } } := by
    refine DT.iterI (d := d) (es := es) (ep := ep) ⟨_, Heap.get?_push_size _ rfl, rfl, rfl⟩ raw (pi_one (tk := s1.toks) I2 _ (turn_itemsT _ hdt) ⟨.none, .none, ?_⟩ q)
    rw [← hsz]
    exact Heap.get?_push_size _ rfl
  show wpAny _ _ (callWith cpos (.builtin "dict.items") [.ref d] [] []) _ X.xe s1
  exact method_meetsIn F.slot_dict_items F.entry_dict_items rfl (PySem.evalArgs_none ⟨rfl, ⟨o, hgd, hx.1⟩, F.args_dict_items_1 _, _, DT.meetsItems (es := es) (ep := ep) hs, ⟨o, hgd, hx, hdt⟩, fin⟩)
/-- a dict is looked through: it stays -/
def tFzT (te : TE) : TE := fun σ H Q => te σ H fun x H1 => ∃ d kvs, x = .ref d ∧ Rd H1 d (.dT kvs) ∧ (∀ o, H1 d = some (.dT kvs) → Q x (upd H1 d (.frz o (.dT kvs)))) ∧ ∀ o, H1 d = some (.frz o (.dT kvs)) → Q x H1
theorem pe_fzT {X : Cx} {e : Expr} {te : TE} (he : PE X e te) : PE X e (tFzT te) := by
  refine ⟨fun pins s σ H Q I h => ?_⟩
  refine thn (he.run pins s σ H _ I h) fun v s1 ⟨x, H1, I1, rx, d, kvs, ex, hd, q1, q2⟩ => ?_
  rcases hd with hd | ⟨o, hd⟩
  · obtain ⟨od, I2⟩ := I1.lock hd True.intro
    exact ⟨x, _, I2, rx, q1 od hd⟩
  · exact ⟨x, H1, I1, rx, q2 o hd⟩
theorem kDs_rd {g : G} {w : W} : ∀ ks : List Ky, RDs g w (ks.map kD) (ks.map kV)
  | [] => rfl
  | k :: ks => ⟨_, _, rfl, kD_rd k, kDs_rd ks⟩
theorem its_itemsT {g : G} {w : W} {a : Addr} {o : Obj} {ks : List (List Ky)} {ds : List D} {vs : List V} (G0 : Good w) (h : w.H a = some (.frz o (.dT (ks.zip vs)))) (n : ¬ w.thA a) (l : ks.length = vs.length) (r : RDs g w ds vs) :
    ItOk g w (ItiT a o (ks.zip vs)) (Src.its (itemsT ks ds)) := by
  have na : a ∉ w.rhA := fun z => n (G0.sub a z)
  have hl := r.length
  have hlen : (itemsT ks ds).length = (ks.zip vs).length := by simp [itemsT]; omega
  have kp : ∀ w', Ext w w' → w'.H a = some (.frz o (.dT (ks.zip vs))) := fun w' x => x.kpN h na dkt_frz
  refine ⟨fun i w' S d x rs al e hi => ⟨kp w' x, ?_⟩, fun w' S x rs al => ⟨kp w' x, ?_⟩, fun i w' S d x H' ex G rs al e hi y => ?_⟩
  · have : i < (itemsT ks ds).length := hi
    omega
  · show (ks.zip vs).length ≤ (itemsT ks ds).length
    omega
  · obtain ⟨T, k, v, q, hk, rfl, hq, hT, rfl⟩ := y
    have e' : (itemsT ks ds)[i]? = some d := e
    unfold itemsT at e'
    rw [List.getElem?_zipWith] at e'
    have hki : ks[i]? = some k ∧ vs[i]? = some v := by
      rw [List.getElem?_zip_eq_some] at hk
      exact hk
    rw [hki.1] at e'
    cases hd : ds[i]? with
    | none => rw [hd] at e'; simp at e'
    | some d0 =>
      rw [hd] at e'
      simp at e'
      subst e'
      obtain ⟨v', hv', rd⟩ := (r.mono G0 ex).get hd
      rw [hki.2] at hv'
      cases hv'
      exact pairNew G rs hT ⟨q, _, rfl, ⟨hq, fun z => G.nt q z _ hq⟩, kDs_rd k⟩ rd
section
variable {X : Cx} {Wx : WX} {pos : Pos}
theorem di_itemsT {e : Expr} {ma : ME} {elts : List Expr} {kk : Nat} {tpos apos cpos : Pos} (he : PE X e (TEof X.g Wx ma)) (hbase : attributeBase e "items" X.env (eval e X.env) = eval e X.env := by rfl) (hline : (apos.endLine == cpos.line) = true := by rfl) :
    PI X (.Tuple elts kk tpos) (.Call (.Attribute e "items" apos) [] [] cpos) (TIof X.g Wx (iItemsT ma)) := by
  refine piImp (pi_itemsT (pe_fzT he) hbase hline) fun σ H Q ⟨w, E, S, a, p⟩ => ?_
  refine ⟨w, E, S, a, ?_⟩
  have p1 : PR X.g Wx σ w (fun w' s J => ItOk X.g w' J s) Q ((ma E S).bind fun x S1 => match x with
    | .dcT ks ds => .ok (Src.its (itemsT ks ds)) S1
    | _ => .bad) := p
  cases hm : ma E S with
  | bad => rw [hm] at p1; exact p1.elim
  | exc c fs S1 => rw [hm] at p1; exact p1
  | ok x S1 =>
    rw [hm] at p1
    cases x with
    | dcT ks ds =>
      have p2 : PR X.g Wx σ w (fun w' s J => ItOk X.g w' J s) Q (.ok (Src.its (itemsT ks ds)) S1) := p1
      intro v w1 x1 G1 r1 rs1
      obtain ⟨b, vs, rfl, t, l, n, r3⟩ := r1
      refine ⟨b, _, rfl, t, fun o h => ?_, fun o h => ?_⟩
      · have na : b ∉ w1.rhA := fun z => n (G1.sub b z)
        have x2 : Ext w1 { w1 with H := upd w1.H b (.frz o (.dT (ks.zip vs))) } := by
          refine ⟨⟨[], by simp, by simp⟩, fun _ z => z, fun _ z => .inl z, fun c u hc hn => ?_, fun c hc => ?_⟩
          · by_cases ec : c = b
            · subst ec
              rw [h] at hc
              cases hc
              exact .inr ⟨n, o, .inr _, rfl, upd_same⟩
            · exact .inl ((upd_ne ec).trans hc)
          · show upd w1.H b _ c ≠ none
            by_cases ec : c = b
            · rw [ec, upd_same]; simp
            · rw [upd_ne ec]; exact hc
        have G2 : Good { w1 with H := upd w1.H b (.frz o (.dT (ks.zip vs))) } := put_upd G1
        have rs2 := rs1.keep G1 x2 rfl fun c hc => upd_ne fun ec => na (by rw [← ec]; exact hc)
        exact ⟨b, o, _, rfl, upd_same, p2 _ _ (x1.trans x2) G2 (its_itemsT G2 upd_same n l (r3.mono G1 x2)) rs2⟩
      · exact ⟨b, o, _, rfl, h, p2 _ _ x1 G1 (its_itemsT G1 h n l r3) rs1⟩
    | _ => exact p1.elim
end
end J
set_option Elab.async false
set_option linter.all false
set_option maxRecDepth 100000
set_option maxHeartbeats 1000000
namespace J
open PySem PySem.Spec PyProof.Rows L2
/-- an own class of exceptions, without fields -/
structure ExN (g : G) (c : Str) : Prop where
  ex : ∃ C : Addr, g.mg c = some (.ref C) ∧ PySem.W.excIn g.K C [.type "ValueError", .type "Exception", .type "BaseException", .type "object"] "ValueError.__new__" = true ∧ PySem.W.keepIn g.K (.ref C) = true ∧
    PySem.W.subIn g.K (.ref C) (.type "BaseException") = some true ∧ PySem.W.typeIn g.K (.ref C) = some (.type "type")
section
variable {X : Cx} {Wx : WX} {k : Nat}
theorem ds_raise {x : Str} {m : Str} {j : Nat} {p p2 pos pos' : Pos} (c : Ctx X Wx k) (T : ExN X.g x) (hg : Gl X x) (hdb : (x == ("__debug__" : Str)) = false := by decide) :
    PS X (.Raise (some (.Call (.Name x p) [.Constant (.str m) j p2] [] pos)) none pos') (TSof X.g Wx (sRaise x)) := by
  obtain ⟨C, h1, h2, h3, h4, h5⟩ := T.ex
  refine psImp (ps_raise c.calm c.tk (pmk_own PySem.F.excBase_ValueError h2 h1 h3 (raises_own h4 h5) hg hdb)) fun D σ H ⟨w, E, S, a, p⟩ => ?_
  have := p (.ref C) none σ w (Ext.refl w) a.good ⟨C, h1, rfl, .inl ⟨rfl, rfl⟩⟩ a.env a.sto
  rw [a.hp] at this
  exact this
theorem pssP {st : List Stmt} {α : Type} {p : α → Prop} {t : α → TS} (h : ∀ x, p x → PSs X st (t x)) : PSs X st (fun D σ H => ∃ x, p x ∧ t x D σ H) := ⟨fun pins s σ H D I ⟨x, hp, q⟩ => (h x hp).run pins s σ H D I q⟩
theorem ds_tryIs {B C : Addr} {kt : Str → Option Bool} {xB n y xC : Str} {body : List Stmt} {i j : Nat} {mb : MS} {u v : V} {du dv : D} {eu ev : Expr} {pos pos' np py p1 p2 p3 p4 p5 p6 : Pos} (c : Ctx X Wx k)
    (hs : X.stack = X.env :: X.outer) (hf : X.env.frame = some X.env.locals) (hN : X.N.Nodup) (hi : X.N[i]? = some n) (hln : X.env.kindOf n = some .local) (hc : Names X xB (.ref B)) (hij : i ≠ j)
    (hk : ∀ c b, kt c = some b → ∃ D, X.g.mg c = some (.ref D) ∧ ExcC X.K D ∧ PySem.W.kitOne X.K (.ref D) (.ref C) = some b ∧ PySem.W.exmOne X.K (.ref D) (.ref B) = some true)
    (hb : ∀ (W : WX) (pn : List (Addr × Obj)) (xe : Value → Shared → Prop), Ctx (X.tr pn xe) W k → PSs (X.tr pn xe) body (TSof X.g W mb))
    (hn : ∀ a pn, PE (X.suite a pn) (.Name n p2) (tVar i)) (hC : ∀ a pn, PE (X.suite a pn) (.Name xC p3) (tC (.ref C)))
    (heu : ∀ a pn, PE (X.suite a pn) eu (tC u)) (hev : ∀ a pn, PE (X.suite a pn) ev (tC v)) (hdu : ∀ w, RD X.g w du u) (hdv : ∀ w, RD X.g w dv v)
    (hy : ∀ a pn, PG (X.suite a pn) (.Name y py) (gName j)) (hgi : Gl X "isinstance") (hmi : X.mg "isinstance" = none)
    (he : ∀ a pn, starEach [.Name n p2, .Name xC p3] (X.suite a pn).env = (false, eval (.Name n p2) (X.suite a pn).env) :: starEach [.Name xC p3] (X.suite a pn).env := by intro _ _; rfl)
    (he2 : ∀ a pn, starEach [.Name xC p3] (X.suite a pn).env = (false, eval (.Name xC p3) (X.suite a pn).env) :: starEach [] (X.suite a pn).env := by intro _ _; rfl)
    (hpl : ∀ a pn, (backTo p4 (starEach [.Name xC p3] (X.suite a pn).env)).any (·.1) = false := by intro _ _; rfl)
    (hsw : ∀ a pn, swapsWithSole [.Name y py] (.IfExp (.Call (.Name "isinstance" p1) [.Name n p2, .Name xC p3] [] p4) eu ev p5) p6.line (X.suite a pn).env = pure false := by intro _ _; rfl)
    (hsw2 : ∀ a pn, swappedStores [.Name y py] (.IfExp (.Call (.Name "isinstance" p1) [.Name n p2, .Name xC p3] [] p4) eu ev p5) (X.suite a pn).env = pure none := by intro _ _; rfl)
    (has : ∀ a pn, (assignEach [.Name y py] (X.suite a pn).env).map (·.2) = [assign (.Name y py) (X.suite a pn).env] := by intro _ _; rfl) :
    PS X (.Try body [.ExceptHandler (some (.Name xB np)) (some n) [.Assign [.Name y py] (.IfExp (.Call (.Name "isinstance" p1) [.Name n p2, .Name xC p3] [] p4) eu ev p5) p6] pos'] [] [] pos) (TSof X.g Wx (sTryIs kt i j du dv mb)) := by
  refine psImp (ps_try_as (tb := fun W => TSof X.g W mb) (ts := fun a cls d Dn σ H => ∃ q : Addr × Bool, (cls = .ref q.1 ∧ d = none ∧ ExcC X.K q.1 ∧ PySem.W.kitOne X.K (.ref q.1) (.ref C) = some q.2) ∧
      tAsg (tIf (tB (tCB (rIsE X.K q.1 a) (tCons (tVar i) (tCons (tC (.ref C)) tNil)))) (tC u) (tC v)) (gName j) Dn σ H) hs hf hN hi hln hc c.tk
    (fun W pn xe tk po => hb W pn xe ⟨tk, po, c.calm, c.hr⟩) fun a oe cls d pn hz hfd => pssP fun q ⟨e1, e2, e3, e4⟩ => ?_) fun Dn σ H ⟨w, E, S, at0, p⟩ => ⟨w, E, S, at0, ?_⟩
  · subst e1 e2
    exact pss_one (ps_asg (pe_ifExp (pt_val (pe_callB (call_isE e3 hz hfd) hgi hmi (by decide +kernel) (pa_cons (hn _ _) (pa_cons (hC _ _) pa_nil (he2 _ _)) (he _ _)) (he := he _ _) (hpl := hpl _ _))) (heu _ _) (hev _ _)) (hy _ _) (hsw _ _) (hsw2 _ _) (has _ _))
  · unfold sTryIs at p
    cases hm : mb E S with
    | bad => rw [hm] at p; exact p.elim
    | nx E1 S1 => rw [hm] at p; exact p
    | rt d S1 => rw [hm] at p; exact p
    | bk E1 S1 => rw [hm] at p; exact p
    | ct E1 S1 => rw [hm] at p; exact p
    | exc cn fs E1 S1 =>
      rw [hm] at p
      simp only at p
      split at p
      · rename_i hfs
        split at p
        · rename_i b hkt
          intro cls dx σ' w' x G' rx re rs
          obtain ⟨Dd, g1, g2, g3, g4⟩ := hk cn b hkt
          obtain ⟨C', h1, rfl, h3⟩ := rx
          rw [h1] at g1
          cases g1
          rw [Bool.and_eq_true] at hfs
          obtain ⟨hfs, hi1⟩ := hfs
          have hi1 : i < E1.length := of_decide_eq_true hi1
          have hfs' : fs = [] := by simpa using hfs
          have hdx : dx = none := by
            rcases h3 with ⟨_, h⟩ | ⟨_, _, h, _⟩
            · exact h
            · exact absurd hfs' h
          subst hdx
          refine ⟨true, g4, fun _ a0 ha0 => ⟨(_, b), ⟨rfl, rfl, g2, g3⟩, ?_⟩, fun z => Bool.noConfusion z⟩
          have hl : i < σ'.length := by rw [← re.1]; exact hi1
          have h0 : (σ'.set i (some (V.ref a0)))[i]? = some (some (V.ref a0)) := List.getElem?_set_self hl
          have fin : ∀ (z : V) (dz : D), RD X.g w' dz z → RE X.g w' ((E1.set j (some dz)).set i none) (((σ'.set i (some (V.ref a0))).set j (some z)).set i none) := fun z dz hz => by
            refine ⟨by simp [re.1], fun m d hd => ?_⟩
            by_cases hm : m = i
            · subst hm
              rw [List.getElem?_set_self (by simpa using hi1)] at hd
              cases hd
            · rw [List.getElem?_set_ne (Ne.symm hm)] at hd ⊢
              by_cases hmj : m = j
              · subst hmj
                have hmE : m < E1.length := by
                  have := (List.getElem?_eq_some_iff.mp hd).1
                  simpa using this
                rw [List.getElem?_set_self hmE] at hd
                cases hd
                exact ⟨z, List.getElem?_set_self (by simpa [re.1] using (by rw [← re.1]; exact hmE)), hz⟩
              · rw [List.getElem?_set_ne (Ne.symm hmj)] at hd ⊢
                rw [List.getElem?_set_ne (Ne.symm hm)]
                exact re.2 m d hd
          refine ⟨.ref a0, h0, .ref C, .ref C, b, rfl, fun _ r => r, g3, b, rfl, ?_⟩
          cases b with
          | true => exact p _ w' x G' (fin u du (hdu w')) rs
          | false => exact p _ w' x G' (fin v dv (hdv w')) rs
        · exact p.elim
      · exact p.elim
/-- what the top says for: except B as n: .. isinstance(n, C) -/
structure ExT (g : G) (xB xC : Str) (kt : Str → Option Bool) : Prop where
  ex : ∃ B C : Addr, g.mg xB = some (.ref B) ∧ g.mg xC = some (.ref C) ∧ ∀ c b, kt c = some b → ∃ D, g.mg c = some (.ref D) ∧ ExcC g.K D ∧ PySem.W.kitOne g.K (.ref D) (.ref C) = some b ∧ PySem.W.exmOne g.K (.ref D) (.ref B) = some true
theorem ds_tryIsT {kt : Str → Option Bool} {xB n y xC : Str} {body : List Stmt} {i j : Nat} {mb : MS} {u v : V} {du dv : D} {eu ev : Expr} {pos pos' np py p1 p2 p3 p4 p5 p6 : Pos} (c : Ctx X Wx k) (T : ExT X.g xB xC kt)
    (hs : X.stack = X.env :: X.outer) (hf : X.env.frame = some X.env.locals) (hN : X.N.Nodup) (hi : X.N[i]? = some n) (hln : X.env.kindOf n = some .local) (hc : ∀ B, X.mg xB = some (.ref B) → Names X xB (.ref B)) (hij : i ≠ j)
    (hb : ∀ (W : WX) (pn : List (Addr × Obj)) (xe : Value → Shared → Prop), Ctx (X.tr pn xe) W k → PSs (X.tr pn xe) body (TSof X.g W mb))
    (hn : ∀ a pn, PE (X.suite a pn) (.Name n p2) (tVar i)) (hC : ∀ C, X.mg xC = some (.ref C) → ∀ a pn, PE (X.suite a pn) (.Name xC p3) (tC (.ref C)))
    (heu : ∀ a pn, PE (X.suite a pn) eu (tC u)) (hev : ∀ a pn, PE (X.suite a pn) ev (tC v)) (hdu : ∀ w, RD X.g w du u) (hdv : ∀ w, RD X.g w dv v)
    (hy : ∀ a pn, PG (X.suite a pn) (.Name y py) (gName j)) (hgi : Gl X "isinstance") (hmi : X.mg "isinstance" = none)
    (he : ∀ a pn, starEach [.Name n p2, .Name xC p3] (X.suite a pn).env = (false, eval (.Name n p2) (X.suite a pn).env) :: starEach [.Name xC p3] (X.suite a pn).env := by intro _ _; rfl)
    (he2 : ∀ a pn, starEach [.Name xC p3] (X.suite a pn).env = (false, eval (.Name xC p3) (X.suite a pn).env) :: starEach [] (X.suite a pn).env := by intro _ _; rfl)
    (hpl : ∀ a pn, (backTo p4 (starEach [.Name xC p3] (X.suite a pn).env)).any (·.1) = false := by intro _ _; rfl)
    (hsw : ∀ a pn, swapsWithSole [.Name y py] (.IfExp (.Call (.Name "isinstance" p1) [.Name n p2, .Name xC p3] [] p4) eu ev p5) p6.line (X.suite a pn).env = pure false := by intro _ _; rfl)
    (hsw2 : ∀ a pn, swappedStores [.Name y py] (.IfExp (.Call (.Name "isinstance" p1) [.Name n p2, .Name xC p3] [] p4) eu ev p5) (X.suite a pn).env = pure none := by intro _ _; rfl)
    (has : ∀ a pn, (assignEach [.Name y py] (X.suite a pn).env).map (·.2) = [assign (.Name y py) (X.suite a pn).env] := by intro _ _; rfl) :
    PS X (.Try body [.ExceptHandler (some (.Name xB np)) (some n) [.Assign [.Name y py] (.IfExp (.Call (.Name "isinstance" p1) [.Name n p2, .Name xC p3] [] p4) eu ev p5) p6] pos'] [] [] pos) (TSof X.g Wx (sTryIs kt i j du dv mb)) := by
  obtain ⟨B, C, hB, hCC, hk⟩ := T.ex
  exact ds_tryIs (B := B) (C := C) c hs hf hN hi hln (hc B hB) hij hk hb hn (hC C hCC) heu hev hdu hdv hy hgi hmi he he2 hpl hsw hsw2 has
/-- an exception of the very class -/
theorem kit_self {K : PySem.W.Frag} {C : Addr} : PySem.W.kitOne K (.ref C) (.ref C) = some true := by
  show (if ((Value.ref C) == (Value.ref C)) = true then some true else PySem.W.kitCls K (.ref C) (.ref C)) = some true
  rw [if_pos (beq_self_eq_true _)]
end
end J
set_option Elab.async false
set_option linter.all false
set_option maxRecDepth 100000
set_option maxHeartbeats 1000000
namespace J
open PySem PySem.Spec PyProof.Rows L2
section
variable {X : Cx} {Wx : WX} {pos : Pos}
/-- tuple(l), l a list: a new tuple whose object is known -/
theorem call_tupleK : CallR X (.type "tuple") (fun xs H Q => ∃ p ys, xs = [.ref p] ∧ SqL X.K H p ys ∧ ∀ l o, o.dict = none → H l = none → Q (.ref l) (upd H l (.frz o (.tup ys)))) := by
  intro pins s σ H xs us Q I r h
  obtain ⟨p, ys, rfl, hq, q⟩ := h
  obtain ⟨u, rfl, rx⟩ := vals1 r
  cases rx
  obtain ⟨its, r', pl, hz⟩ := I.list hq
  have hlen := r'.length
  refine call_tuple_list pl.isList (fun h' kp => ?_) (by simp only [List.size_toArray] <;> omega)
  have I1 : Inv X pins σ H { s with heap := h' } := I.kept (t' := s.toks) kp
  have I2 : Inv X pins σ (upd H h'.objs.size (.frz { cls := .type "tuple", data := .seq its.toArray } (.tup ys))) { s with heap := h'.push { cls := .type "tuple", data := .seq its.toArray } } :=
    I1.laid (t' := s.toks) (fun b o e => Heap.get?_push_of_some _ e) (Nat.le_refl _) ⟨Heap.get?_push_size h' rfl, hz, its, r', IsTup.new _ _⟩
  exact ⟨.ref h'.objs.size, _, I2, rfl, q _ _ rfl (I1.hok.fresh (Nat.le_refl _))⟩
theorem jc_tupleK : CallR X (.type "tuple") (argOf X.g bTupK) := by
  intro pins s σ H xs us Q I r ⟨Wx, σ', w, S, ds, hH, G, rs, r1, p⟩
  subst hH
  unfold bTupK at p
  split at p
  · obtain ⟨v, rfl, r2⟩ := r1.one'
    split at p
    · rename_i xs e
      obtain ⟨a, vs, rfl, t, r3⟩ := r2.lstAt rs e
      refine call_tupleK pins s σ _ _ us Q I r ⟨a, vs, rfl, SqL.of t, fun l o hd hl => ?_⟩
      exact p (.ref l) (w.put l (.frz o (.tup vs))) (put_ext hl) (put_good G hl) ⟨l, vs, o, rfl, upd_same, hd, put_th (w := w) G hl, r3.mono G (put_ext hl)⟩ (put_store G hl rs)
    · exact p.elim
  · exact p.elim
/-- o.m(e, ..), o a tuple of known make -/
def tBK (r : V → List V → Hp → VK → Prop) (to : TE) (t : TA) : TE := fun σ H Q => to σ H fun x H1 => (∃ a o ys, x = .ref a ∧ H1 a = some (.frz o (.tup ys)) ∧ o.dict = none) ∧ t σ H1 fun xs H2 => r x xs H2 Q
theorem pe_bmK {o e : Expr} {es : List Expr} {to : TE} {t : TA} {name : Str} {apos cpos : Pos} {id : String} {r : V → List V → Hp → VK → Prop} (slot : Slot "tuple" name id) (hty : typeOf (.builtin id) = pure (.type "method_descriptor")) (hm : MtR X id r) (ho : PE X o to) (ha : PA X (e :: es) t)
    (hbase : attributeBase o name X.env (eval o X.env) = eval o X.env := by rfl)
    (hfew : ((backTo cpos (starEach (e :: es) X.env)).all (fun x => !x.1) && (backToKw cpos (keywordEach [] X.env)).all (fun x => x.1.isSome)
      && decide ((e :: es).length + ([] : List Keyword).length + (if ([] : List Keyword).isEmpty then 0 else 1) < 30)) = true := by rfl)
    (hline : (apos.endLine == cpos.line) = true := by rfl) (hs : starEach (e :: es) X.env = (false, eval e X.env) :: starEach es X.env := by rfl) (hplain : (backTo cpos (starEach es X.env)).any (·.1) = false := by rfl) :
    PE X (.Call (.Attribute o name apos) (e :: es) [] cpos) (tBK r to t) := by
  refine ⟨fun pins s σ H Q I h => ?_⟩
  refine wpAny_Call_method_late hbase hfew hline rfl (thn (ho.run pins s σ H _ I h) fun v s1 ⟨x, H1, I1, r1, ⟨a, ob, ys, ex, ht, hd⟩, q1⟩ => ?_)
  subst ex
  have r1' := r1
  obtain rfl : v = Value.ref a := r1
  obtain ⟨e1, hz, its, rv, hT⟩ := I1.hok a _ ht
  obtain ⟨ob2, e2, hc2, hd2⟩ := hT
  have hg : s1.heap.get? a = some ob := e1
  rw [hg] at e2
  cases e2
  refine ⟨"tuple", id, PySem.F.plainAttrs_tuple, slot, hty, ⟨ob, hg, hc2⟩, fun b eb => ?_, ?_⟩
  · cases eb
    exact ⟨ob, hg, hd⟩
  have hA := ha.run cpos pins s1 σ H1 _ I1 q1
  rw [hs] at hA ⊢
  refine Calls.callWith_builtin (by show (false || (backTo cpos (starEach es X.env)).any (·.1)) = false; rw [hplain] <;> rfl) (Calls.evalArgs_plain ?_)
  exact thn hA fun us s2 ⟨vs, H2, I2, r2, q2⟩ => hm pins s2 σ H2 _ vs _ us Q I2 r1' r2 q2
theorem jm_countK (hu : X.A.units + 1 < cLine) : MtR X "tuple.count" (mtOf X.g mCountK) := by
  intro pins s σ H x xs v us Q I rx rs' ⟨Wx, σ', w, S, d, ds, hH, G, rs, r1, r2, p⟩
  subst hH
  unfold mCountK at p
  split at p
  · obtain ⟨z, rfl, r3⟩ := r2.one'
    split at p
    · rename_i ns e
      obtain ⟨a, vs, o, rfl, t, hd, n, r4⟩ := r1
      have := ints_vals r4 e
      subst this
      cases r3
      cases rx
      obtain ⟨u, rfl, tk, rfl⟩ := rs'.one
      obtain ⟨its, rv, pl, hz⟩ := I.tuple (show SqT X.K w.H a _ from .inl (.inr ⟨o, t⟩))
      refine PySem.W.count_tuple_datum (α := Int) (xs := ns) pl (hold_ints rv) (PySem.W.holds_int _ tk) (by simpa [PySem.W.Datum.depth] using hu) ?_
      refine ⟨.int _, w.H, I.tok _, ⟨_, rfl⟩, ?_⟩
      exact putSame p G rs (by
        show V.int _ = V.int _
        congr 1)
    · exact p.elim
  · exact p.elim
theorem de_methK {o e : Expr} {es : List Expr} {mo : ME} {mr : MA} {name : Str} {apos cpos : Pos} {id : String} {m : D → List D → List D → R D} (slot : Slot "tuple" name id) (hty : typeOf (.builtin id) = pure (.type "method_descriptor")) (hm : MtR X id (mtOf X.g m)) (ho : PE X o (TEof X.g Wx mo)) (ha : PA X (e :: es) (TAof X.g Wx mr))
    (hbase : attributeBase o name X.env (eval o X.env) = eval o X.env := by rfl)
    (hfew : ((backTo cpos (starEach (e :: es) X.env)).all (fun x => !x.1) && (backToKw cpos (keywordEach [] X.env)).all (fun x => x.1.isSome)
      && decide ((e :: es).length + ([] : List Keyword).length + (if ([] : List Keyword).isEmpty then 0 else 1) < 30)) = true := by rfl)
    (hline : (apos.endLine == cpos.line) = true := by rfl) (hs : starEach (e :: es) X.env = (false, eval e X.env) :: starEach es X.env := by rfl) (hplain : (backTo cpos (starEach es X.env)).any (·.1) = false := by rfl) :
    PE X (.Call (.Attribute o name apos) (e :: es) [] cpos) (TEof X.g Wx (eMethK m mo mr)) := by
  refine peImp (pe_bmK slot hty hm ho ha hbase hfew hline hs hplain) fun σ H Q ⟨w, E, S, a, p⟩ => ?_
  refine ⟨w, E, S, a, PR.imp (PR.bind a.good a.env p) fun x H1 ⟨w1, d, S1, a1, x1, r1, p1⟩ => ?_⟩
  split at p1
  · rename_i h
    cases d <;> try (cases h; done)
    rename_i xs
    have r1' := r1
    obtain ⟨b, vs, ob, rfl, t, hd, n, r3⟩ := r1
    refine ⟨⟨b, ob, vs, rfl, by rw [← a1.hp]; exact t, hd⟩, w1, E, S1, a1, PR.imp (PR.bind a1.good a1.env p1) fun ys H2 ⟨w2, es, S2, a2, x2, r2, p2⟩ => ?_⟩
    exact ⟨Wx, σ, w2, S2, .tuk xs, es, a2.hp, a2.good, a2.sto, RD.mono a1.good x2 _ _ r1', r2, p2⟩
  · exact p1.elim
end
end J
set_option Elab.async false
set_option linter.all false
set_option maxRecDepth 100000
set_option maxHeartbeats 1000000
namespace J
open PySem PySem.Spec PyProof.Rows L2
section
variable {X : Cx} {Wx : WX} {pos : Pos}
theorem lc2Use {own own1 : List Nat} {mi mi1 : MI} {t t1 : Tg} {mc mc1 : MT} {me m : ME} (hsl : ∀ i, i ∈ t.slots → i ∈ own) (hsl1 : ∀ i, i ∈ t1.slots → i ∈ own1)
    (hm : (m = eLc2 own t mi mc own1 mi1 t1 mc1 me) ∨ (m = eLc2L own t mi mc own1 mi1 t1 mc1 me)) : ∀ (σ : L2.St) H Q, TEof X.g Wx m σ H Q → tLc2 (TIof X.g Wx mi) (TGof X.g t) (TTof X.g W0 mc) (TIof X.g W0 mi1) (TGof X.g t1) (TTof X.g W0 mc1) (TEof X.g W0 me) own own1 σ H Q := fun σ H Q ⟨w, E, S, a, p⟩ => by
  have p0 : ∃ fin : List D → List D → R D, PR X.g Wx σ w (RD X.g) Q ((lcRun2 own t mi mc own1 mi1 t1 mc1 me E S).bind fin) ∧ ∀ (w1 : W) (acc S2 : List D) (vs : List V) (w2 : W) (Dd : Addr), w1.H Dd = none → Good w1 → Good w2 → Ext w1 w2 → Dd ∉ w2.rhA → RS X.g w2 S2 → w2.thA Dd → w2.H Dd = some (.lst vs) → RDs X.g w2 acc vs → PR X.g Wx σ w1 (RD X.g) Q (fin acc S2) → Q (.ref Dd) w2.H := by
    rcases hm with rfl | rfl
    · refine ⟨fun (acc S1 : List D) => (R.ok (D.lst acc) S1 : R D), p, fun w1 acc S2 vs w2 Dd hD G1 G2 x nD rs hthA hDd r q => ?_⟩
      have k : Weak w2 ⟨fun a => w2.thA a ∧ a ≠ Dd, w2.rhA, w2.H⟩ := weak_take rfl fun _ z => z.1
      exact q (.ref Dd) ⟨fun a => w2.thA a ∧ a ≠ Dd, w2.rhA, w2.H⟩ ⟨x.rho, fun a h => ⟨x.th1 a h, fun z => G1.al a h (by rw [z]; exact hD)⟩, fun a h => x.th2 a h.1, x.kp, x.al⟩
        ⟨G2.nd, fun a h => ⟨G2.sub a h, fun z => nD (by rw [← z]; exact h)⟩, fun a h => G2.al a h.1, fun a h => G2.nt a h.1⟩ ⟨Dd, vs, rfl, hDd, fun z => z.2 rfl, RDs.weakW k (fun _ _ h => h) _ _ r⟩ (rs.weakW k rfl fun _ _ => rfl)
    · refine ⟨fun (acc S1 : List D) => (R.ok (D.loc S1.length) (S1 ++ [D.lst acc]) : R D), p, fun w1 acc S2 vs w2 Dd hD G1 G2 x nD rs hthA hDd r q => ?_⟩
      have k : Weak w2 ⟨w2.thA, w2.rhA ++ [Dd], w2.H⟩ := weak_take rfl fun _ z => z
      have kr : ∀ (n : Nat) a, w2.rhA[n]? = some a → (w2.rhA ++ [Dd])[n]? = some a := fun n a h => by
        rw [List.getElem?_append_left (List.getElem?_eq_some_iff.mp h).1]; exact h
      obtain ⟨τ, eτ, fτ⟩ := x.rho
      refine q (.ref Dd) ⟨w2.thA, w2.rhA ++ [Dd], w2.H⟩ ⟨⟨τ ++ [Dd], by show w2.rhA ++ [Dd] = _; rw [eτ, List.append_assoc], fun a h => (List.mem_append.mp h).elim (fτ a) fun h => by rw [List.mem_singleton.mp h]; exact hD⟩, x.th1, x.th2, x.kp, x.al⟩
        ⟨?_, fun a h => ?_, G2.al, G2.nt⟩ ⟨Dd, rfl, by show (w2.rhA ++ [Dd])[S2.length]? = some Dd; rw [rs.1]; simp⟩ ⟨by show (S2 ++ [_]).length = (w2.rhA ++ [Dd]).length; simp [rs.1], fun n d e => ?_⟩
      · show (w2.rhA ++ [Dd]).Nodup
        rw [List.nodup_append]
        refine ⟨G2.nd, by simp, fun a ha b hb e => ?_⟩
        rw [List.mem_singleton.mp hb] at e
        exact nD (by rw [← e]; exact ha)
      · rcases List.mem_append.mp h with h | h
        · exact G2.sub a h
        · rw [List.mem_singleton.mp h]; exact hthA
      · by_cases hn : n < S2.length
        · rw [List.getElem?_append_left hn] at e
          obtain ⟨a, h1, h2⟩ := rs.2 n d e
          exact ⟨a, kr n a h1, h2.weakW k kr rfl⟩
        · have hl : n = S2.length := by
            have := (List.getElem?_eq_some_iff.mp e).1
            simp at this
            omega
          subst hl
          simp at e
          subst e
          exact ⟨Dd, by show (w2.rhA ++ [Dd])[S2.length]? = some Dd; rw [rs.1]; simp, vs, hDd, RDs.weakW k kr _ _ r⟩
  obtain ⟨fin, p, hfin⟩ := p0
  refine ⟨w, E, S, a, ?_⟩
  unfold lcRun2 at p
  cases hmi : mi E S with
  | bad => rw [hmi] at p; exact p.elim
  | exc c fs S1 => rw [hmi] at p; exact p
  | ok src S1 =>
    rw [hmi] at p
    simp only at p
    intro J0 w1 x1 G1 it rs1 Dd hD
    have p1 := PR.at p x1
    have re1 := a.env.mono a.good x1
    have nD : Dd ∉ w1.rhA := fun z => G1.al Dd (G1.sub Dd z) hD
    refine ⟨fun i k H => ∃ w2 acc vs S2, w2.H = H ∧ Good w2 ∧ RS X.g w2 S2 ∧ Ext w1 w2 ∧ Dd ∉ w2.rhA ∧ w2.thA Dd ∧ H Dd = some (.lst vs) ∧ RDs X.g w2 acc vs ∧ i + k = src.len ∧ PR X.g Wx σ w1 (RD X.g) Q ((lcGo2 src t mc own1 mi1 t1 mc1 me (wipeE E own) k i acc S2).bind fin),
      ⟨src.len, w1.hide Dd (.lst []), [], [], S1, rfl, hide_good G1 hD, rs1.keep G1 (hide_ext hD) rfl (fun b hb => upd_ne fun e => nD (by rw [← e]; exact hb)), hide_ext hD, nD, .inr rfl, upd_same, rfl, by omega, p1⟩, ?_⟩
    rintro i k H ⟨w2, acc, vs, S2, rfl, G2, rs2, x2, hr2, hthA2, hD2, r2, hik, p2⟩
    cases k with
    | zero =>
      simp only [lcGo2] at p2
      split at p2
      · rename_i al
        have hi : i = src.len := by omega
        subst hi
        exact .inl ⟨it.stop w2 S2 x2 rs2 al, hfin w1 acc S2 vs w2 Dd hD G1 G2 x2 hr2 rs2 hthA2 hD2 r2 p2⟩
      · exact p2.elim
    | succ k =>
      simp only [lcGo2] at p2
      split at p2
      · rename_i al
        split at p2
        · exact p2.elim
        · rename_i d hd
          split at p2
          · exact p2.elim
          · rename_i E1 hE
            have hlt : i < src.len := by omega
            refine .inr ⟨it.go i w2 S2 d x2 rs2 al hd hlt, fun H' => ∃ w2 acc vs S2, w2.H = H' ∧ Good w2 ∧ RS X.g w2 S2 ∧ Ext w1 w2 ∧ Dd ∉ w2.rhA ∧ w2.thA Dd ∧ H' Dd = some (.lst vs) ∧ RDs X.g w2 acc vs ∧ (i + 1) + k = src.len ∧ PR X.g Wx σ w1 (RD X.g) Q ((lcGo2 src t mc own1 mi1 t1 mc1 me (wipeE E own) k (i + 1) acc S2).bind fin), fun H' hN => ⟨k, Nat.lt_succ_self k, hN⟩, fun x H' hy => ?_⟩
            obtain ⟨w3, rfl, x3, G3, hr3, hthA3, r3, rs3⟩ := it.yld i w2 S2 d x H' x2 G2 rs2 al hd hlt hy
            have nD3 : Dd ∉ w3.rhA := by rw [hr3]; exact hr2
            have hthAD3 : w3.thA Dd := x3.th1 Dd hthA2
            have hD3 : w3.H Dd = some (.lst vs) := x3.kpT hD2 hr2 hthA2
            have rw3 : RE X.g w3 (wipeE E own) (L2.wipe σ own) := ((re1.mono G1 x2).mono G2 x3).wipe own
            refine ⟨w3, wipeE E own, S2, d, E1, ⟨rfl, G3, rw3, rs3⟩, r3, hE, fun σ' re hk hl => ⟨wipe_eq hsl hk hl, w3, E1, S2, ⟨rfl, G3, re, rs3⟩, ?_⟩⟩
            cases hc : mc E1 S2 with
            | bad => rw [hc] at p2; exact p2.elim
            | exc c fs S3 => rw [hc] at p2; exact p2.elim
            | ok b S3 =>
              rw [hc] at p2
              simp only at p2
              intro b' w4 x4 G4 rb rs4
              obtain rfl : b = b' := rb
              have nD4 : Dd ∉ w4.rhA := fun z => by
                obtain ⟨τ, e5, f5⟩ := x4.rho
                rw [e5] at z
                rcases List.mem_append.mp z with z | z
                · exact nD3 z
                · have := f5 Dd z
                  rw [hD3] at this
                  cases this
              have hthAD4 : w4.thA Dd := x4.th1 Dd hthAD3
              have hD4 : w4.H Dd = some (.lst vs) := x4.kpT hD3 nD3 hthAD3
              have x14 : Ext w1 w4 := x2.trans (x3.trans x4)
              cases b with
              | false =>
                rw [if_neg Bool.false_ne_true] at p2 ⊢
                exact ⟨w4, acc, vs, S3, rfl, G4, rs4, x14, nD4, hthAD4, hD4, r2.mono G2 (x3.trans x4), by omega, p2⟩
              | true =>
                rw [if_pos rfl] at p2 ⊢
                have k5 : Weak w4 ⟨w4.thA, w4.rhA ++ [Dd], w4.H⟩ := weak_take rfl fun _ z => z
                have kr5 : ∀ (n : Nat) a, w4.rhA[n]? = some a → (w4.rhA ++ [Dd])[n]? = some a := fun n a h => by
                  rw [List.getElem?_append_left (List.getElem?_eq_some_iff.mp h).1]; exact h
                have hg5 : (w4.rhA ++ [Dd])[S3.length]? = some Dd := by rw [rs4.1]; simp
                have G5 : Good ⟨w4.thA, w4.rhA ++ [Dd], w4.H⟩ := ⟨by
                  show (w4.rhA ++ [Dd]).Nodup
                  rw [List.nodup_append]
                  refine ⟨G4.nd, by simp, fun a ha b hb e => ?_⟩
                  rw [List.mem_singleton.mp hb] at e
                  exact nD4 (by rw [← e]; exact ha), fun a h => by
                  rcases List.mem_append.mp h with h | h
                  · exact G4.sub a h
                  · rw [List.mem_singleton.mp h]; exact hthAD4, G4.al, G4.nt⟩
                have x15 : Ext w1 ⟨w4.thA, w4.rhA ++ [Dd], w4.H⟩ := by
                  obtain ⟨τ, eτ, fτ⟩ := x14.rho
                  exact ⟨⟨τ ++ [Dd], by show w4.rhA ++ [Dd] = _; rw [eτ, List.append_assoc], fun a h => (List.mem_append.mp h).elim (fτ a) fun h => by rw [List.mem_singleton.mp h]; exact hD⟩, x14.th1, x14.th2, x14.kp, x14.al⟩
                have rs5 : RS X.g ⟨w4.thA, w4.rhA ++ [Dd], w4.H⟩ (S3 ++ [.lst acc]) := by
                  refine ⟨by show (S3 ++ [_]).length = (w4.rhA ++ [Dd]).length; simp [rs4.1], fun n d e => ?_⟩
                  by_cases hn : n < S3.length
                  · rw [List.getElem?_append_left hn] at e
                    obtain ⟨a, h1, h2⟩ := rs4.2 n d e
                    exact ⟨a, kr5 n a h1, h2.weakW k5 kr5 rfl⟩
                  · have hl : n = S3.length := by
                      have := (List.getElem?_eq_some_iff.mp e).1
                      simp at this
                      omega
                    subst hl
                    simp at e
                    subst e
                    exact ⟨Dd, hg5, vs, hD4, RDs.weakW k5 kr5 _ _ (r2.mono G2 (x3.trans x4))⟩
                have re4 := re.mono G3 x4
                have re5 : RE X.g ⟨w4.thA, w4.rhA ++ [Dd], w4.H⟩ E1 σ' := ⟨re4.1, fun i d e => by
                  obtain ⟨v, h1, h2⟩ := re4.2 i d e
                  exact ⟨v, h1, RD.weakW k5 kr5 _ _ h2⟩⟩
                refine ⟨⟨w4.thA, w4.rhA ++ [Dd], w4.H⟩, E1, S3 ++ [.lst acc], ⟨rfl, G5, re5, rs5⟩, ?_⟩
                cases hm1 : mi1 E1 (S3 ++ [.lst acc]) with
                | bad => rw [hm1] at p2; exact p2.elim
                | exc c fs S4 => rw [hm1] at p2; exact p2.elim
                | ok src1 S4 =>
                  rw [hm1] at p2
                  simp only at p2
                  cases hin : lcIn src1 t1 mc1 me (wipeE E1 own1) S3.length src1.len 0 S4 with
                  | none => rw [hin] at p2; exact p2.elim
                  | some S5 =>
                    rw [hin] at p2
                    simp only at p2
                    split at p2
                    · rename_i hh
                      obtain ⟨hl4, hl5, hfl⟩ := hh
                      split at p2
                      · rename_i acc5 hS5
                        intro J1 w6 x6 G6 it6 rs6
                        refine ⟨fun j k H => ∃ w7 S7, w7.H = H ∧ Good w7 ∧ RS X.g w7 S7 ∧ Ext w6 w7 ∧ S7.length = S3.length + 1 ∧ j + k = src1.len ∧ lcIn src1 t1 mc1 me (wipeE E1 own1) S3.length k j S7 = some S5,
                          ⟨src1.len, w6, S4, rfl, G6, rs6, Ext.refl _, hl4, by omega, hin⟩, ?_⟩
                        rintro j m1 H ⟨w7, S7, rfl, G7, rs7, x7, hl7, hjk, hgo⟩
                        have x57 := x6.trans x7
                        have hD7 : w7.rhA[S3.length]? = some Dd := x57.get hg5
                        cases m1 with
                        | zero =>
                          simp only [lcIn] at hgo
                          split at hgo
                          · rename_i al1
                            have e75 : S7 = S5 := Option.some.inj hgo
                            subst e75
                            have hj : j = src1.len := by omega
                            subst hj
                            refine .inl ⟨it6.stop w7 S7 x7 rs7 al1, ?_⟩
                            have hrho : w7.rhA = w4.rhA ++ [Dd] := by
                              obtain ⟨τ, eτ, _⟩ := x57.rho
                              have hlen := rs7.1
                              rw [eτ] at hlen
                              simp only [List.length_append, List.length_singleton] at hlen
                              have h41 := rs4.1
                              have : τ = [] := List.eq_nil_of_length_eq_zero (by omega)
                              rw [eτ, this, List.append_nil]
                            obtain ⟨b, hb1, vs5, hb2, hb3⟩ := rs7.2 _ _ hS5
                            rw [hD7] at hb1
                            cases hb1
                            have kw : Weak w7 ⟨w7.thA, w4.rhA, w7.H⟩ := weak_take rfl fun _ z => z
                            have hf5 : D.flats acc5 = true := by
                              have := List.all_eq_true.mp hfl _ (List.mem_of_getElem? hS5)
                              simpa only [D.flat] using this
                            have x17 := x15.trans x57
                            refine ⟨⟨w7.thA, w4.rhA, w7.H⟩, acc5, vs5, S7.take S3.length, rfl, ⟨G4.nd, fun a h => G7.sub a (by rw [hrho]; exact List.mem_append_left _ h), G7.al, G7.nt⟩, ⟨by show (S7.take S3.length).length = w4.rhA.length; rw [List.length_take, hl7, ← rs4.1]; omega, fun n d e => ?_⟩, ⟨x14.rho, x17.th1, x17.th2, x17.kp, x17.al⟩, nD4, x57.th1 Dd hthAD4, hb2, RDs.flatW kw _ _ hf5 hb3, by omega, p2⟩
                            have hn : n < S3.length := by
                              have := (List.getElem?_eq_some_iff.mp e).1
                              rw [List.length_take] at this
                              omega
                            rw [List.getElem?_take_of_lt hn] at e
                            obtain ⟨a, h1, h2⟩ := rs7.2 n d e
                            rw [hrho, List.getElem?_append_left (by rw [← rs4.1]; exact hn)] at h1
                            exact ⟨a, h1, h2.flatW kw (List.all_eq_true.mp hfl _ (List.mem_of_getElem? e)) rfl⟩
                          · cases hgo
                        | succ m1 =>
                          simp only [lcIn] at hgo
                          split at hgo
                          · rename_i al1
                            split at hgo
                            · cases hgo
                            · rename_i d1 hd1
                              split at hgo
                              · cases hgo
                              · rename_i E2 hE2
                                have hlt1 : j < src1.len := by omega
                                refine .inr ⟨it6.go j w7 S7 d1 x7 rs7 al1 hd1 hlt1, fun H => ∃ w7 S7, w7.H = H ∧ Good w7 ∧ RS X.g w7 S7 ∧ Ext w6 w7 ∧ S7.length = S3.length + 1 ∧ (j + 1) + m1 = src1.len ∧ lcIn src1 t1 mc1 me (wipeE E1 own1) S3.length m1 (j + 1) S7 = some S5, fun H' hN => ⟨m1, Nat.lt_succ_self m1, hN⟩, fun x1' H' hy1 => ?_⟩
                                obtain ⟨w9, rfl, x9, G9, hr9, hth9, r9, rs9⟩ := it6.yld j w7 S7 d1 x1' H' x7 G7 rs7 al1 hd1 hlt1 hy1
                                have rw9 : RE X.g w9 (wipeE E1 own1) (L2.wipe σ' own1) := (((re5.mono G5 x6).mono G6 x7).mono G7 x9).wipe own1
                                refine ⟨w9, wipeE E1 own1, S7, d1, E2, ⟨rfl, G9, rw9, rs9⟩, r9, hE2, fun σ3 re3 hk3 hl3 => ⟨wipe_eq hsl1 hk3 hl3, w9, E2, S7, ⟨rfl, G9, re3, rs9⟩, ?_⟩⟩
                                cases hc1 : mc1 E2 S7 with
                                | bad => rw [hc1] at hgo; cases hgo
                                | exc c fs S8 => rw [hc1] at hgo; cases hgo
                                | ok b1 S8 =>
                                  rw [hc1] at hgo
                                  simp only at hgo
                                  intro b' w10 x10 G10 rb rs10
                                  obtain rfl : b1 = b' := rb
                                  cases b1 with
                                  | false =>
                                    rw [if_neg Bool.false_ne_true] at hgo ⊢
                                    split at hgo
                                    · rename_i hl8
                                      exact ⟨w10, S8, rfl, G10, rs10, x7.trans (x9.trans x10), hl8, by omega, hgo⟩
                                    · cases hgo
                                  | true =>
                                    rw [if_pos rfl] at hgo ⊢
                                    refine ⟨w10, E2, S8, ⟨rfl, G10, re3.mono G9 x10, rs10⟩, ?_⟩
                                    cases he : me E2 S8 with
                                    | bad => rw [he] at hgo; cases hgo
                                    | exc c fs S9 => rw [he] at hgo; cases hgo
                                    | ok z S9 =>
                                      rw [he] at hgo
                                      simp only at hgo
                                      split at hgo
                                      · rename_i acc9 hS9
                                        split at hgo
                                        · rename_i hh9
                                          intro y w11 x11 G11 rz rs11
                                          have x711 := x9.trans (x10.trans x11)
                                          have hD11 : w11.rhA[S3.length]? = some Dd := x711.get hD7
                                          obtain ⟨b, hb1, vs9, hb2, hb3⟩ := rs11.2 _ _ hS9
                                          rw [hD11] at hb1
                                          cases hb1
                                          have mem := List.mem_of_getElem? hD11
                                          have hlen := hb3.length
                                          refine ⟨vs9, hb2, by rw [hlen, ← sl_eq]; exact hh9.2, { w11 with H := upd w11.H Dd (.lst (vs9 ++ [y])) }, S9.set S3.length (.lst (acc9 ++ [z])), rfl, put_upd G11, upd_store G11 rs11 hD11 ⟨vs9 ++ [y], upd_same, RDs.mono G11 (upd_ext mem) _ _ (hb3.append (RDs.one rz))⟩, x7.trans (x711.trans (upd_ext mem)), by rw [List.length_set]; exact hh9.1, by omega, hgo⟩
                                        · cases hgo
                                      · cases hgo
                          · cases hgo
                      · exact p2.elim
                    · exact p2.elim
      · exact p2.elim
theorem de_lc2 {elt tg iter tg1 iter1 : Expr} {ifs ifs1 : List Expr} {scope : Scope} {own own1 : List (Str × Nat)} {mi mi1 : MI} {t t1 : Tg} {mc mc1 : MT} {me m : ME} (hsl : ∀ i, i ∈ t.slots → i ∈ own.map (·.2)) (hsl1 : ∀ i, i ∈ t1.slots → i ∈ own1.map (·.2))
    (hm : (m = eLc2 (own.map (·.2)) t mi mc (own1.map (·.2)) mi1 t1 mc1 me) ∨ (m = eLc2L (own.map (·.2)) t mi mc (own1.map (·.2)) mi1 t1 mc1 me))
    (h : PE X (.ListComp elt [⟨tg, iter, ifs, 0⟩, ⟨tg1, iter1, ifs1, 0⟩] scope pos) (tLc2 (TIof X.g Wx mi) (TGof X.g t) (TTof X.g W0 mc) (TIof X.g W0 mi1) (TGof X.g t1) (TTof X.g W0 mc1) (TEof X.g W0 me) (own.map (·.2)) (own1.map (·.2)))) : PE X (.ListComp elt [⟨tg, iter, ifs, 0⟩, ⟨tg1, iter1, ifs1, 0⟩] scope pos) (TEof X.g Wx m) := peImp h (lc2Use hsl hsl1 hm)
end
end J
set_option Elab.async false
set_option linter.all false
set_option maxRecDepth 100000
set_option maxHeartbeats 1000000
namespace J
open PySem PySem.Spec PyProof.Rows L2
open PySem.W (alike alikeAll dataLt keyToks keyToksAll dataLe EachIs)
mutual
def D.ordB : D → Bool
  | .int _ => true
  | .tup ds => D.ordBs ds
  | _ => false
def D.ordBs : List D → Bool
  | [] => true
  | d :: ds => d.ordB && D.ordBs ds
end
mutual
theorem toks_inj : ∀ (d e : D) (r r' : List (Int ⊕ List Nat)), d.ordB = true → e.ordB = true → alike d.py e.py = true → keyToks d.py ++ r = keyToks e.py ++ r' → d = e ∧ r = r'
  | .int a, e, r, r', _, h, k, q => by
    cases e <;> simp only [D.ordB, Bool.false_eq_true] at h
    · simp only [D.py, keyToks, List.cons_append, List.nil_append, List.cons.injEq, Sum.inl.injEq] at q
      exact ⟨by rw [q.1], q.2⟩
    · simp only [D.py, alike, Bool.false_eq_true] at k
  | .tup xs, e, r, r', g, h, k, q => by
    cases e <;> simp only [D.ordB, Bool.false_eq_true] at h
    · simp only [D.py, alike, Bool.false_eq_true] at k
    · simp only [D.ordB] at g
      simp only [D.py, alike] at k
      simp only [D.py, keyToks] at q
      obtain ⟨e1, e2⟩ := toks_injs xs _ r r' g h k q
      exact ⟨by rw [e1], e2⟩
theorem toks_injs : ∀ (ds es : List D) (r r' : List (Int ⊕ List Nat)), D.ordBs ds = true → D.ordBs es = true → alikeAll (D.pys ds) (D.pys es) = true → keyToksAll (D.pys ds) ++ r = keyToksAll (D.pys es) ++ r' → ds = es ∧ r = r'
  | [], [], r, r', _, _, _, q => by
    simp only [D.pys, keyToksAll, List.cons_append, List.nil_append, List.cons.injEq] at q
    exact ⟨rfl, q.2⟩
  | [], e :: es, r, r', _, _, _, q => by
    simp [D.pys, keyToksAll] at q
  | d :: ds, [], r, r', _, _, _, q => by
    simp [D.pys, keyToksAll] at q
  | d :: ds, e :: es, r, r', g, h, k, q => by
    simp only [D.ordBs, Bool.and_eq_true] at g h
    simp only [D.pys, alikeAll, Bool.and_eq_true] at k
    simp only [D.pys, keyToksAll, List.cons_append, List.append_assoc, List.cons.injEq] at q
    obtain ⟨e1, e2⟩ := toks_inj d e _ _ g.1 h.1 k.1 q.2
    obtain ⟨e3, e4⟩ := toks_injs ds es _ _ g.2 h.2 k.2 e2
    exact ⟨by rw [e1, e3], e4⟩
end
mutual
theorem lt_py : ∀ d e : D, d.ordB = true → e.ordB = true → d.cmpb = true → e.cmpb = true → alike d.py e.py = true → d.lt e = dataLt d.py e.py
  | .int a, e, _, h, _, _, k => by
    cases e <;> simp only [D.ordB, Bool.false_eq_true] at h
    · exact (PySem.W.dataLt_int _ _).symm
    · simp only [D.py, alike, Bool.false_eq_true] at k
  | .tup xs, e, g, h, c, c', k => by
    cases e <;> simp only [D.ordB, Bool.false_eq_true] at h
    · simp only [D.py, alike, Bool.false_eq_true] at k
    · simp only [D.ordB] at g
      simp only [D.py, alike] at k
      show D.lts xs _ = dataLt (.tuple (D.pys xs)) (.tuple (D.pys _))
      rw [PySem.W.dataLt_tuple]
      exact lts_py xs _ g h c c' k
theorem lts_py : ∀ ds es : List D, D.ordBs ds = true → D.ordBs es = true → D.cmpbs ds = true → D.cmpbs es = true → alikeAll (D.pys ds) (D.pys es) = true → D.lts ds es = PyProof.Rows.lexLt itemOrd (keyToksAll (D.pys ds)) (keyToksAll (D.pys es))
  | [], [], _, _, _, _, _ => (lex_irrefl (O := itemOrd) _).symm
  | [], e :: es, _, _, _, _, _ => by
    simp only [D.lts, D.pys, keyToksAll]
    rw [PyProof.Rows.lex_diff (O := itemOrd) (by simp)]
    rfl
  | d :: ds, [], _, _, _, _, _ => by
    simp only [D.lts, D.pys, keyToksAll]
    rw [PyProof.Rows.lex_diff (O := itemOrd) (by simp)]
    rfl
  | d :: ds, e :: es, g, h, c, c', k => by
    simp only [D.ordBs, Bool.and_eq_true] at g h
    simp only [D.cmpbs, Bool.and_eq_true] at c c'
    simp only [D.pys, alikeAll, Bool.and_eq_true] at k
    simp only [D.lts, D.pys]
    rw [PySem.W.dataLt_cons k.1, py_eqv d e c.1 c'.1, lt_py d e g.1 h.1 c.1 c'.1 k.1, lts_py ds es g.2 h.2 c.2 c'.2 k.2]
end
mutual
theorem shp_ord : ∀ d e : D, d.shp e = true → d.ordB = true ∧ e.ordB = true
  | .int _, e, h => by cases e <;> simp only [D.shp, Bool.false_eq_true] at h; exact ⟨rfl, rfl⟩
  | .tup xs, e, h => by
    cases e <;> simp only [D.shp, Bool.false_eq_true] at h
    exact shps_ord xs _ h
  | .non, e, h => by cases e <;> simp [D.shp] at h
  | .bl _, e, h => by cases e <;> simp [D.shp] at h
  | .str _, e, h => by cases e <;> simp [D.shp] at h
  | .ty _, e, h => by cases e <;> simp [D.shp] at h
  | .lst _, e, h => by cases e <;> simp [D.shp] at h
  | .rdl _, e, h => by cases e <;> simp [D.shp] at h
  | .dct _ _, e, h => by cases e <;> simp [D.shp] at h
  | .dcT _ _, e, h => by cases e <;> simp [D.shp] at h
  | .tuk _, e, h => by cases e <;> simp [D.shp] at h
  | .loc _, e, h => by cases e <;> simp [D.shp] at h
theorem shps_ord : ∀ ds es : List D, D.shps ds es = true → D.ordBs ds = true ∧ D.ordBs es = true
  | [], [], _ => ⟨rfl, rfl⟩
  | [], _ :: _, h => by simp [D.shps] at h
  | _ :: _, [], h => by simp [D.shps] at h
  | d :: ds, e :: es, h => by
    simp only [D.shps, Bool.and_eq_true] at h
    obtain ⟨a, b⟩ := shp_ord d e h.1
    obtain ⟨c, f⟩ := shps_ord ds es h.2
    simp only [D.ordBs, Bool.and_eq_true]
    exact ⟨⟨a, c⟩, b, f⟩
end
mutual
theorem shp_alike : ∀ x d e : D, x.shp d = true → x.shp e = true → alike d.py e.py = true
  | .int _, d, e, h, k => by
    cases d <;> simp only [D.shp, Bool.false_eq_true] at h
    cases e <;> simp only [D.shp, Bool.false_eq_true] at k
    rfl
  | .tup xs, d, e, h, k => by
    cases d <;> simp only [D.shp, Bool.false_eq_true] at h
    cases e <;> simp only [D.shp, Bool.false_eq_true] at k
    simp only [D.py, alike]
    exact shps_alike xs _ _ h k
  | .non, d, _, h, _ => by cases d <;> simp [D.shp] at h
  | .bl _, d, _, h, _ => by cases d <;> simp [D.shp] at h
  | .str _, d, _, h, _ => by cases d <;> simp [D.shp] at h
  | .ty _, d, _, h, _ => by cases d <;> simp [D.shp] at h
  | .lst _, d, _, h, _ => by cases d <;> simp [D.shp] at h
  | .rdl _, d, _, h, _ => by cases d <;> simp [D.shp] at h
  | .dct _ _, d, _, h, _ => by cases d <;> simp [D.shp] at h
  | .dcT _ _, d, _, h, _ => by cases d <;> simp [D.shp] at h
  | .tuk _, d, _, h, _ => by cases d <;> simp [D.shp] at h
  | .loc _, d, _, h, _ => by cases d <;> simp [D.shp] at h
theorem shps_alike : ∀ xs ds es : List D, D.shps xs ds = true → D.shps xs es = true → alikeAll (D.pys ds) (D.pys es) = true
  | [], [], [], _, _ => by simp [D.pys, alikeAll]
  | [], _ :: _, _, h, _ => by simp [D.shps] at h
  | [], [], _ :: _, _, k => by simp [D.shps] at k
  | _ :: _, [], _, h, _ => by simp [D.shps] at h
  | _ :: _, _ :: _, [], _, k => by simp [D.shps] at k
  | x :: xs, d :: ds, e :: es, h, k => by
    simp only [D.shps, Bool.and_eq_true] at h k
    simp only [D.pys, alikeAll, Bool.and_eq_true]
    exact ⟨shp_alike x d e h.1 k.1, shps_alike xs ds es h.2 k.2⟩
end
theorem ints_ord : ∀ ds : List D, allInt ds = true → D.ordBs ds = true
  | [], _ => rfl
  | .int _ :: r, h => by
    simp only [D.ordBs, D.ordB, Bool.true_and]
    exact ints_ord r h
theorem ints_alike : ∀ ds es : List D, allInt ds = true → allInt es = true → alikeAll (D.pys ds) (D.pys es) = true
  | [], _, _, _ => by simp [D.pys, alikeAll]
  | _ :: _, [], _, _ => by simp [D.pys, alikeAll]
  | .int _ :: r, .int _ :: r', h, k => by
    simp only [D.pys, D.py, alikeAll, alike, Bool.true_and]
    exact ints_alike r r' h k
/-- what may be sorted -/
structure SOk (xs : List D) : Prop where
  ord : ∀ d ∈ xs, d.ordB = true
  cmp : ∀ d ∈ xs, d.cmpb = true
  dep : ∀ d ∈ xs, d.depth ≤ 60
  alk : ∀ d ∈ xs, ∀ e ∈ xs, alike d.py e.py = true
  srt : PySem.W.Sortable (xs.map D.py)
theorem okSort_two {x y : D} {zs : List D} (h : okSort (x :: y :: zs) = true) : SOk (x :: y :: zs) := by
  unfold okSort at h
  simp only [Bool.and_eq_true, Bool.or_eq_true, List.all_eq_true] at h
  obtain ⟨h1, h2⟩ := h
  have hc : ∀ d ∈ x :: y :: zs, d.cmpb = true ∧ d.depth ≤ 60 := fun d hd => by
    have := h1 d hd
    unfold ordOk at this
    simp only [Bool.and_eq_true, decide_eq_true_eq] at this
    exact this
  rcases h2 with h2 | ⟨h3, h2⟩
  · have hi : ∀ d ∈ x :: y :: zs, ∃ z r, d = .tup (z :: r) ∧ allInt (z :: r) = true := fun d hd => by
      have := h2 d hd
      unfold intTup at this
      split at this
      · exact ⟨_, _, rfl, this⟩
      · cases this
    refine ⟨fun d hd => ?_, fun d hd => (hc d hd).1, fun d hd => (hc d hd).2, fun d hd e he => ?_, .inl fun d hd => ?_⟩
    · obtain ⟨z, r, rfl, q⟩ := hi d hd
      exact ints_ord _ q
    · obtain ⟨z, r, rfl, q⟩ := hi d hd
      obtain ⟨z', r', rfl, q'⟩ := hi e he
      simp only [D.py, alike]
      exact ints_alike _ _ q q'
    · obtain ⟨b, hb, rfl⟩ := List.mem_map.mp hd
      obtain ⟨z, r, rfl, q⟩ := hi b hb
      exact ⟨z.py, D.pys r, rfl⟩
  · refine ⟨fun d hd => (shp_ord _ _ (h2 d hd)).2, fun d hd => (hc d hd).1, fun d hd => (hc d hd).2, fun d hd e he => shp_alike _ _ _ (h2 d hd) (h2 e he), ?_⟩
    cases x with
    | int i =>
      refine .inr fun d hd => ?_
      obtain ⟨b, hb, rfl⟩ := List.mem_map.mp hd
      have := h2 b hb
      cases b <;> simp only [D.shp, Bool.false_eq_true] at this
      exact ⟨by simp [D.py], by simp [D.py]⟩
    | tup ds =>
      refine .inl fun d hd => ?_
      obtain ⟨b, hb, rfl⟩ := List.mem_map.mp hd
      have := h2 b hb
      cases b <;> simp only [D.shp, Bool.false_eq_true] at this
      rename_i es
      cases ds with
      | nil => simp [sortHd] at h3
      | cons z r =>
        cases es with
        | nil => simp [D.shps] at this
        | cons z' r' => exact ⟨z'.py, D.pys r', rfl⟩
    | _ => simp [sortHd] at h3
/-! the order -/
abbrev leP (a b : D) : Bool := dataLe false D.py a b
theorem leP_eq (a b : D) : leP a b = !dataLt b.py a.py := rfl
theorem leP_tot : PySem.W.TotalLe leP := PySem.W.sortLe_total _ _ _
theorem leP_anti {xs : List D} (s : SOk xs) {a b : D} (ha : a ∈ xs) (hb : b ∈ xs) (h1 : leP a b = true) (h2 : leP b a = true) : a = b := by
  rw [leP_eq, Bool.not_eq_true'] at h1 h2
  have := lex_total (O := itemOrd) _ _ h2 h1
  have q := toks_inj a b [] [] (s.ord a ha) (s.ord b hb) (s.alk a ha b hb) (by rw [List.append_nil, List.append_nil]; exact this)
  exact q.1
theorem perm_uniq {le : D → D → Bool} : ∀ {as bs : List D}, (∀ a ∈ as, ∀ b ∈ as, le a b = true → le b a = true → a = b) → as.Perm bs → as.Pairwise (fun a b => le a b = true) → bs.Pairwise (fun a b => le a b = true) → as = bs
  | [], bs, _, p, _, _ => by simpa using p.symm
  | a :: as, [], _, p, _, _ => by simpa using p
  | a :: as, b :: bs, anti, p, h1, h2 => by
    have h1' := List.pairwise_cons.mp h1
    have h2' := List.pairwise_cons.mp h2
    have e : a = b := by
      have m1 : a ∈ b :: bs := p.mem_iff.mp List.mem_cons_self
      have m2 : b ∈ a :: as := p.mem_iff.mpr List.mem_cons_self
      rcases List.mem_cons.mp m1 with e | m1
      · exact e
      · rcases List.mem_cons.mp m2 with e | m2
        · exact e.symm
        · exact anti a List.mem_cons_self b (List.mem_cons_of_mem _ m2) (h1'.1 b m2) (h2'.1 a m1)
    subst e
    rw [perm_uniq (fun x hx y hy => anti x (List.mem_cons_of_mem _ hx) y (List.mem_cons_of_mem _ hy)) ((List.perm_cons a).mp p) h1'.2 h2'.2]
theorem insD_perm (n : D) : ∀ l : List D, (insD n l).Perm (n :: l)
  | [] => List.Perm.refl _
  | m :: ms => by
    unfold insD
    split
    · exact ((insD_perm n ms).cons m).trans (List.Perm.swap n m ms)
    · exact List.Perm.refl _
theorem sortD_perm : ∀ l : List D, (sortD l).Perm l
  | [] => List.Perm.refl _
  | n :: ns => (insD_perm n (sortD ns)).trans ((sortD_perm ns).cons n)
theorem leP_trans {a b c : D} (h1 : leP a b = true) (h2 : leP b c = true) : leP a c = true := leP_tot.trans a b c h1 h2
theorem insD_srt {xs : List D} (s : SOk xs) {n : D} (hn : n ∈ xs) : ∀ l : List D, (∀ d ∈ l, d ∈ xs) → l.Pairwise (fun a b => leP a b = true) → (insD n l).Pairwise (fun a b => leP a b = true)
  | [], _, _ => by simp [insD]
  | m :: ms, hl, h => by
    have hm := hl m List.mem_cons_self
    have h' := List.pairwise_cons.mp h
    have e : D.lt m n = dataLt m.py n.py := lt_py m n (s.ord m hm) (s.ord n hn) (s.cmp m hm) (s.cmp n hn) (s.alk m hm n hn)
    unfold insD
    by_cases q : D.lt m n = true
    · rw [if_pos q]
      have le1 : leP m n = true := by
        rw [e] at q
        rw [leP_eq, Bool.not_eq_true']
        cases z : dataLt n.py m.py with
        | false => rfl
        | true =>
          have := lex_trans (O := itemOrd) _ _ _ q z
          rw [lex_irrefl] at this
          cases this
      refine List.pairwise_cons.mpr ⟨fun d hd => ?_, insD_srt s hn ms (fun d hd => hl d (List.mem_cons_of_mem _ hd)) h'.2⟩
      rcases List.mem_cons.mp ((insD_perm n ms).mem_iff.mp hd) with rfl | hd
      · exact le1
      · exact h'.1 d hd
    · rw [if_neg q]
      have le1 : leP n m = true := by
        rw [e] at q
        rw [leP_eq, Bool.not_eq_true']
        simpa using q
      refine List.pairwise_cons.mpr ⟨fun d hd => ?_, h⟩
      rcases List.mem_cons.mp hd with rfl | hd
      · exact le1
      · exact leP_trans le1 (h'.1 d hd)
theorem sortD_srt {xs : List D} (s : SOk xs) : ∀ l : List D, (∀ d ∈ l, d ∈ xs) → (sortD l).Pairwise (fun a b => leP a b = true)
  | [], _ => List.Pairwise.nil
  | n :: ns, hl => insD_srt s (hl n List.mem_cons_self) _ (fun d hd => hl d (List.mem_cons_of_mem _ ((sortD_perm ns).mem_iff.mp hd))) (sortD_srt s ns fun d hd => hl d (List.mem_cons_of_mem _ hd))
theorem merge_eq {xs : List D} (s : SOk xs) : xs.mergeSort (dataLe false D.py) = sortD xs := by
  refine perm_uniq (le := leP) (fun a ha b hb => leP_anti s ((List.mergeSort_perm _ _).mem_iff.mp ha) ((List.mergeSort_perm _ _).mem_iff.mp hb)) ((List.mergeSort_perm _ _).trans (sortD_perm xs).symm) ?_ (sortD_srt s xs fun d h => h)
  exact List.pairwise_mergeSort leP_tot.trans (fun a b => by rw [Bool.or_eq_true]; exact leP_tot.total a b) _
section
variable {X : Cx} {Wx : WX} {pos : Pos}
theorem lstAny_seq {S : List D} {d : D} {xs : List D} (h : lstAny S d = some xs) : seqOf S d = some xs := by
  unfold lstAny at h
  split at h
  · exact h
  · exact h
  · exact h
  · cases h
theorem lstAny_lst {g : G} {w : W} {S : List D} {d : D} {v : V} {xs : List D} (rs : RS g w S) (r : RD g w d v) (h : lstAny S d = some xs) : ∃ p vs, v = .ref p ∧ SqL g.K w.H p vs ∧ RDs g w xs vs := by
  unfold lstAny at h
  split at h
  · cases h
    obtain ⟨p, vs, rfl, t, _, r⟩ := r
    exact ⟨p, vs, rfl, .inl (.inl t), r⟩
  · cases h
    obtain ⟨p, vs, rfl, t, r⟩ := r
    exact ⟨p, vs, rfl, t.sq, r⟩
  · rename_i n
    split at h
    · rename_i ds e
      cases h
      obtain ⟨a, rfl, ha⟩ := r
      obtain ⟨vs, h1, h2⟩ := rs.obj ha e
      exact ⟨a, vs, rfl, .inl (.inl h1), h2⟩
    · cases h
  · cases h
/-- values, what they stand for -/
def Std (g : G) (w : W) (u : Value) (d : D) : Prop := ∃ x, RD g w d x ∧ RelV x u
theorem std_each {g : G} {w : W} : ∀ {ds : List D} {vs : List V} {us : List Value}, RDs g w ds vs → Vals vs us → EachIs (Std g w) us ds
  | [], _, _, h, k => by cases h; cases k; exact .nil
  | d :: ds, _, _, h, k => by
    obtain ⟨v, r, rfl, h1, h2⟩ := h
    cases k with
    | cons k1 k2 => exact .cons ⟨v, h1, k1⟩ (std_each h2 k2)
theorem each_std {g : G} {w : W} : ∀ {ds : List D} {us : List Value}, EachIs (Std g w) us ds → ∃ vs, RDs g w ds vs ∧ Vals vs us
  | _, _, .nil => ⟨[], rfl, .nil⟩
  | _, _, .cons ⟨v, h1, k1⟩ t => by
    obtain ⟨vs, h2, k2⟩ := each_std t
    exact ⟨v :: vs, RDs.cons h1 h2, .cons k1 k2⟩
theorem std_reads {g : G} {w : W} {X : Cx} {pins : List (Addr × Obj)} {σ : L2.St} {s : Shared} (hg : X.g = g) (I : Inv X pins σ w.H s) : ∀ {ds : List D} {us : List Value}, (∀ d ∈ ds, d.cmpb = true) → EachIs (Std g w) us ds → EachIs (fun v d => ∃ as, Reads s.heap v (D.py d) as) us ds
  | _, _, _, .nil => .nil
  | _, _, hc, .cons ⟨v, h1, k1⟩ t => by
    refine .cons ?_ (std_reads hg I (fun d hd => hc d (List.mem_cons_of_mem _ hd)) t)
    subst hg
    exact Dp.reads I _ _ _ (py_dp _ _ (hc _ List.mem_cons_self) h1) k1
theorem short_out {out vs : List Value} (h : vs.length < 2) (p : out.Perm vs) : out = vs := by
  match vs, h with
  | [], _ => exact List.Perm.eq_nil p
  | [v], _ => exact List.perm_singleton.mp p
  | _ :: _ :: _, h => simp at h; omega
theorem jc_sortedD (hu : X.A.units + 64 < cLine) : CallR X (.builtin "sorted") (argOf X.g bSortedD) := by
  intro pins s σ H xs us Q I r ⟨Wx, σ', w, S, ds, hH, G, rs, r1, p⟩
  subst hH
  unfold bSortedD at p
  split at p
  · obtain ⟨v, rfl, r2⟩ := r1.one'
    split at p
    · rename_i xs e
      split at p
      · rename_i ok
        obtain ⟨a, vs, rfl, t, r3⟩ := lstAny_lst rs r2 e
        obtain ⟨its, rv, hl, hz⟩ := I.list t
        obtain ⟨u, rfl, ru⟩ := vals1 r
        obtain rfl : u = Value.ref a := ru
        have hlen : its.length = xs.length := by rw [← rv.length, r3.length]
        have hz' : its.length ≤ sizeLine := by rw [← rv.length]; exact hz
        have fin : ∀ (h' : Heap) (d : Addr) (out : List Value) (ys : List V), RDs X.g w (sortD xs) ys → Vals ys out → (∀ b o, s.heap.get? b = some o → h'.get? b = some o) → s.heap.objs.size ≤ d → (∃ n, h'.get? d = some (seqObj "list" out.toArray n)) → ∃ v H2, Inv X pins σ H2 { s with heap := h' } ∧ RelV v (Value.ref d) ∧ Q v H2 := fun h' d out ys r4 v4 kp hd ⟨n, hn⟩ => by
          have hf := I.hok.fresh hd
          refine ⟨.ref d, upd w.H d (.lst ys), I.laid (t' := s.toks) kp hd ⟨?_, out, n, v4, hn⟩, rfl, new_lst p G rs r4 d hf⟩
          rw [r4.length, (sortD_perm xs).length_eq, ← r3.length, rv.length]
          exact hz'
        by_cases h2 : its.length < 2
        · refine SrtO.sorted_ord (ltv := fun _ _ => false) ⟨fun _ _ h => (by cases h), fun _ _ _ _ _ => rfl⟩ (hl.isList) hz' (fun h => by omega) fun out hs hb => ?_
          have eo : out = its := short_out h2 hb.perm
          rw [eo]
          have es : sortD xs = xs := by
            match xs, hlen with
            | [], _ => rfl
            | [x], _ => rfl
            | _ :: _ :: _, h => simp at h; omega
          exact fin _ _ its vs (by rw [es]; exact r3) rv (fun b o e => sortedAll_old e) (Nat.le_succ _) (sortedAll_at s.heap its its.toArray)
        · have so : SOk xs := by
            match xs, hlen, ok with
            | [], h, _ => have : its.length = 0 := h; omega
            | [x], h, _ => have : its.length = 1 := h; omega
            | x :: y :: zs, _, ok => exact okSort_two ok
          have es := std_each r3 rv
          refine PySem.W.sorted_data (enc := D.py) (bs := xs) (R := Std X.g w) hl.isList es (std_reads rfl I so.cmp es) (fun d hd d' hd' => ?_) so.srt (by rw [← hlen]; exact hz') (fun b hb => ?_) fun out ho eo => ?_
          · obtain ⟨b, hb, rfl⟩ := List.mem_map.mp hd
            obtain ⟨b', hb', rfl⟩ := List.mem_map.mp hd'
            exact so.alk b hb b' hb'
          · rw [py_depth b (so.cmp b hb)]
            have := so.dep b hb
            omega
          · rw [merge_eq so] at eo
            obtain ⟨ys, r4, v4⟩ := each_std eo
            exact fin _ _ out ys r4 v4 (fun b o e => sortedAll_old e) (Nat.le_succ _) (sortedAll_at s.heap its out.toArray)
      · exact p.elim
    · exact p.elim
  · exact p.elim
theorem RE.drop {g : G} {w : W} {E : Env} {σ : L2.St} (h : RE g w E σ) (ids : List Nat) : RE g w (wipeE E ids) σ := by
  refine ⟨by rw [wipeE_length]; exact h.1, fun i d e => ?_⟩
  rw [wipeE_get] at e
  by_cases hi : i ∈ ids
  · rw [if_pos hi] at e
    cases q : E[i]? <;> (rw [q] at e; cases e)
  · rw [if_neg hi] at e
    exact h.2 i d e
theorem ds_drop {st : Stmt} {m : MS} (ids : List Nat) (h : PS X st (TSof X.g Wx m)) : PS X st (TSof X.g Wx (sDrop ids m)) := psImp h fun D σ H ⟨w, E, S, a, p⟩ => ⟨w, E, S, a, by
  unfold sDrop at p
  cases hm : m E S with
  | nx E1 S1 =>
    rw [hm] at p
    exact fun σ' w' x G r rs => p σ' w' x G (r.drop ids) rs
  | rt d S1 => rw [hm] at p; exact p.elim
  | bk E1 S1 => rw [hm] at p; exact p.elim
  | ct E1 S1 => rw [hm] at p; exact p.elim
  | exc c fs E1 S1 => rw [hm] at p; exact p.elim
  | bad => rw [hm] at p; exact p.elim⟩
end
end J
set_option Elab.async false
set_option linter.all false
set_option maxRecDepth 100000
set_option maxHeartbeats 1000000
namespace J
open PySem PySem.Spec PyProof.Rows L2
section
variable {X : Cx} {Wx : WX} {k : Nat}
/-- B.__init__(self, ..), B an own class below ValueError without __init__ -/
theorem pe_veinitB {B : Addr} {xB : Str} {e : Expr} {es : List Expr} {ta : TA} {p1 p2 pos : Pos} {pl : Sem Bool} (hg : Gl X xB) (hm : X.mg xB = some (.ref B)) (gB : PySem.W.specialIn X.K (.ref B) "__getattribute__" = some (some (.builtin "type.__getattribute__")))
    (rB : PySem.W.readsIn X.K B (.type "type") = true) (vB : PySem.W.findCls X.K (.ref B) (.type "type") "__init__" = some (.val (.builtin "ValueError.__init__"))) (ha : PA X (e :: es) ta) (hdb : (xB == ("__debug__" : Str)) = false := by decide)
    (hc : eval (.Call (.Attribute (.Name xB p1) "__init__" p2) (e :: es) [] pos) X.env = (do
      let ov ← eval (.Name xB p1) X.env
      standAt p2.atName
      let (f, first) ← holding [ov] (getMethod ov "__init__" pl)
      callWith pos f first (backTo pos (starEach (e :: es) X.env)) (backToKw pos (keywordEach [] X.env))) := by rfl)
    (he : starEach (e :: es) X.env = (false, eval e X.env) :: starEach es X.env := by rfl) (hpl : (backTo pos (starEach es X.env)).any (·.1) = false := by rfl) :
    PE X (.Call (.Attribute (.Name xB p1) "__init__" p2) (e :: es) [] pos) (tVeI X.K ta) := by
  refine ⟨fun pins s σ H Q I h => ?_⟩
  refine PySem.W.methodCall_KW (ld_glob I hg hm ?_ hdb) hc
  refine PySem.W.method_cls I.kIn gB (PySem.W.cls_value I.kIn rB vB (by decide +kernel) ?_)
  show wpAny _ _ (callWith pos (Value.builtin "ValueError.__init__") [] (backTo pos (starEach (e :: es) X.env)) []) _ _ _
  refine PyProof.Rows.callWith_method1 (thn (ha.run pos pins _ σ H _ (I.tok _) h) fun us s1 ⟨vs, H1, I1, r1, a, C, ws, ev, hl, T, ea, q⟩ => ?_) he hpl
  subst ev
  cases r1 with
  | @cons _ u0 _ ur ra rw' =>
    obtain rfl : u0 = Value.ref a := ra
    have hlen : ur.length ≤ sizeLine := by
      rw [← Paired.length rw', sizeLine_eq]
      omega
    exact oinit_ok T I1 ea hlen fun s' J => ⟨.non, H1, J, rfl, q⟩
end
/-- f'text{x}', x the name in slot i -/
abbrev tTx (t : Str) (i : Nat) : TE := fun σ H Q => tJs [tC (.str t), tFmt (tVar i)] Str.empty σ H fun out H1 => Q (.str out) H1
/-- what such an __init__ says -/
abbrev tIni (K : PySem.W.Frag) (f t : Str) : TS := tSeq (tDrop (tVeI K (tCons (tVar 0) (tCons (tTx t 1) tNil)))) (tOst K f (tVar 0) (tVar 1))
def spInit (K : PySem.W.Frag) (C : Addr) (f : Str) : Sp := fun vs H Q _ => ∃ (a : Addr) (i : Int), vs = [.ref a, .int i] ∧ i.natAbs.log2 < 1920 ∧ OexC K C ∧ PySem.W.findIn K (.ref C) f = some none ∧ H a = some (exo a C none) ∧
  ∀ dx, H dx = none → dx ≠ a → Q .non (upd (upd H dx (exd dx [(f, .int i)])) a (exo a C (some dx)))
theorem app_len (x y : Str) : (x ++ y).length = x.length + y.length := by
  show (x.cps ++ y.cps).size = _
  rw [Array.size_append]
  rfl
theorem init_of {P : Program} {wd : World} {K : PySem.W.Frag} {mg : Str → Option Value} {base : Heap} {qual f t : Str} {st : Stmt} {fI C : Addr} {fd : FuncData} (F : Fun K "__init__" qual st fI fd) (S : FnScope ["self", f] ["self", f] (defScope st)) (ht : t.length ≤ 1000)
    (hb : ∀ (cdv : Value) (A : Around) (outer : List PySem.Env) (s : Shared) (H : Hp) (E : XK), PSs (cxOf CX0 P wd K mg base ["self", f] qual (defScope st) fI cdv A outer s H E).nox (defBody st) (tIni K f t)) :
    FnOk P wd K mg base CX0 1 fI fd ["self", f] (spInit K C f) := by
  refine F.ok S (fun vs H Q E h => ?_) fun cdv A outer s H vs Q E hr h => ⟨_, hb cdv A outer s H E, ?_⟩
  · obtain ⟨a, i, rfl, _⟩ := h
    rfl
  · obtain ⟨a, i, rfl, hi, T, hno, ha, q⟩ := h
    have h1 : (Str.empty ++ t).length ≤ sizeLine := by
      rw [app_len, sizeLine_eq]
      have : Str.empty.length = 0 := rfl
      omega
    have h2 : (Str.empty ++ t ++ (toString i : Str)).length ≤ sizeLine := by
      rw [app_len, app_len, sizeLine_eq]
      have : Str.empty.length = 0 := rfl
      have := int_text_len_1921 hi
      have e : (toString i : Str).length = (PySem.Str.ofString (toString i)).length := rfl
      omega
    refine ⟨.ref a, rfl, t, rfl, h1, .int i, rfl, .inr ⟨i, rfl, hi, toString i, rfl, h2, ?_⟩⟩
    refine ⟨a, C, [.str _], rfl, by simp, T, ha, ?_⟩
    exact ⟨.int i, rfl, .ref a, rfl, a, C, rfl, T, hno, .inl ⟨ha, fun dx hd hne => q dx hd hne⟩⟩
/-- an own class of exceptions whose __init__ keeps one field -/
structure XIn (P : Program) (wd : World) (g : G) (base : Heap) (k : Nat) (c f : Str) : Prop where
  ex : ∃ (C fI : Addr) (fd : FuncData), g.mg c = some (.ref C) ∧ OexC g.K C ∧ PySem.W.findIn g.K (.ref C) "__init__" = some (some (.ref fI)) ∧ PySem.W.typeIn g.K (.ref fI) = some (.type "function") ∧ PySem.W.findIn g.K (.ref C) f = some none ∧
    FnOk P wd g.K g.mg base CX0 k fI fd ["self", f] (spInit g.K C f) ∧ Binds g.K fd ["self", f] []
section
variable {X : Cx} {Wx : WX} {k : Nat}
theorem ds_raiseF {x f : Str} {e : Expr} {me : ME} {j : Nat} {p pos pos' : Pos} (c : Ctx X Wx k) (T : XIn X.prog X.w X.g X.base j x f) (hk : j + 1 ≤ k) (hg : Gl X x) (he : PE X e (TEof X.g Wx me)) (hdb : (x == ("__debug__" : Str)) = false := by decide)
    (hs : starEach [e] X.env = (false, eval e X.env) :: starEach [] X.env := by rfl) (hpl : (backTo pos (starEach [] X.env)).any (·.1) = false := by rfl) :
    PS X (.Raise (some (.Call (.Name x p) [e] [] pos)) none pos') (TSof X.g Wx (sRaiseF x f me)) := by
  obtain ⟨C, fI, fd, hC, TO, iC, tI, hno, F, b⟩ := T.ex
  refine psImp (ps_raise c.calm c.tk (pmk_oex (ds := []) (dvs := []) TO iC tI F (c.hr.mono hk) b .nil pass0 hg hC (pa_cons he pa_nil hs) hdb hs hpl)) fun Dn σ H ⟨w, E, S, a, p⟩ => ?_
  refine ⟨w, E, S, a, PR.imp (PO_.bind a.good a.env p) fun x1 H1 ⟨w1, d, S1, a1, x1', r1, p1⟩ => ?_⟩
  obtain rfl := a1.hp
  cases d <;> try exact p1.elim
  rename_i i
  simp only at p1
  split at p1
  · rename_i hi
    obtain rfl : x1 = .int i := r1
    refine ⟨by simp, fun a' ha' => ⟨a', i, rfl, hi, TO, hno, upd_same, fun dx hdx hne => ⟨rfl, dx, [(f, .int i)], upd_same, ?_, ?_, ?_⟩⟩⟩
    · rw [upd_ne hne, upd_same]
    · rw [upd_ne hne] at hdx; exact hdx
    · have hdx' : w1.H dx = none := by rw [upd_ne hne] at hdx; exact hdx
      have e1 : upd (del (upd (upd (upd w1.H a' (exo a' C none)) dx (exd dx [(f, .int i)])) a' (exo a' C (some dx))) a') dx (.xd [(f, V.int i)]) = upd w1.H dx (.xd [(f, V.int i)]) := by
        funext b
        by_cases h1 : b = dx
        · rw [h1, upd_same, upd_same]
        · rw [upd_ne h1, upd_ne h1]
          by_cases h2 : b = a'
          · rw [h2, del_same, ha']
          · rw [del_ne h2, upd_ne h2, upd_ne h1, upd_ne h2]
      rw [e1]
      exact p1 (.ref C) (some dx) σ (w1.put dx (.xd [(f, V.int i)])) (put_ext hdx') (put_good a1.good hdx') ⟨C, hC, rfl, .inr ⟨dx, [.int i], by simp, rfl, upd_same, put_th (w := w1) a1.good hdx', RDs.one rfl⟩⟩ (a1.env.mono a1.good (put_ext hdx')) (put_store a1.good hdx' a1.sto)
  · exact p1.elim
/-- isinstance(e, c), e the exception that the suite holds, its dict d -/
def rIsE2 (K : PySem.W.Frag) (D a : Addr) (d : Option Addr) : List V → Hp → VK → Prop := fun xs H Q => ∃ (c : V) (cv : Value) (b : Bool), xs = [.ref a, c] ∧ (∀ u, RelV c u → u = cv) ∧ PySem.W.kitOne K (.ref D) cv = some b ∧ (∀ dd, d = some dd → ∃ fs, H dd = some (.xd fs)) ∧ Q (.bl b) H
theorem call_isE2 {a D : Addr} {oe : Obj} {d : Option Addr} {pn : List (Addr × Obj)} (C : ExcC X.K D) (hz : Zc (.ref D) d oe) (hf : ∃ vs, oe.data = .fields vs) : CallR (X.suite a ((a, oe) :: pn)) (.builtin "isinstance") (rIsE2 X.K D a d) := by
  intro pins s σ H xs us Q I r h
  obtain ⟨c, cv, b, rfl, hcv, e, hdd, q⟩ := h
  cases r with
  | cons rx rr =>
    cases rr with
    | cons rt rr =>
      cases rr
      cases rx
      have ec := hcv _ rt
      subst ec
      obtain ⟨hget, _⟩ := I.pin (a, oe) (List.mem_append.mpr (.inl List.mem_cons_self))
      obtain ⟨vs, hv⟩ := hf
      obtain ⟨cd, hcd, _⟩ := PySem.W.any_some C.hd
      have hcl : (PySem.W.clsIn X.K D).isSome = true := by rw [hcd]; rfl
      have hn : PySem.W.notCls oe := by unfold PySem.W.notCls; rw [hv] <;> rfl
      cases d with
      | none =>
        have J : PySem.W.InstAt s.heap a oe D none := ⟨hget, hz.1, hn, by rw [hz.2]; trivial⟩
        exact PySem.W.kia_one (PySem.W.kitx_exc hcl C.hg C.hk C.hs C.ha C.hn C.ht C.hm) I.kIn J e (fun z => nomatch z) fun tk => ⟨.bl b, H, I.kept (t' := tk) fun _ _ z => z, rfl, q⟩
      | some dd =>
        obtain ⟨fs, ea⟩ := hdd dd rfl
        have hx : ObjOk X.prog X.w H s.heap dd (.xd fs) := I.hok dd _ ea
        obtain ⟨mA, hns, hr⟩ := hx
        obtain ⟨od, ho, hl⟩ := lookIn_ns hns
        have J : PySem.W.InstAt s.heap a oe D (some od) := ⟨hget, hz.1, hn, by rw [hz.2]; exact ho⟩
        exact PySem.W.kia_one (PySem.W.kitx_exc hcl C.hg C.hk C.hs C.ha C.hn C.ht C.hm) I.kIn J e (fun z => nomatch z) fun tk => ⟨.bl b, H, I.kept (t' := tk) fun _ _ z => z, rfl, q⟩
/-- what the top says for: except B as n: x = n.f if isinstance(n, C) else v -/
structure ExTF (g : G) (xB xC f : Str) (kt : Str → Option Bool) : Prop where
  ex : ∃ B C : Addr, g.mg xB = some (.ref B) ∧ g.mg xC = some (.ref C) ∧ ∀ c b, kt c = some b → ∃ D, g.mg c = some (.ref D) ∧ ExcC g.K D ∧ PySem.W.findIn g.K (.ref D) f = some none ∧ PySem.W.kitOne g.K (.ref D) (.ref C) = some b ∧ PySem.W.exmOne g.K (.ref D) (.ref B) = some true
theorem excC_xf {K : PySem.W.Frag} {D : Addr} (C : ExcC K D) : XfC K D := ⟨C.hg, C.hk, C.hs, C.hd⟩
theorem ds_tryFld {kt : Str → Option Bool} {xB n y xC f : Str} {body : List Stmt} {i j : Nat} {mb : MS} {v : V} {dv : D} {ev : Expr} {pos pos' np py p1 p2 p3 p4 p5 p6 p7 p8 : Pos} (c : Ctx X Wx k) (T : ExTF X.g xB xC f kt)
    (hs : X.stack = X.env :: X.outer) (hf : X.env.frame = some X.env.locals) (hN : X.N.Nodup) (hi : X.N[i]? = some n) (hln : X.env.kindOf n = some .local) (hc : ∀ B, X.mg xB = some (.ref B) → Names X xB (.ref B)) (hij : i ≠ j)
    (hb : ∀ (W : WX) (pn : List (Addr × Obj)) (xe : Value → Shared → Prop), Ctx (X.tr pn xe) W k → PSs (X.tr pn xe) body (TSof X.g W mb))
    (hn : ∀ a pn, PE (X.suite a pn) (.Name n p2) (tVar i)) (hn2 : ∀ a pn, PE (X.suite a pn) (.Name n p7) (tVar i)) (hC : ∀ C, X.mg xC = some (.ref C) → ∀ a pn, PE (X.suite a pn) (.Name xC p3) (tC (.ref C)))
    (hev : ∀ a pn, PE (X.suite a pn) ev (tC v)) (hdv : ∀ w, RD X.g w dv v)
    (hy : ∀ a pn, PG (X.suite a pn) (.Name y py) (gName j)) (hgi : Gl X "isinstance") (hmi : X.mg "isinstance" = none)
    (hbn : attributeBase (.Name n p7) f X.env (eval (.Name n p7) X.env) = eval (.Name n p7) X.env := by rfl)
    (he : ∀ a pn, starEach [.Name n p2, .Name xC p3] (X.suite a pn).env = (false, eval (.Name n p2) (X.suite a pn).env) :: starEach [.Name xC p3] (X.suite a pn).env := by intro _ _; rfl)
    (he2 : ∀ a pn, starEach [.Name xC p3] (X.suite a pn).env = (false, eval (.Name xC p3) (X.suite a pn).env) :: starEach [] (X.suite a pn).env := by intro _ _; rfl)
    (hpl : ∀ a pn, (backTo p4 (starEach [.Name xC p3] (X.suite a pn).env)).any (·.1) = false := by intro _ _; rfl)
    (hsw : ∀ a pn, swapsWithSole [.Name y py] (.IfExp (.Call (.Name "isinstance" p1) [.Name n p2, .Name xC p3] [] p4) (.Attribute (.Name n p7) f p8) ev p5) p6.line (X.suite a pn).env = pure false := by intro _ _; rfl)
    (hsw2 : ∀ a pn, swappedStores [.Name y py] (.IfExp (.Call (.Name "isinstance" p1) [.Name n p2, .Name xC p3] [] p4) (.Attribute (.Name n p7) f p8) ev p5) (X.suite a pn).env = pure none := by intro _ _; rfl)
    (has : ∀ a pn, (assignEach [.Name y py] (X.suite a pn).env).map (·.2) = [assign (.Name y py) (X.suite a pn).env] := by intro _ _; rfl) :
    PS X (.Try body [.ExceptHandler (some (.Name xB np)) (some n) [.Assign [.Name y py] (.IfExp (.Call (.Name "isinstance" p1) [.Name n p2, .Name xC p3] [] p4) (.Attribute (.Name n p7) f p8) ev p5) p6] pos'] [] [] pos) (TSof X.g Wx (sTryFld kt f i j dv mb)) := by
  obtain ⟨B, C, hB, hCC, hk⟩ := T.ex
  refine psImp (ps_try_as (tb := fun W => TSof X.g W mb) (ts := fun a cls d Dn σ H => ∃ q : Addr × Bool, (cls = .ref q.1 ∧ ExcC X.K q.1 ∧ PySem.W.findIn X.K (.ref q.1) f = some none ∧ PySem.W.kitOne X.K (.ref q.1) (.ref C) = some q.2) ∧
      tAsg (tIf (tB (tCB (rIsE2 X.K q.1 a d) (tCons (tVar i) (tCons (tC (.ref C)) tNil)))) (tXf a cls d q.1 f (tVar i)) (tC v)) (gName j) Dn σ H) hs hf hN hi hln (hc B hB) c.tk
    (fun W pn xe tk po => hb W pn xe ⟨tk, po, c.calm, c.hr⟩) fun a oe cls d pn hz hfd => pssP fun q ⟨e1, e3, e4, e5⟩ => ?_) fun Dn σ H ⟨w, E, S, at0, p⟩ => ⟨w, E, S, at0, ?_⟩
  · subst e1
    exact pss_one (ps_asg (pe_ifExp (pt_val (pe_callB (call_isE2 e3 hz hfd) hgi hmi (by decide +kernel) (pa_cons (hn _ _) (pa_cons (hC C hCC _ _) pa_nil (he2 _ _)) (he _ _)) (he := he _ _) (hpl := hpl _ _))) (pe_xf (excC_xf e3) e4 hz hfd (hn2 _ _) hbn) (hev _ _)) (hy _ _) (hsw _ _) (hsw2 _ _) (has _ _))
  · unfold sTryFld at p
    cases hm : mb E S with
    | bad => rw [hm] at p; exact p.elim
    | nx E1 S1 => rw [hm] at p; exact p
    | rt d S1 => rw [hm] at p; exact p
    | bk E1 S1 => rw [hm] at p; exact p
    | ct E1 S1 => rw [hm] at p; exact p
    | exc cn fs E1 S1 =>
      rw [hm] at p
      simp only at p
      split at p
      · rename_i hi1
        cases hkt : kt cn with
        | none => rw [hkt] at p; exact p.elim
        | some b =>
          rw [hkt] at p
          intro cls dx σ' w' x G' rx re rs
          obtain ⟨Dd, g1, g2, g3, g4, g5⟩ := hk cn b hkt
          obtain ⟨C', h1, rfl, h3⟩ := rx
          rw [h1] at g1
          cases g1
          have hdx : ∀ dd, dx = some dd → ∃ fs', w'.H dd = some (.xd fs') := fun dd e => by
            rcases h3 with ⟨_, h⟩ | ⟨d, vs, _, h, hd, _⟩
            · rw [h] at e; cases e
            · rw [h] at e; cases e; exact ⟨_, hd⟩
          have fin : ∀ (a0 : Addr) (z : V) (dz : D), RD X.g w' dz z → RE X.g w' ((E1.set j (some dz)).set i none) (((σ'.set i (some (V.ref a0))).set j (some z)).set i none) := fun a0 z dz hz => by
            refine ⟨by simp [re.1], fun m d hd => ?_⟩
            by_cases hm : m = i
            · subst hm
              rw [List.getElem?_set_self (by simpa using hi1)] at hd
              cases hd
            · rw [List.getElem?_set_ne (Ne.symm hm)] at hd ⊢
              by_cases hmj : m = j
              · subst hmj
                have hmE : m < E1.length := by
                  have := (List.getElem?_eq_some_iff.mp hd).1
                  simpa using this
                rw [List.getElem?_set_self hmE] at hd
                cases hd
                exact ⟨z, List.getElem?_set_self (by simpa [re.1] using (by rw [← re.1]; exact hmE)), hz⟩
              · rw [List.getElem?_set_ne (Ne.symm hmj)] at hd ⊢
                rw [List.getElem?_set_ne (Ne.symm hm)]
                exact re.2 m d hd
          have hl : i < σ'.length := by rw [← re.1]; exact hi1
          have h0 : ∀ a0 : Addr, (σ'.set i (some (V.ref a0)))[i]? = some (some (V.ref a0)) := fun a0 => List.getElem?_set_self hl
          refine ⟨true, g5, fun _ a0 ha0 => ⟨(_, b), ⟨rfl, g2, g3, g4⟩, ?_⟩, fun z => Bool.noConfusion z⟩
          refine ⟨.ref a0, h0 a0, .ref C, .ref C, b, rfl, fun _ r => r, g4, hdx, b, rfl, ?_⟩
          cases b with
          | true =>
            simp only at p
            split at p
            · rename_i g d
              split at p
              · rename_i hgf
                subst hgf
                rcases h3 with ⟨h, _⟩ | ⟨dd, vs, _, h, hd, _, hr⟩
                · cases h
                · obtain ⟨z, r, rfl, hz, hr2⟩ := hr
                  cases hr2
                  exact ⟨.ref a0, h0 a0, rfl, rfl, dd, [(g, z)], z, h, hd, by simp [List.lookup], p _ w' x G' (fin a0 z d hz) rs⟩
              · exact p.elim
            · exact p.elim
          | false => exact p _ w' x G' (fin a0 v dv (hdv w')) rs
      · exact p.elim
end
end J
set_option Elab.async false
set_option linter.all false
set_option maxRecDepth 100000
set_option maxHeartbeats 1000000
namespace J
open PySem PySem.Spec PyProof.Rows L2
section
variable {X : Cx} {Wx : WX} {pos : Pos}
theorem jc_lenK : CallR X (.builtin "len") (argOf X.g bLenK) := by
  intro pins s σ H xs us Q I r ⟨Wx, σ', w, S, ds, hH, G, rs, r1, p⟩
  unfold bLenK at p
  split at p
  · subst hH
    obtain ⟨v, rfl, r2⟩ := r1.one'
    obtain ⟨a, vs, o, rfl, t, hd, n, r3⟩ := r2
    have q := putSame p G rs rfl
    rw [← r3.length] at q
    exact call_len_seq pins s σ _ _ us Q I r ⟨a, vs, rfl, .inr (.inl (.inr ⟨o, t⟩)), q⟩
  · exact jc_len pins s σ H xs us Q I r ⟨Wx, σ', w, S, ds, hH, G, rs, r1, p⟩
theorem jo_inK (hu : X.A.units + 65 < cLine) : OpR X (compareOp .In) (opOf X.g oInK) := by
  intro pins s σ H x y v u Q I rx ry ⟨Wx, σ', w, S, d, e, hH, G, rs, r1, r2, p⟩
  unfold oInK at p
  split at p
  · subst hH
    split at p
    · rename_i xs h
      have q := putSame p G rs rfl
      obtain ⟨as, q1⟩ := Dp.reads I _ _ v (seen_dp rs r1 h.1) rx
      rw [← pys_any _ _ (cmpOk_b h.1) h.2] at q
      have hl := pys_lay _ (all_cmpbs h.2).1
      obtain ⟨a, vs, o, rfl, t, hd, n, r3⟩ := r2
      obtain ⟨bs, q2⟩ := Dp.reads I _ _ u (.tup (show SqT X.K w.H a _ from .inl (.inr ⟨o, t⟩)) (pys_dp xs vs (all_cmpbs h.2).1 r3)) ry
      exact SeqAt.in_tuple_reads q2 q1 hl (py_lay _ (cmpOk_b h.1)) (room_in h.1 hu) ⟨.bl _, _, I, rfl, q⟩
    · exact p.elim
  · exact jo_in hu pins s σ H x y v u Q I rx ry ⟨Wx, σ', w, S, d, e, hH, G, rs, r1, r2, p⟩
theorem jo_ninK (hu : X.A.units + 65 < cLine) : OpR X (compareOp .NotIn) (opOf X.g oNinK) := by
  intro pins s σ H x y v u Q I rx ry ⟨Wx, σ', w, S, d, e, hH, G, rs, r1, r2, p⟩
  unfold oNinK at p
  split at p
  · subst hH
    split at p
    · rename_i xs h
      have q := putSame p G rs rfl
      obtain ⟨as, q1⟩ := Dp.reads I _ _ v (seen_dp rs r1 h.1) rx
      rw [← pys_any _ _ (cmpOk_b h.1) h.2] at q
      have hl := pys_lay _ (all_cmpbs h.2).1
      obtain ⟨a, vs, o, rfl, t, hd, n, r3⟩ := r2
      obtain ⟨bs, q2⟩ := Dp.reads I _ _ u (.tup (show SqT X.K w.H a _ from .inl (.inr ⟨o, t⟩)) (pys_dp xs vs (all_cmpbs h.2).1 r3)) ry
      exact SeqAt.notIn_tuple_reads q2 q1 hl (py_lay _ (cmpOk_b h.1)) (room_in h.1 hu) ⟨.bl _, _, I, rfl, q⟩
    · exact p.elim
  · exact jo_nin hu pins s σ H x y v u Q I rx ry ⟨Wx, σ', w, S, d, e, hH, G, rs, r1, r2, p⟩
theorem jm_indexK (hu : X.A.units + 1 < cLine) : MtR X "tuple.index" (mtOf X.g mIndexK) := by
  intro pins s σ H x xs v us Q I rx rs' ⟨Wx, σ', w, S, d, ds, hH, G, rs, r1, r2, p⟩
  subst hH
  unfold mIndexK at p
  split at p
  · obtain ⟨z, rfl, r3⟩ := r2.one'
    split at p
    · rename_i ns e
      split at p
      · rename_i hin
        obtain ⟨a, vs, o, rfl, t, hd, n, r4⟩ := r1
        have := ints_vals r4 e
        subst this
        cases r3
        cases rx
        obtain ⟨u, rfl, tk, rfl⟩ := rs'.one
        obtain ⟨its, rv, pl, hz⟩ := I.tuple (show SqT X.K w.H a _ from .inl (.inr ⟨o, t⟩))
        refine PySem.W.index_tuple_datum (α := Int) (xs := ns) pl (hold_ints rv) (PySem.W.holds_int _ tk) (by simpa [PySem.W.Datum.depth] using hu) hin ?_
        refine ⟨.int _, w.H, I.tok _, ⟨_, rfl⟩, ?_⟩
        exact putSame p G rs rfl
      · exact p.elim
    · exact p.elim
  · exact p.elim
theorem jm_indexL (hu : X.A.units + 1 < cLine) : MtR X "list.index" (mtOf X.g mIndexL) := by
  intro pins s σ H x xs v us Q I rx rs' ⟨Wx, σ', w, S, d, ds, hH, G, rs, r1, r2, p⟩
  subst hH
  unfold mIndexL at p
  split at p
  · obtain ⟨z, rfl, r3⟩ := r2.one'
    split at p
    · rename_i ys e0
      split at p
      · rename_i ns e
        split at p
        · rename_i hin
          obtain ⟨a, vs, rfl, t, r4⟩ := lstAny_lst rs r1 e0
          have := ints_vals r4 e
          subst this
          cases r3
          cases rx
          obtain ⟨u, rfl, tk, rfl⟩ := rs'.one
          obtain ⟨its, rv, pl, hz⟩ := I.list t
          refine PySem.W.index_list_datum (α := Int) (xs := ns) pl.isList (hold_ints rv) (PySem.W.holds_int _ tk) (by simpa [PySem.W.Datum.depth] using hu) (by simpa using hz) hin ?_
          refine ⟨.int _, w.H, I.tok _, ⟨_, rfl⟩, ?_⟩
          exact putSame p G rs rfl
        · exact p.elim
      · exact p.elim
    · exact p.elim
  · exact p.elim
theorem de_lstRg {a : Expr} {ma : ME} {p p2 pos2 : Pos} (hc : X.calm = true) (hg : Gl X "list") (hm : X.mg "list" = none) (hg2 : Gl X "range") (hm2 : X.mg "range" = none) (ha : PE X a (TEof X.g Wx ma))
    (na : starEach [a] X.env = (false, eval a X.env) :: starEach [] X.env := by rfl) (na2 : starEach [.Call (.Name "range" p2) [a] [] pos2] X.env = (false, eval (.Call (.Name "range" p2) [a] [] pos2) X.env) :: starEach [] X.env := by rfl) :
    PE X (.Call (.Name "list" p) [.Call (.Name "range" p2) [a] [] pos2] [] pos) (TEof X.g Wx (eLstRg ma)) := by
  refine peImp (pe_listRg hc hg hm (prg_1 hg2 hm2 ha na) na2) fun σ H Q ⟨w, E, S, a, p⟩ => ?_
  refine ⟨w, E, S, a, PR.imp (PR.bind a.good a.env p) fun x H1 ⟨w1, d, S1, a1, x1, r1, p1⟩ => ?_⟩
  split at p1
  · rename_i n
    split at p1
    · rename_i hn
      cases r1
      refine ⟨n, rfl, ⟨by omega, by omega, by omega, ?_, ?_⟩, fun q hq => ?_⟩
      · have := hn.2; unfold SL at this; omega
      · have := hn.2; unfold SL at this; omega
      · rw [← a1.hp] at hq ⊢
        refine new_lst p1 a1.good a1.sto ?_ q hq
        have := ints_rg (g := X.g) (w := w1) n.toNat fun i => 0 + (i : Int)
        unfold rgV
        rw [Int.sub_zero]
        simpa using this
    · exact p1.elim
  · exact p1.elim
end
end J
set_option Elab.async false
set_option linter.all false
set_option maxRecDepth 100000
set_option maxHeartbeats 1000000
namespace J
open PySem PySem.Spec PyProof.Rows L2
section
variable {X : Cx} {Wx : WX} {pos : Pos}
theorem jm_extend : MtR X "list.extend" (mtOf X.g mExtend) := by
  intro pins s σ H x xs v us Q I rx rs' ⟨Wx, σ', w, S, d, ds, hH, G, rs, r1, r2, p⟩
  subst hH
  unfold mExtend at p
  split at p
  · rename_i n y
    obtain ⟨z, rfl, r3⟩ := r2.one'
    split at p
    · rename_i ys e
      split at p
      · rename_i zs e2
        split at p
        · rename_i hl
          obtain ⟨a, vs, rfl, hp, t, r4⟩ := locUse rs r1 e
          obtain ⟨b, vz, rfl, tb, r5⟩ := r3.lstAt rs e2
          exact mt_extend pins s σ _ _ _ v us Q I rx rs' ⟨a, b, vs, vz, rfl, rfl, t, tb, by rw [r4.length, r5.length, ← sl_eq]; exact hl, putLst (d := .non) (v := .non) G rs hp (r4.append r5) rfl p⟩
        · exact p.elim
      · exact p.elim
    · exact p.elim
  · exact p.elim
end
end J
set_option Elab.async false
set_option linter.all false
set_option maxRecDepth 100000
set_option maxHeartbeats 1000000
namespace J
open PySem PySem.Spec PyProof.Rows L2
open PySem.W (alike alikeAll dataLt keyToks keyToksAll dataLe EachIs)
theorem each_get {α β : Type} {R : α → β → Prop} : ∀ {vs : List α} {ds : List β}, EachIs R vs ds → ∀ (i : Nat) (v : α), vs[i]? = some v → ∃ d, ds[i]? = some d ∧ R v d
  | _, _, .nil, _, _, h => by simp at h
  | _, _, .cons h1 t, 0, v, h => by
    simp at h
    subst h
    exact ⟨_, rfl, h1⟩
  | _, _, .cons h1 t, i + 1, v, h => by
    obtain ⟨d, a, b⟩ := each_get t i v (by simpa using h)
    exact ⟨d, by simpa using a, b⟩
theorem fold_cg {α : Type} {f g : α → α → Bool} {P : α → Prop} (h : ∀ a b, P a → P b → f a b = g a b) : ∀ (xs : List α) (x : α), P x → (∀ y ∈ xs, P y) → xs.foldl (fun a y => if f y a = true then y else a) x = xs.foldl (fun a y => if g y a = true then y else a) x
  | [], _, _, _ => rfl
  | y :: ys, x, hx, hy => by
    rw [List.foldl_cons, List.foldl_cons, h y x (hy y List.mem_cons_self) hx]
    refine fold_cg h ys _ ?_ fun z hz => hy z (List.mem_cons_of_mem _ hz)
    split
    · exact hy y List.mem_cons_self
    · exact hx
section
variable {X : Cx} {Wx : WX} {pos : Pos}
theorem jc_minT (hc : X.calm = true) (hu : X.A.units + 64 < cLine) : CallR X (.builtin "min") (argOf X.g bMinT) := by
  intro pins s σ H xs us Q I r ⟨Wx, σ', w, S, ds, hH, G, rs, r1, p⟩
  subst hH
  unfold bMinT at p
  split at p
  · obtain ⟨v, rfl, r2⟩ := r1.one'
    split at p
    · rename_i x xs e
      split at p
      · rename_i ok
        obtain ⟨a, vs, rfl, t, r3⟩ := lstAny_lst rs r2 e
        obtain ⟨its, rv, hl, hz⟩ := I.list t
        obtain ⟨u, rfl, ru⟩ := vals1 r
        obtain rfl : u = Value.ref a := ru
        have hlen : its.length = (x :: xs).length := by rw [← rv.length, r3.length]
        unfold okMin at ok
        rw [Bool.and_eq_true, List.all_eq_true, List.all_eq_true] at ok
        have hord : ∀ d ∈ x :: xs, d.cmpb = true ∧ d.depth ≤ 60 := fun d hd => by
          have := ok.1 d hd
          unfold ordOk at this
          simp only [Bool.and_eq_true, decide_eq_true_eq] at this
          exact this
        have hob : ∀ d ∈ x :: xs, d.ordB = true := fun d hd => (shp_ord _ _ (ok.2 d hd)).2
        have hal : ∀ d ∈ x :: xs, ∀ e ∈ x :: xs, alike d.py e.py = true := fun d hd e he => shp_alike _ _ _ (ok.2 d hd) (ok.2 e he)
        have es := std_each r3 rv
        have er := std_reads rfl I (fun d hd => (hord d hd).1) es
        refine call_min_walkH (PySem.W.iter_listW (A := X.A.in1) (by exact I.ok.hd hc) hl.isList fun s₂ e W st hfp hw hk => ?_)
        refine ⟨_, _, _, _, _, _, _, s.heap, (fun i j => dataLt (((x :: xs).getD i .non).py) (((x :: xs).getD j .non).py)), rfl, W, st, hfp, ?_, hw, hk, ?_, fun v s' hP m => ?_⟩
        · have : its.toArray.size = its.length := by simp
          simp only [List.length_cons] at hlen
          omega
        · intro i j vi vj s' Q E hk hi hj hq
          have hi' : its[i]? = some vi := by simpa using hi
          have hj' : its[j]? = some vj := by simpa using hj
          obtain ⟨di, d1, as1, q1⟩ := each_get er i vi hi'
          obtain ⟨dj, d2, as2, q2⟩ := each_get er j vj hj'
          have m1 := List.mem_of_getElem? d1
          have m2 := List.mem_of_getElem? d2
          have e1 : (x :: xs).getD i .non = di := by rw [List.getD_eq_getElem?_getD, d1]; rfl
          have e2 : (x :: xs).getD j .non = dj := by rw [List.getD_eq_getElem?_getD, d2]; rfl
          simp only [e1, e2] at hq
          refine PySem.W.rcLt_alike _ _ X.A.in1 s' vi vj _ _ (PySem.W.reads_keeps hk q1) (PySem.W.reads_keeps hk q2) (hal _ m1 _ m2) ?_ ?_ X.prog X.w E Q hq
          · intro z
            have := hob _ m1
            cases di <;> simp [D.py] at z <;> simp [D.ordB] at this
          · have h1 := py_depth di (hord _ m1).1
            have h2 := (hord _ m1).2
            have := Nat.min_le_left di.py.depth dj.py.depth
            show X.A.units + 1 + _ < cLine
            omega
        · obtain ⟨h', tk, rfl, hk'⟩ := PySem.W.moved_old e rfl m
          have hP' : its[argBest (fun i j => dataLt (((x :: xs).getD i .non).py) (((x :: xs).getD j .non).py)) (its.toArray.size - 1)]? = some v := by simpa using hP
          obtain ⟨d, d1, xv, q1, q2⟩ := each_get es _ v hP'
          have hsz : its.toArray.size - 1 = xs.length := by simp only [List.size_toArray, hlen, List.length_cons]; omega
          rw [hsz] at d1
          have e2 := (PySem.W.argBest_fold (fun a b : D => dataLt a.py b.py) D.non x xs xs.length (Nat.le_refl _)).2
          rw [List.take_length] at e2
          have e3 : d = minT x xs := by
            have : (x :: xs).getD (argBest (fun i j => dataLt (((x :: xs).getD i .non).py) (((x :: xs).getD j .non).py)) xs.length) .non = d := by rw [List.getD_eq_getElem?_getD, d1]; rfl
            rw [← this]
            refine e2.trans ?_
            unfold minT
            exact fold_cg (f := fun a b : D => dataLt a.py b.py) (g := D.lt) (P := fun d => d ∈ x :: xs) (fun a b ha hb => (lt_py a b (hob a ha) (hob b hb) (hord a ha).1 (hord b hb).1 (hal a ha b hb)).symm) xs x List.mem_cons_self fun y hy => List.mem_cons_of_mem _ hy
          subst e3
          exact ⟨xv, w.H, I.kept hk', q2, putSame p G rs q1⟩
      · exact p.elim
    · exact p.elim
  · exact p.elim
end
end J
set_option Elab.async false
set_option linter.all false
set_option maxRecDepth 100000
set_option maxHeartbeats 1000000
namespace J
open PySem PySem.Spec PyProof.Rows L2
section
variable {X : Cx} {Wx : WX} {k : Nat}
theorem ds_tryRet {kt : Str → Option Bool} {xB n xC f : Str} {body : List Stmt} {i : Nat} {kk : Int} {mb : MS} {j0 : Nat} {pos pos' np p1 p2 p3 p4 p5 p6 p7 p8 p9 p10 : Pos} (c : Ctx X Wx k) (T : ExTF X.g xB xC f kt)
    (hs : X.stack = X.env :: X.outer) (hf : X.env.frame = some X.env.locals) (hN : X.N.Nodup) (hi : X.N[i]? = some n) (hln : X.env.kindOf n = some .local) (hc : ∀ B, X.mg xB = some (.ref B) → Names X xB (.ref B))
    (hb : ∀ (W : WX) (pn : List (Addr × Obj)) (xe : Value → Shared → Prop), Ctx (X.tr pn xe) W k → PSs (X.tr pn xe) body (TSof X.g W mb))
    (hn : ∀ a pn, PE (X.suite a pn) (.Name n p2) (tVar i)) (hn2 : ∀ a pn, PE (X.suite a pn) (.Name n p7) (tVar i)) (hC : ∀ C, X.mg xC = some (.ref C) → ∀ a pn, PE (X.suite a pn) (.Name xC p3) (tC (.ref C)))
    (hgi : Gl X "isinstance") (hmi : X.mg "isinstance" = none)
    (hbn : attributeBase (.Name n p7) f X.env (eval (.Name n p7) X.env) = eval (.Name n p7) X.env := by rfl)
    (he : ∀ a pn, starEach [.Name n p2, .Name xC p3] (X.suite a pn).env = (false, eval (.Name n p2) (X.suite a pn).env) :: starEach [.Name xC p3] (X.suite a pn).env := by intro _ _; rfl)
    (he2 : ∀ a pn, starEach [.Name xC p3] (X.suite a pn).env = (false, eval (.Name xC p3) (X.suite a pn).env) :: starEach [] (X.suite a pn).env := by intro _ _; rfl)
    (hpl : ∀ a pn, (backTo p4 (starEach [.Name xC p3] (X.suite a pn).env)).any (·.1) = false := by intro _ _; rfl) :
    PS X (.Try body [.ExceptHandler (some (.Name xB np)) (some n) [.Return (some (.BoolOp .And [.Call (.Name "isinstance" p1) [.Name n p2, .Name xC p3] [] p4, .Compare (.Attribute (.Name n p7) f p8) [.Eq] [.Constant (.int kk) j0 p9] p10] p5)) p6] pos'] [] [] pos) (TSof X.g Wx (sTryRet kt f i kk mb)) := by
  obtain ⟨B, C, hB, hCC, hk⟩ := T.ex
  refine psImp (ps_try_as (tb := fun W => TSof X.g W mb) (ts := fun a cls d Dn σ H => ∃ q : Addr × Bool, (cls = .ref q.1 ∧ ExcC X.K q.1 ∧ PySem.W.findIn X.K (.ref q.1) f = some none ∧ PySem.W.kitOne X.K (.ref q.1) (.ref C) = some q.2) ∧
      tRet (tAndV (tCB (rIsE2 X.K q.1 a d) (tCons (tVar i) (tCons (tC (.ref C)) tNil))) (tOp rEq (tXf a cls d q.1 f (tVar i)) (tC (.int kk)))) Dn σ H) hs hf hN hi hln (hc B hB) c.tk
    (fun W pn xe tk po => hb W pn xe ⟨tk, po, c.calm, c.hr⟩) fun a oe cls d pn hz hfd => pssP fun q ⟨e1, e3, e4, e5⟩ => ?_) fun Dn σ H ⟨w, E, S, at0, p⟩ => ⟨w, E, S, at0, ?_⟩
  · subst e1
    exact pss_one (ps_ret (pe_and (pe_callB (call_isE2 e3 hz hfd) hgi hmi (by decide +kernel) (pa_cons (hn _ _) (pa_cons (hC C hCC _ _) pa_nil (he2 _ _)) (he _ _)) (he := he _ _) (hpl := hpl _ _)) (pe_one (pe_cmpR op_eq (pe_xf (excC_xf e3) e4 hz hfd (hn2 _ _) hbn) pe_int (nomark _)))))
  · unfold sTryRet at p
    cases hm : mb E S with
    | bad => rw [hm] at p; exact p.elim
    | nx E1 S1 => rw [hm] at p; exact p
    | rt d S1 => rw [hm] at p; exact p
    | bk E1 S1 => rw [hm] at p; exact p
    | ct E1 S1 => rw [hm] at p; exact p
    | exc cn fs E1 S1 =>
      rw [hm] at p
      simp only at p
      split at p
      · rename_i hi1
        cases hkt : kt cn with
        | none => rw [hkt] at p; exact p.elim
        | some b =>
          rw [hkt] at p
          intro cls dx σ' w' x G' rx re rs
          obtain ⟨Dd, g1, g2, g3, g4, g5⟩ := hk cn b hkt
          obtain ⟨C', h1, rfl, h3⟩ := rx
          rw [h1] at g1
          cases g1
          have hdx : ∀ dd, dx = some dd → ∃ fs', w'.H dd = some (.xd fs') := fun dd e => by
            rcases h3 with ⟨_, h⟩ | ⟨d, vs, _, h, hd, _⟩
            · rw [h] at e; cases e
            · rw [h] at e; cases e; exact ⟨_, hd⟩
          have hl : i < σ'.length := by rw [← re.1]; exact hi1
          have h0 : ∀ a0 : Addr, (σ'.set i (some (V.ref a0)))[i]? = some (some (V.ref a0)) := fun a0 => List.getElem?_set_self hl
          refine ⟨true, g5, fun _ a0 ha0 => ⟨(_, b), ⟨rfl, g2, g3, g4⟩, ?_⟩, fun z => Bool.noConfusion z⟩
          refine ⟨.ref a0, h0 a0, .ref C, .ref C, b, rfl, fun _ r => r, g4, hdx, b, rfl, ?_⟩
          cases b with
          | true =>
            simp only at p
            split at p
            · rename_i g m
              split at p
              · rename_i hgf
                subst hgf
                rcases h3 with ⟨h, _⟩ | ⟨dd, vs, _, h, hd, _, hr⟩
                · cases h
                · obtain ⟨z, r, rfl, hz, hr2⟩ := hr
                  cases hr2
                  cases hz
                  rw [if_pos rfl]
                  refine ⟨.ref a0, h0 a0, rfl, rfl, dd, [(g, .int m)], .int m, h, hd, by simp [List.lookup], rfl, ?_⟩
                  have := p (.bl (decide (m = kk))) w' x G' rfl rs
                  have e : decide (V.int m = V.int kk) = decide (m = kk) := by
                    by_cases q : m = kk
                    · subst q; simp
                    · have : ¬ V.int m = V.int kk := fun z => q (by injection z)
                      simp [q, this]
                  rw [e]
                  exact this
              · exact p.elim
            · exact p.elim
          | false =>
            rw [if_neg Bool.false_ne_true]
            exact p (.bl false) w' x G' rfl rs
      · exact p.elim
end
end J
set_option Elab.async false
set_option linter.all false
set_option maxRecDepth 100000
set_option maxHeartbeats 1000000
namespace J
open PySem PySem.Spec PyProof.Rows L2
/-! range down -/
theorem its_down {g : G} {w : W} (lo : Int) (n : Nat) : ItOk g w (Itc lo (-1) n) (.its ((List.range n).map fun t : Nat => .int (lo + (t : Nat) * -1))) where
  go := fun i w' S d x rs al e hi => by
    have h2 : i < ((List.range n).map fun t : Nat => D.int (lo + (t : Nat) * -1)).length := hi
    rw [List.length_map, List.length_range] at h2
    exact h2
  stop := fun w' S x rs al => by
    show n ≤ ((List.range n).map fun t : Nat => D.int (lo + (t : Nat) * -1)).length
    simp
  yld := fun i w' S d x H' ex G rs al e hi y => by
    obtain ⟨rfl, rfl⟩ := y
    have e' : ((List.range n).map fun t : Nat => D.int (lo + (t : Nat) * -1))[i]? = some d := e
    have hi' : i < n := by
      have : i < ((List.range n).map fun t : Nat => D.int (lo + (t : Nat) * -1)).length := hi
      simpa using this
    rw [List.getElem?_map, List.getElem?_range hi'] at e'
    cases e'
    exact ⟨w', rfl, Ext.refl _, G, rfl, rfl, rfl, rs⟩
section
variable {X : Cx} {Wx : WX} {tg a b c : Expr} {ma mb mc : ME} {pos : Pos}
theorem RDs.three' {g : G} {w : W} {a b c : D} {vs : List V} (r : RDs g w [a, b, c] vs) : ∃ u v x, vs = [u, v, x] ∧ RD g w a u ∧ RD g w b v ∧ RD g w c x := by
  obtain ⟨u, us, rfl, r1, r⟩ := r
  obtain ⟨v, us, rfl, r2, r⟩ := r
  obtain ⟨x, us, rfl, r3, r⟩ := r
  cases r
  exact ⟨u, v, x, rfl, r1, r2, r3⟩
theorem di_rngDn {p : Pos} (hg : Gl X "range") (hm : X.mg "range" = none) (ha : PA X [a, b, c] (TAof X.g Wx (aCons ma (aCons mb (aCons mc aNil)))))
    (hs : starEach [a, b, c] X.env = (false, eval a X.env) :: starEach [b, c] X.env := by rfl) (hpl : (backTo pos (starEach [b, c] X.env)).any (·.1) = false := by rfl) :
    PI X tg (.Call (.Name "range" p) [a, b, c] [] pos) (TIof X.g Wx (iRngDn ma mb mc)) := by
  refine piImp (pi_range3 hg hm ha hs hpl) fun σ H Q ⟨w, E, S, a, p⟩ => ?_
  refine ⟨w, E, S, a, ?_⟩
  unfold iRngDn at p
  unfold aCons aNil
  cases hm : ma E S with
  | ok d S1 =>
    rw [hm] at p
    simp only [bind_ok] at p ⊢
    cases hm2 : mb E S1 with
    | ok e S2 =>
      rw [hm2] at p
      simp only [bind_ok] at p ⊢
      cases hm3 : mc E S2 with
      | ok f S3 =>
        rw [hm3] at p
        simp only [bind_ok] at p ⊢
        split at p
        · rename_i i j k
          split at p
          · rename_i hj
            intro vs w1 x G r rs
            obtain ⟨u, v, z, rfl, r1, r2, r3⟩ := r.three'
            cases r1
            cases r2
            cases r3
            have h1 := okR_iff.mp hj.1
            have h2 := okR_iff.mp hj.2.1
            obtain rfl := hj.2.2
            exact ⟨i, j, -1, (i - j).toNat, rfl, RgC.neg h1.1 h1.2 h2.1 h2.2, p _ w1 x G (its_down i (i - j).toNat) rs⟩
          · exact p.elim
        · exact p.elim
      | exc c fs S3 => rw [hm3] at p; exact p
      | bad => rw [hm3] at p; exact p.elim
    | exc c fs S1 => rw [hm2] at p; exact p
    | bad => rw [hm2] at p; exact p.elim
  | exc c fs S1 => rw [hm] at p; exact p
  | bad => rw [hm] at p; exact p.elim
end
/-! d.setdefault(k, x), k a tuple -/
section
variable {X : Cx} {pins : List (Addr × Obj)} {σ : L2.St} {H : Hp} {s : Shared} {a b : Addr} {r : Value} {d : V} {k : List Key} {A : Around} {E : Value → Shared → Prop}
theorem d_setdT {kvs : List (List Key × V)} {Q : Value → Shared → Prop} (hu : A.units + 1 < cLine) (I : Inv X pins σ H s) (e : H a = some (.dT kvs)) (eb : H b = some (.tup (k.map kV))) (rd : RelV d r) (hl : kvs.length < sizeLine)
    (h1 : ∀ v, valV kvs k = some v → ∀ (w' : Value) (s' : Shared), Inv X pins σ H s' → RelV v w' → Q w' s') (h2 : valV kvs k = none → ∀ (w' : Value) (s' : Shared), Inv X pins σ (upd H a (.dT (L2.putK kvs k d))) s' → RelV d w' → Q w' s') :
    wpAny (model X.prog X.w) A (call (.builtin "dict.setdefault") [.ref a, .ref b, r]) Q E s := by
  obtain ⟨z, hd, xs, rel, dd⟩ := dt_of I.hok e
  have hz : xs.length ≤ sizeLine := by rw [← Paired.length rel]; exact z
  have hl2 : (L2.putK kvs k d).length ≤ sizeLine := by have := length_putK kvs k d; omega
  refine call_setdefault_heap (hsz := hz) (tupleKind_room_in1 hu) (key_of I.hok eb) hd dd (fun p hp => ?_) fun hn h' dd' hs => ?_
  · have q := rel.val k
    rw [hp] at q
    cases q0 : valV kvs k with
    | none =>
      rw [q0] at q
      exact (show False from q).elim
    | some v0 =>
      rw [q0] at q
      exact h1 v0 q0 _ _ (I.tok _) q
  · have q := rel.val k
    rw [hn] at q
    cases q0 : valV kvs k with
    | some v0 =>
      rw [q0] at q
      exact (show False from q).elim
    | none =>
      obtain ⟨o, es, ep, hq, h2', h3, h4, _, h5⟩ := dd'
      refine h2 q0 _ _ (d_write I (by rw [e]; exact True.intro) hs ⟨o, hq⟩ ⟨hl2, hd, _, (rel.put k eb rd).keeps fun c ys ec => ?_, o, es, ep, hq, h2', h3, h4, h5⟩) rd
      rw [upd_ne (ne_of ec e (fun z => nomatch z))]
      exact ec
end
def tSetd2 (td ty tx : TE) : TE := fun σ H Q => td σ H fun x H1 => ∃ a, x = .ref a ∧ IsD H1 a ∧ ty σ H1 fun y H2 => tx σ H2 fun z H3 =>
  (∃ (kvs : List (Key × V)) (k : Key), H3 a = some (.dK kvs) ∧ y = kV k ∧ kvs.length < sizeLine ∧ (∀ v, valV kvs k = some v → Q v H3) ∧ (valV kvs k = none → Q z (upd H3 a (.dK (L2.putK kvs k z))))) ∨
  ∃ (kvs : List (List Key × V)) (k : List Key) (b : Addr), H3 a = some (.dT kvs) ∧ y = .ref b ∧ H3 b = some (.tup (k.map kV)) ∧ kvs.length < sizeLine ∧ (∀ v, valV kvs k = some v → Q v H3) ∧ (valV kvs k = none → Q z (upd H3 a (.dT (L2.putK kvs k z))))
section
variable {X : Cx} {o e f : Expr} {td ty tx : TE} {apos cpos : Pos}
theorem pe_setd2 (hu : X.A.units + 1 < cLine) (ho : PE X o td) (he : PE X e ty) (hf : PE X f tx) (m : M2 X o "setdefault" apos e f cpos) : PE X (.Call (.Attribute o "setdefault" apos) [e, f] [] cpos) (tSetd2 td ty tx) := by
  refine ⟨fun pins s σ H Q I h => ?_⟩
  refine wpAny_Call_method m.base m.few m.line PySem.F.plainAttrs_dict PySem.F.slot_dict_setdefault PySem.F.type_dict_setdefault (thn (ho.run pins s σ H _ I h) fun u s1 ⟨x, H1, I1, rx, a, ex, d, q1⟩ => ?_)
  subst ex
  obtain rfl : u = Value.ref a := rx
  obtain ⟨t1, t2, _⟩ := isD_at I1 d
  refine ⟨t1, t2, ?_⟩
  rw [m.trees]
  refine Calls.callWith_builtin rfl (Calls.evalArgs_plain (Calls.spliced_cons (thn (he.run pins s1 σ H1 _ I1 q1) fun iv s2 ⟨y, H2, I2, ry, q2⟩ =>
    Calls.spliced_cons (thn (hf.run pins s2 σ H2 _ I2 q2) fun fv s3 ⟨z, H3, I3, rz, q3⟩ => Calls.spliced_nil ?_))))
  rcases q3 with ⟨kvs, k, ea, ey, hl, q3, q4⟩ | ⟨kvs, k, b, ea, ey, eb, hl, q3, q4⟩
  · subst ey
    exact d_setd I3 ea ry rz hl (fun v hv w' s4 I4 rw' => ⟨v, _, I4, rw', q3 v hv⟩) fun hn w' s4 I4 rw' => ⟨z, _, I4, rw', q4 hn⟩
  · subst ey
    cases (show iv = Value.ref b from ry)
    exact d_setdT hu I3 ea eb rz hl (fun v hv w' s4 I4 rw' => ⟨v, _, I4, rw', q3 v hv⟩) fun hn w' s4 I4 rw' => ⟨z, _, I4, rw', q4 hn⟩
end
section
variable {X : Cx} {Wx : WX}
theorem getK_in : ∀ {ks : List Ky} {ds : List D} {k : Ky}, ks.length = ds.length → getK ks ds k = none → (ks.any fun q => decide (q = k)) = false
  | [], _, k, _, _ => rfl
  | q :: ks, [], k, l, _ => by simp at l
  | q :: ks, d :: ds, k, l, h => by
    unfold getK at h
    split at h
    · cases h
    · rename_i hq
      have := getK_in (by simpa using l) h
      rw [List.any_cons, this, decide_eq_false hq]; rfl
theorem getT_in : ∀ {ks : List (List Ky)} {ds : List D} {k : List Ky}, ks.length = ds.length → getT ks ds k = none → (ks.any fun q => decide (q = k)) = false
  | [], _, k, _, _ => rfl
  | q :: ks, [], k, l, _ => by simp at l
  | q :: ks, d :: ds, k, l, h => by
    unfold getT at h
    split at h
    · cases h
    · rename_i hq
      have := getT_in (by simpa using l) h
      rw [List.any_cons, this, decide_eq_false hq]; rfl
theorem valN {κ : Type} [DecidableEq κ] {ks : List κ} {vs : List V} {k : κ} (l : ks.length = vs.length) (h : (ks.any fun q => decide (q = k)) = false) : valV (ks.zip vs) k = none := by
  have := valV_someG (vs := vs) k l
  rw [h] at this
  cases h2 : valV (ks.zip vs) k with
  | none => rfl
  | some v => rw [h2] at this; cases this
theorem putN {κ : Type} [DecidableEq κ] {ks : List κ} {vs : List V} {k : κ} {v : V} (l : ks.length = vs.length) (h : (ks.any fun q => decide (q = k)) = false) : L2.putK (ks.zip vs) k v = (ks ++ [k]).zip (vs ++ [v]) := by
  have ea : ((ks.zip vs).any fun kv => decide (kv.1 = k)) = false := by rw [valV_any, valV_someG k l, h]
  unfold L2.putK
  rw [ea, if_neg Bool.false_ne_true, List.zip_append l]
  rfl
theorem de_setd {o e f : Expr} {apos cpos : Pos} {mo ma mb : ME} (hu : X.A.units + 1 < cLine) (ho : PE X o (TEof X.g Wx mo)) (he : PE X e (TEof X.g Wx ma)) (hf : PE X f (TEof X.g Wx mb))
    (h1 : attributeBase o "setdefault" X.env (eval o X.env) = eval o X.env := by rfl)
    (h2 : ((backTo cpos (starEach [e, f] X.env)).all (fun x => !x.1) && (backToKw cpos (keywordEach [] X.env)).all (fun x => x.1.isSome)
    && decide (([e, f] : List Expr).length + ([] : List Keyword).length + (if ([] : List Keyword).isEmpty then 0 else 1) < 30)) = true := by rfl)
    (h3 : (apos.endLine == cpos.line) = true := by rfl) (h4 : backTo cpos (starEach [e, f] X.env) = [(false, eval e X.env), (false, eval f X.env)] := by rfl) :
    PE X (.Call (.Attribute o "setdefault" apos) [e, f] [] cpos) (TEof X.g Wx (eSetd mo ma mb)) := by
  refine peImp (pe_setd2 hu ho he hf ⟨h1, h2, h3, h4⟩) fun σ H Q ⟨w, E, S, a, p⟩ => ?_
  refine ⟨w, E, S, a, PR.imp (PR.bind a.good a.env p) fun x H1 ⟨w1, d, S1, a1, x1, r1, p1⟩ => ?_⟩
  split at p1
  · rename_i hs
    obtain ⟨n, rfl⟩ : ∃ n, d = .loc n := by
      cases d with
      | loc n => exact ⟨n, rfl⟩
      | _ => simp [isDctB] at hs
    obtain ⟨b, rfl, hb⟩ := r1
    have hD : IsD H1 b := by
      rw [← a1.hp]
      unfold isDctB at hs
      simp only at hs
      split at hs
      · rename_i e0
        obtain ⟨vs, t, _⟩ := a1.sto.obj hb e0
        exact .inl ⟨_, .inl t⟩
      · rename_i e0
        obtain ⟨vs, t, _⟩ := a1.sto.obj hb e0
        exact .inr ⟨_, .inl t⟩
      · cases hs
    refine ⟨b, rfl, hD, w1, E, S1, a1, PR.imp (PR.bind a1.good a1.env p1) fun y H2 ⟨w2, dy, S2, a2, x2, ry, p2⟩ => ?_⟩
    refine ⟨w2, E, S2, a2, PR.imp (PR.bind a2.good a2.env p2) fun z H3 ⟨w3, dz, S3, a3, x3, rz, p3⟩ => ?_⟩
    have r1' : RD X.g w3 (.loc n) (.ref b) := RD.mono a1.good (x2.trans x3) _ _ (show RD X.g w1 (.loc n) (.ref b) from ⟨b, rfl, hb⟩)
    obtain ⟨b', eb', hb3⟩ := r1'
    cases eb'
    rw [← a3.hp]
    unfold kSetd at p3
    simp only at p3
    split at p3
    · rename_i ks ds e0
      obtain ⟨vs, t, l, r4⟩ := a3.sto.obj hb3 e0
      split at p3
      · rename_i k ek
        have := ky_of (ry.mono a2.good x3) ek
        subst this
        have ll : ks.length = ds.length := by rw [l, r4.length]
        split at p3
        · rename_i dd hg
          split at p3
          case isFalse => exact p3.elim
          rename_i hl0
          obtain ⟨vv, h5, h6⟩ := valV_zip k l r4 dd hg
          have hl : (ks.zip vs).length < sizeLine := by rw [List.length_zip, ← l, Nat.min_self, ← sl_eq]; exact hl0
          exact .inl ⟨ks.zip vs, k, t, rfl, hl, fun v hv => by rw [h5] at hv; cases hv; exact putSame p3 a3.good a3.sto h6, fun hn => by rw [h5] at hn; cases hn⟩
        · rename_i hg
          split at p3
          · rename_i hl0
            have hl : (ks.zip vs).length < sizeLine := by rw [List.length_zip, ← l, Nat.min_self, ← sl_eq]; exact hl0
            have hk := getK_in ll hg
            refine .inl ⟨ks.zip vs, k, t, rfl, hl, ?_, ?_⟩
            · intro v hv
              rw [valN l hk] at hv
              cases hv
            intro _
            rw [putN l hk]
            have x := upd_ext (w := w3) (o := .dK ((ks ++ [k]).zip (vs ++ [z]))) (List.mem_of_getElem? hb3)
            refine p3 z _ x (put_upd a3.good) (rz.mono a3.good x) (upd_store a3.good a3.sto hb3 ⟨_, upd_same, ?_, (r4.append (RDs.one rz)).mono a3.good x⟩)
            simp [l]
          · exact p3.elim
      · exact p3.elim
    · rename_i ks ds e0
      obtain ⟨vs, t, l, r4⟩ := a3.sto.obj hb3 e0
      split at p3
      · rename_i k ek
        obtain ⟨kb, rfl, tb, _⟩ := kyT_of (ry.mono a2.good x3) ek
        have ll : ks.length = ds.length := by rw [l, r4.length]
        split at p3
        · rename_i dd hg
          split at p3
          case isFalse => exact p3.elim
          rename_i hl0
          obtain ⟨vv, h5, h6⟩ := (valT_zip k l r4).1 dd hg
          have hl : (ks.zip vs).length < sizeLine := by rw [List.length_zip, ← l, Nat.min_self, ← sl_eq]; exact hl0
          exact .inr ⟨ks.zip vs, k, kb, t, rfl, tb, hl, fun v hv => by rw [h5] at hv; cases hv; exact putSame p3 a3.good a3.sto h6, fun hn => by rw [h5] at hn; cases hn⟩
        · rename_i hg
          split at p3
          · rename_i hl0
            have hl : (ks.zip vs).length < sizeLine := by rw [List.length_zip, ← l, Nat.min_self, ← sl_eq]; exact hl0
            have hk := getT_in ll hg
            refine .inr ⟨ks.zip vs, k, kb, t, rfl, tb, hl, ?_, ?_⟩
            · intro v hv
              rw [valN l hk] at hv
              cases hv
            intro _
            rw [putN l hk]
            have x := upd_ext (w := w3) (o := .dT ((ks ++ [k]).zip (vs ++ [z]))) (List.mem_of_getElem? hb3)
            refine p3 z _ x (put_upd a3.good) (rz.mono a3.good x) (upd_store a3.good a3.sto hb3 ⟨_, upd_same, ?_, (r4.append (RDs.one rz)).mono a3.good x⟩)
            simp [l]
          · exact p3.elim
      · exact p3.elim
    · exact p3.elim
  · exact p1.elim
end
section
variable {X : Cx} {Wx : WX} {pos : Pos}
theorem ds_forN {tg iter : Expr} {body : List Stmt} {mi : MI} {t : Tg} {mb : MS} (hp : PassesOwn (model X.prog X.w) X.A X.env X.xe) (hc : X.calm = true) (hi : PI X tg iter (TIof X.g Wx mi)) (hg : PG X tg (TGof X.g t)) (hb : PSs X body (TSof X.g Wx mb))
    (hs : ∀ x, foldedSetIterable iter X.env x = pure x := by intro _; rfl) : PS X (.For tg iter body [] pos) (TSof X.g Wx (sForN t mi mb)) := by
  refine psImp (ps_for hp hc hi hg hb hs) fun D σ H ⟨w, E, S, a, p⟩ => ⟨w, E, S, a, ?_⟩
  unfold sForN at p
  cases hm : mi E S with
  | bad => rw [hm] at p; exact p.elim
  | exc c fs S1 =>
    rw [hm] at p
    exact fun cls dx w' x G' rx rs => p cls dx σ w' x G' rx (a.env.mono a.good x) rs
  | ok src S1 =>
    rw [hm] at p
    intro J0 w1 x1 G1 it rs1
    have p1 : PO_ X.g Wx D w1 (forGoN src t mb src.len 0 E S1) := p.at x1
    refine ⟨fun i k σ H => ∃ w2 E2 S2, At X.g w2 E2 σ H S2 ∧ Ext w1 w2 ∧ i + k = src.len ∧ PO_ X.g Wx D w2 (forGoN src t mb k i E2 S2),
      ⟨src.len, w1, E, S1, ⟨rfl, G1, a.env.mono a.good x1, rs1⟩, Ext.refl _, by omega, p1⟩, ?_⟩
    rintro i k σ H ⟨w2, E2, S2, a2, x2, hik, p2⟩
    cases k with
    | zero =>
      simp only [forGoN] at p2
      split at p2
      · rename_i al
        have hi : i = src.len := by omega
        subst hi
        refine .inl ⟨?_, ?_⟩
        · rw [← a2.hp]
          exact it.stop w2 S2 x2 a2.sto al
        · have := p2 σ w2 (Ext.refl _) a2.good a2.env a2.sto
          rw [a2.hp] at this
          exact this
      · exact p2.elim
    | succ k =>
      simp only [forGoN] at p2
      split at p2
      · rename_i al
        split at p2
        · exact p2.elim
        · rename_i d hd
          split at p2
          · exact p2.elim
          · rename_i E1 hE
            have hlt : i < src.len := by omega
            refine .inr ⟨by rw [← a2.hp]; exact it.go i w2 S2 d x2 a2.sto al hd hlt, fun σ' H' => ∃ w2 E2 S2, At X.g w2 E2 σ' H' S2 ∧ Ext w1 w2 ∧ (i + 1) + k = src.len ∧ PO_ X.g Wx D w2 (forGoN src t mb k (i + 1) E2 S2), fun σ' H' hN => ⟨k, Nat.lt_succ_self k, hN⟩, fun x H' hy => ?_⟩
            rw [← a2.hp] at hy
            obtain ⟨w3, eH, x3, G3, _, _, r3, rs3⟩ := it.yld i w2 S2 d x H' x2 a2.good a2.sto al hd hlt hy
            refine ⟨w3, E2, S2, d, E1, ⟨eH, G3, a2.env.mono a2.good x3, rs3⟩, r3, hE, fun σ' re _ _ => ⟨w3, E1, S2, ⟨eH, G3, re, rs3⟩, ?_⟩⟩
            have p3 := p2.at x3
            have again : ∀ {E3 : Env} {S3 : List J.D}, PO_ X.g Wx D w3 (forGoN src t mb k (i + 1) E3 S3) → ∀ σ' w4, Ext w3 w4 → Good w4 → RE X.g w4 E3 σ' → RS X.g w4 S3 →
                ∃ w2 E2 S2, At X.g w2 E2 σ' w4.H S2 ∧ Ext w1 w2 ∧ (i + 1) + k = src.len ∧ PO_ X.g Wx D w2 (forGoN src t mb k (i + 1) E2 S2) := fun {E3 S3} q σ' w4 x4 G4 re4 rs4 =>
              ⟨w4, E3, S3, ⟨rfl, G4, re4, rs4⟩, x2.trans (x3.trans x4), by omega, q.at x4⟩
            cases hbd : mb E1 S2 with
            | nx E3 S3 => rw [hbd] at p3; exact again p3
            | ct E3 S3 => rw [hbd] at p3; exact again p3
            | bk E3 S3 => rw [hbd] at p3; exact p3
            | rt d S3 => rw [hbd] at p3; exact p3
            | exc c fs E3 S3 => rw [hbd] at p3; exact p3
            | bad => rw [hbd] at p3; exact p3
      · exact p2.elim
end
/-! an int times a tuple, a list -/
theorem int_mul_tuple (a : Int) (t : Tok) (l : Addr) (items : Array Value) (n : Nat) (dd : Option Addr) (sl : Array (Option Value)) :
    Meets (Builtin.«int.__mul__» ⟨[.int a t, .ref l], []⟩) (fun _ R s => s.heap.get? l = some { cls := .type "tuple", dict := dd, data := .seq items n, slots := sl } ∧ R (.ok (.ret Value.notImplemented)) s) :=
  .of_wp fun prog w A R s h => by
    obtain ⟨hp, g, d, tk, os⟩ := s
    obtain ⟨hl, h⟩ := h
    wp_walk using wpAny_loadPart' hl
    exact ⟨_, rfl, h⟩
section
variable {X : Cx}
theorem op_repR : OpR X (binaryOp .Mult) (fun x y H Q => ∃ l k xs, x = .int k ∧ y = .ref l ∧ H l = some (.lst xs) ∧ -(2 ^ 63) ≤ k ∧ k < 2 ^ 63 ∧ xs.length * k.toNat ≤ sizeLine ∧ ∀ p, H p = none → Q (.ref p) (upd H p (.lst (List.replicate k.toNat xs).flatten))) := by
  intro pins s σ H x y v u Q I rx ry h
  obtain ⟨l, k, xs, rfl, rfl, hH, h1, h2, hz, q⟩ := h
  cases ry
  obtain ⟨t, rfl⟩ := rx
  obtain ⟨z, its, n, r, hl, e⟩ := I.lstM hH
  have hlen : its.toArray.size * k.toNat ≤ sizeLine := by rw [List.size_toArray, ← hl]; exact hz
  have hcap : ¬ its.toArray.size * k.toNat > (2 ^ 63 - 1) / 8 := by
    have : (sizeLine : Nat) ≤ (2 ^ 63 - 1) / 8 := by decide
    omega
  have hfit : ¬ (!Builtin.List.listFitsIndex k) = true := by
    rw [fitsIndex_both h1 h2]
    exact Bool.false_ne_true
  have hlong : ¬ Builtin.List.listTooLong (its.toArray.size * k.toNat) = true := by
    rw [notLongL hlen]
    exact Bool.false_ne_true
  have hnew : List.foldl (fun x1 x2 => x1 ++ x2) #[] (List.replicate (if its.toArray.isEmpty = true then 0 else k.toNat) its.toArray) = (List.replicate k.toNat its).flatten.toArray := by
    rw [L2.size_rep]
    cases its with
    | nil => simp
    | cons a r' => rw [if_neg (by simp)]
  refine lm_binaryOp_repeat_right (T := "list") (U := "int") (by decide) (fun s' => typeIs_int s' k t) ⟨_, e, rfl⟩ F.fills_int_mul noFill_list_mul F.slot_int_mul lm_noRepeat_int repeat_list F.slot_int_index.lookup
    (call_meets F.slot_int_mul (typeIs_int s k t) F.entry_int_mul (F.args_int_mul_2 _ _) (int___mul___int_list k t l its.toArray n)
      ⟨e, rfl, ⟨_, e, rfl⟩, call_meets F.slot_list_mul ⟨_, e, rfl⟩ F.entry_list_mul (F.args_list_mul_2 _ _) (AutoListH.list___mul___list_int_3 l its.toArray n k t hfit hcap hlong) ⟨e, ?_⟩⟩)
  rw [hnew]
  exact ⟨.ref _, _, I.lnew (t' := s.toks) (r.rep k.toNat) (by rw [PyProof.Rows.lm_len_rep_flat, Nat.mul_comm]; exact hz), rfl, q _ I.fresh⟩
theorem op_repTR : OpR X (binaryOp .Mult) (fun x y H Q => ∃ l k xs, x = .int k ∧ y = .ref l ∧ SqT X.K H l xs ∧ xs ≠ [] ∧ 2 ≤ k ∧ k ≤ 1000 ∧ xs.length ≤ 1000 ∧ ∀ p, H p = none → Q (.ref p) (upd H p (.tup (List.replicate k.toNat xs).flatten))) := by
  intro pins s σ H x y v u Q I rx ry h
  obtain ⟨l, k, xs, rfl, rfl, hT, hne, h1, h2, hz, q⟩ := h
  cases ry
  obtain ⟨t, rfl⟩ := rx
  obtain ⟨its, r, ⟨⟨cls, dd, data, sl⟩, ho, hc, n, hd⟩, hs⟩ := I.tuple hT
  simp only at hc hd
  subst hc hd
  have hle : its.length = xs.length := r.length.symm
  have hi : its.toArray.isEmpty = false := by
    cases its with
    | nil => exact absurd (List.eq_nil_of_length_eq_zero hle.symm) hne
    | cons a b => rfl
  have hsz0 : its.toArray.size = xs.length := by rw [List.size_toArray, hle]
  have hm : ((its.toArray.size : Nat) : Int) * k ≤ 1000000 := by
    rw [hsz0]
    have a1 : ((xs.length : Nat) : Int) * k ≤ 1000 * k := Int.mul_le_mul_of_nonneg_right (by omega) (by omega)
    omega
  have hmul : k.toNat * xs.length ≤ 1000 * 1000 := Nat.mul_le_mul (by omega) hz
  have flen : (List.replicate k.toNat its).flatten.length ≤ sizeLine := by
    rw [PyProof.Rows.lm_len_rep_flat, hle, sizeLine_eq]
    omega
  have c0 : (decide (k < -(2 ^ 63)) || decide (k ≥ 2 ^ 63)) = false := by
    rw [decide_eq_false (by omega), decide_eq_false (by omega)] <;> rfl
  have c1 : (its.toArray.isEmpty || k == 1) = false := by
    rw [hi, Bool.false_or]
    exact beq_eq_false_iff_ne.mpr (by omega)
  have c2 : (decide (k ≤ 0) || its.toArray.isEmpty) = false := by
    rw [hi, Bool.or_false]
    exact decide_eq_false (by omega)
  have c4 : Builtin.Tuple.tupleTooMany (((its.toArray.size : Nat) : Int) * k) = false := by
    unfold Builtin.Tuple.tupleTooMany
    rw [sizeLine_eq]
    exact decide_eq_false (by omega)
  refine lm_binaryOp_repeat_right (T := "tuple") (U := "int") (by decide) (fun s' => typeIs_int s' k t) ⟨_, ho, rfl⟩ F.fills_int_mul noFill_tuple_mul F.slot_int_mul lm_noRepeat_int repeat_tuple F.slot_int_index.lookup
    (call_meets F.slot_int_mul (typeIs_int s k t) F.entry_int_mul (F.args_int_mul_2 _ _) (int_mul_tuple k t l its.toArray n dd sl)
      ⟨ho, rfl, ⟨_, ho, rfl⟩, call_meets F.slot_tuple_mul ⟨_, ho, rfl⟩ F.entry_tuple_mul (F.args_tuple_mul_2 _ _) (tuple_mulW l its.toArray n dd sl k t c0 c1 c2 (by omega) c4 (by rw [L2.size_rep, List.size_toArray]; exact flen)) ⟨ho, ?_⟩⟩)
  rw [L2.size_rep]
  refine ⟨.ref s.heap.objs.size, _, I.laid (t' := s.toks) (o := .tup (List.replicate k.toNat xs).flatten) (fun b ob q => Heap.get?_push_of_some _ q) (Nat.le_refl _) ?_, rfl, q _ (I.hok.fresh (Nat.le_refl _))⟩
  exact ⟨by rw [PyProof.Rows.lm_len_rep_flat, sizeLine_eq]; omega, _, r.rep k.toNat, IsTup.new _ _⟩
theorem jo_mulR : OpR X (binaryOp .Mult) (opOf X.g oMulR) := by
  intro pins s σ H x y v u Q I rx ry ⟨Wx, σ', w, S, d, e, hH, G, rs, r1, r2, p⟩
  subst hH
  unfold oMulR at p
  split at p
  · split at p
    · rename_i k xs h
      obtain ⟨h1, h2, h3, h4⟩ := h
      cases r1
      obtain ⟨a, vs, rfl, ta, ra⟩ := id r2
      refine op_repTR pins s σ _ _ _ v u Q I rx ry ⟨a, _, vs, rfl, rfl, ta.sq, ?_, h2, h3, by rw [ra.length]; exact h4, new_tup p G rs (ra.rep _)⟩
      intro z
      apply h1
      have := ra.length
      rw [z] at this
      exact List.eq_nil_of_length_eq_zero this.symm
    · exact p.elim
  · split at p
    · rename_i xs e1
      split at p
      · rename_i h
        cases r1
        obtain ⟨a, vs, rfl, ta, ra⟩ := r2.lstAt rs e1
        exact op_repR pins s σ _ _ _ v u Q I rx ry ⟨a, _, vs, rfl, rfl, ta, h.1, h.2.1, by rw [ra.length, ← sl_eq]; exact h.2.2, new_lst p G rs (ra.rep _)⟩
      · exact p.elim
    · exact p.elim
  · exact p.elim
end
section
variable {X : Cx} {Wx : WX} {pos : Pos}
theorem dcUseL {own : List Nat} {mi : MI} {t : Tg} {mc : MT} {mk mv : ME} (hsl : ∀ i, i ∈ t.slots → i ∈ own) :
    ∀ (σ : L2.St) H Q, TEof X.g Wx (eDcL own t mi mc mk mv) σ H Q → tDc (TIof X.g Wx mi) (TGof X.g t) (TTof X.g W0 mc) (TEof X.g W0 mk) (TEof X.g W0 mv) own σ H Q := fun σ H Q ⟨w, E, S, a, p⟩ => by
  refine ⟨w, E, S, a, ?_⟩
  unfold eDcL at p
  cases hmi : mi E S with
  | bad => rw [hmi] at p; exact p.elim
  | exc c fs S1 => rw [hmi] at p; exact p
  | ok src S1 =>
    rw [hmi] at p
    simp only at p
    split at p
    · rename_i hsz
      intro J0 w1 x1 G1 it rs1 Dd hD
      have p1 := PR.at p x1
      have re1 := a.env.mono a.good x1
      have nD : Dd ∉ w1.rhA := fun z => G1.al Dd (G1.sub Dd z) hD
      refine ⟨fun i k H => ∃ w2 ks ds vs S2, w2.H = H ∧ Good w2 ∧ RS X.g w2 S2 ∧ Ext w1 w2 ∧ Dd ∉ w2.rhA ∧ S1.length ≤ S2.length ∧ w2.thA Dd ∧ H Dd = some (.dK (ks.zip vs)) ∧ ks.length = vs.length ∧ RDs X.g w2 ds vs ∧ ks.length ≤ i ∧ i + k = src.len ∧ PR X.g Wx σ w1 (RD X.g) Q (dcGoL src t mc mk mv (wipeE E own) S1.length k i ks ds S2),
        ⟨src.len, w1.hide Dd (.dK []), [], [], [], S1, rfl, hide_good G1 hD, rs1.keep G1 (hide_ext hD) rfl (fun b hb => upd_ne fun e => nD (by rw [← e]; exact hb)), hide_ext hD, nD, Nat.le_refl _, .inr rfl, upd_same, rfl, rfl, Nat.zero_le _, by omega, p1⟩, ?_⟩
      rintro i k H ⟨w2, ks, ds, vs, S2, rfl, G2, rs2, x2, hr2, hl2, hthA2, hD2, hkv, r2, hai, hik, p2⟩
      cases k with
      | zero =>
        simp only [dcGoL] at p2
        split at p2
        · rename_i al
          have hi : i = src.len := by omega
          subst hi
          refine .inl ⟨it.stop w2 S2 x2 rs2 al, ?_⟩
          have k : Weak w2 ⟨w2.thA, w2.rhA ++ [Dd], w2.H⟩ := weak_take rfl fun _ z => z
          have kr : ∀ (n : Nat) a, w2.rhA[n]? = some a → (w2.rhA ++ [Dd])[n]? = some a := fun n a h => by
            rw [List.getElem?_append_left (List.getElem?_eq_some_iff.mp h).1]; exact h
          obtain ⟨τ, eτ, fτ⟩ := x2.rho
          refine p2 (.ref Dd) ⟨w2.thA, w2.rhA ++ [Dd], w2.H⟩ ⟨⟨τ ++ [Dd], by show w2.rhA ++ [Dd] = _; rw [eτ, List.append_assoc], fun a h => (List.mem_append.mp h).elim (fτ a) fun h => by rw [List.mem_singleton.mp h]; exact hD⟩, x2.th1, x2.th2, x2.kp, x2.al⟩
            ⟨?_, fun a h => ?_, G2.al, G2.nt⟩ ⟨Dd, rfl, by show (w2.rhA ++ [Dd])[S2.length]? = some Dd; rw [rs2.1]; simp⟩ ⟨by show (S2 ++ [_]).length = (w2.rhA ++ [Dd]).length; simp [rs2.1], fun n d e => ?_⟩
          · show (w2.rhA ++ [Dd]).Nodup
            rw [List.nodup_append]
            refine ⟨G2.nd, by simp, fun a ha b hb e => ?_⟩
            rw [List.mem_singleton.mp hb] at e
            exact hr2 (by rw [← e]; exact ha)
          · rcases List.mem_append.mp h with h | h
            · exact G2.sub a h
            · rw [List.mem_singleton.mp h]; exact hthA2
          · by_cases hn : n < S2.length
            · rw [List.getElem?_append_left hn] at e
              obtain ⟨a, h1, h2⟩ := rs2.2 n d e
              exact ⟨a, kr n a h1, h2.weakW k kr rfl⟩
            · have hl : n = S2.length := by
                have := (List.getElem?_eq_some_iff.mp e).1
                simp at this
                omega
              subst hl
              simp at e
              subst e
              exact ⟨Dd, by show (w2.rhA ++ [Dd])[S2.length]? = some Dd; rw [rs2.1]; simp, vs, hD2, hkv, RDs.weakW k kr _ _ r2⟩
        · exact p2.elim
      | succ k =>
        simp only [dcGoL] at p2
        split at p2
        · rename_i al
          split at p2
          · exact p2.elim
          · rename_i d hd
            split at p2
            · exact p2.elim
            · rename_i E1 hE
              have hlt : i < src.len := by omega
              refine .inr ⟨it.go i w2 S2 d x2 rs2 al hd hlt, fun H' => ∃ w2 ks ds vs S2, w2.H = H' ∧ Good w2 ∧ RS X.g w2 S2 ∧ Ext w1 w2 ∧ Dd ∉ w2.rhA ∧ S1.length ≤ S2.length ∧ w2.thA Dd ∧ H' Dd = some (.dK (ks.zip vs)) ∧ ks.length = vs.length ∧ RDs X.g w2 ds vs ∧ ks.length ≤ i + 1 ∧ (i + 1) + k = src.len ∧ PR X.g Wx σ w1 (RD X.g) Q (dcGoL src t mc mk mv (wipeE E own) S1.length k (i + 1) ks ds S2), fun H' hN => ⟨k, Nat.lt_succ_self k, hN⟩, fun x H' hy => ?_⟩
              obtain ⟨w3, rfl, x3, G3, hr3, hthA3, r3, rs3⟩ := it.yld i w2 S2 d x H' x2 G2 rs2 al hd hlt hy
              have nD2 : Dd ∉ w2.rhA := hr2
              have nD3 : Dd ∉ w3.rhA := by rw [hr3]; exact nD2
              have hthAD3 : w3.thA Dd := x3.th1 Dd hthA2
              have hD3 : w3.H Dd = some (.dK (ks.zip vs)) := x3.kpT hD2 nD2 hthA2
              have rw3 : RE X.g w3 (wipeE E own) (L2.wipe σ own) := ((re1.mono G1 x2).mono G2 x3).wipe own
              refine ⟨w3, wipeE E own, S2, d, E1, ⟨rfl, G3, rw3, rs3⟩, r3, hE, fun σ' re hk hl => ⟨wipe_eq hsl hk hl, w3, E1, S2, ⟨rfl, G3, re, rs3⟩, ?_⟩⟩
              cases hc : mc E1 S2 with
              | bad => rw [hc] at p2; exact p2.elim
              | exc c fs S3 => rw [hc] at p2; exact p2.elim
              | ok b S3 =>
                rw [hc] at p2
                simp only at p2
                intro b' w4 x4 G4 rb rs4
                obtain rfl : b = b' := rb
                have rho : ∀ (w5 : W), Ext w3 w5 → Dd ∉ w5.rhA := fun w5 x5 z => by
                  obtain ⟨τ, e5, f5⟩ := x5.rho
                  rw [e5] at z
                  rcases List.mem_append.mp z with z | z
                  · exact nD3 z
                  · have := f5 Dd z
                    rw [hD3] at this
                    cases this
                cases b with
                | false =>
                  rw [if_neg Bool.false_ne_true] at p2 ⊢
                  split at p2
                  · rename_i l3
                    exact ⟨w4, ks, ds, vs, S3, rfl, G4, rs4, x2.trans (x3.trans x4), rho w4 x4, l3, x4.th1 Dd hthAD3, x4.kpT hD3 nD3 hthAD3, hkv, (r2.mono G2 (x3.trans x4)), by omega, by omega, p2⟩
                  · exact p2.elim
                | true =>
                  rw [if_pos rfl] at p2 ⊢
                  refine ⟨w4, E1, S3, ⟨rfl, G4, re.mono G3 x4, rs4⟩, ?_⟩
                  cases he : mk E1 S3 with
                  | bad => rw [he] at p2; exact p2.elim
                  | exc c fs S3 => rw [he] at p2; exact p2.elim
                  | ok z S4 =>
                    rw [he] at p2
                    simp only at p2
                    split at p2
                    · exact p2.elim
                    · rename_i q hq
                      intro y w5 x5 G5 rz rs5
                      obtain rfl : y = kV q := keyOf_kV rz hq
                      refine ⟨w5, E1, S4, ⟨rfl, G5, (re.mono G3 x4).mono G4 x5, rs5⟩, ?_⟩
                      cases hv : mv E1 S4 with
                      | bad => rw [hv] at p2; exact p2.elim
                      | exc c fs S3 => rw [hv] at p2; exact p2.elim
                      | ok zz S5 =>
                        rw [hv] at p2
                        simp only at p2
                        split at p2
                        · rename_i l4
                          intro u w6 x6 G6 ru rs6
                          have x36 := x4.trans (x5.trans x6)
                          have hr6 := rho w6 x36
                          have hthAD6 : w6.thA Dd := x36.th1 Dd hthAD3
                          have hD6 : w6.H Dd = some (.dK (ks.zip vs)) := x36.kpT hD3 nD3 hthAD3
                          have r6 : RDs X.g w6 ds vs := r2.mono G2 (x3.trans x36)
                          obtain ⟨us, ez, lz, rz6⟩ := put_zip (k := q) hkv r6 ru
                          refine ⟨ks.zip vs, q, rfl, hD6, by rw [List.length_zip, ← hkv, Nat.min_self, ← sl_eq]; omega, ?_⟩
                          rw [ez]
                          have kw : Weak w6 { w6 with H := upd w6.H Dd (.dK ((putKs ks q).zip us)) } := weak_upd hthAD6
                          have x16 := x2.trans (x3.trans x36)
                          refine ⟨{ w6 with H := upd w6.H Dd (.dK ((putKs ks q).zip us)) }, putKs ks q, putDs ks ds q zz, us, S5, rfl, put_upd G6, rs6.weakW kw rfl (fun b hb => upd_ne fun e => hr6 (by rw [← e]; exact hb)), ⟨x16.rho, x16.th1, x16.th2, fun b o hb nb => ?_, fun b hb => ?_⟩, hr6, l4, hthAD6, upd_same, lz, RDs.weakW kw (fun _ _ h => h) _ _ rz6, by have := putKs_len (ks := ks) (k := q); omega, by omega, p2⟩
                          · have hne : b ≠ Dd := fun e => by rw [e, hD] at hb; cases hb
                            rcases x16.kp b o hb nb with q | ⟨nt, od, kvs, eo, q⟩
                            · exact .inl ((upd_ne hne).trans q)
                            · exact .inr ⟨nt, od, kvs, eo, (upd_ne hne).trans q⟩
                          · show upd w6.H Dd _ b ≠ none
                            by_cases e : b = Dd
                            · rw [e, upd_same]; simp
                            · rw [upd_ne e]; exact x16.al b hb
                        · exact p2.elim
        · exact p2.elim
    · exact p.elim
end
/-! list(d) -/
theorem jc_listD {X : Cx} (hc : X.calm = true) : CallR X (.type "list") (argOf X.g bListD) := by
  intro pins s σ H xs us Q I r ⟨Wx, σ', w, S, ds, hH, G, rs, r1, p⟩
  subst hH
  unfold bListD at p
  split at p
  · obtain ⟨v, rfl, r2⟩ := r1.one'
    split at p
    · rename_i ks ds e
      obtain ⟨a, rfl, hb⟩ := r2
      obtain ⟨vs, t, l, r4⟩ := rs.obj hb e
      refine call_list_dK hc pins s σ _ _ us Q I r ⟨a, _, rfl, t, fun q hq => ?_⟩
      have e2 : ((ks.zip vs).map fun kv => kV kv.1) = ks.map kV := by
        have : (ks.zip vs).map (·.1) = ks := List.map_fst_zip (by omega)
        rw [show ((ks.zip vs).map fun kv => kV kv.1) = ((ks.zip vs).map (·.1)).map kV by rw [List.map_map]; rfl, this]
      rw [e2]
      exact new_lst p G rs (kDs_rd ks) q hq
    · exact p.elim
  · exact p.elim
end J
set_option Elab.async false
set_option linter.all false
set_option maxRecDepth 100000
set_option maxHeartbeats 1000000
namespace J
open PySem PySem.Spec PyProof.Rows L2
theorem keyF_some {F : MF} {d : D} {p : D × Int} (h : keyF F d = some p) : p.1 = d ∧ d.flat = true ∧ F [d] [] = .ok (.int p.2) [] := by
  unfold keyF at h
  split at h
  · rename_i hf
    split at h
    · rename_i k e
      cases h
      exact ⟨rfl, hf, e⟩
    · cases h
  · cases h
theorem keyF_all {F : MF} : ∀ {ys : List D} {ps : List (D × Int)}, ys.mapM (keyF F) = some ps → ps.length = ys.length ∧ ∀ (i : Nat) (d : D), ys[i]? = some d → ∃ k, ps[i]? = some (d, k) ∧ d.flat = true ∧ F [d] [] = .ok (.int k) []
  | [], ps, h => by
    simp at h
    subst h
    exact ⟨rfl, by simp⟩
  | y :: ys, ps, h => by
    rw [List.mapM_cons] at h
    cases e1 : keyF F y with
    | none => rw [e1] at h; cases h
    | some p =>
      rw [e1] at h
      cases e2 : ys.mapM (keyF F) with
      | none => rw [e2] at h; cases h
      | some qs =>
        rw [e2] at h
        cases h
        obtain ⟨a, b⟩ := keyF_all e2
        obtain ⟨k1, k2, k3⟩ := keyF_some e1
        refine ⟨by simp [a], fun i d hd => ?_⟩
        cases i with
        | zero =>
          simp at hd
          subst hd
          obtain ⟨p1, p2⟩ := p
          cases k1
          exact ⟨p2, rfl, k2, k3⟩
        | succ i => exact b i d (by simpa using hd)
theorem vals_at : ∀ {vs : List V} {us : List Value}, Vals vs us → ∀ (i : Nat) (u : Value), us[i]? = some u → ∃ v, vs[i]? = some v ∧ RelV v u
  | _, _, .nil, i, u, h => by simp at h
  | _, _, .cons r rs, 0, u, h => by
    simp at h
    subst h
    exact ⟨_, rfl, r⟩
  | _, _, .cons r rs, i + 1, u, h => by
    obtain ⟨v, a, b⟩ := vals_at rs i u (by simpa using h)
    exact ⟨v, by simpa using a, b⟩
theorem rds_at {g : G} {w : W} : ∀ {ds : List D} {vs : List V}, RDs g w ds vs → ∀ (i : Nat) (v : V), vs[i]? = some v → ∃ d, ds[i]? = some d ∧ RD g w d v
  | [], vs, h, i, v, e => by cases h; simp at e
  | d :: ds, vs, h, i, v, e => by
    obtain ⟨v0, r, rfl, r1, r2⟩ := h
    cases i with
    | zero =>
      simp at e
      subst e
      exact ⟨d, rfl, r1⟩
    | succ i =>
      obtain ⟨d', a, b⟩ := rds_at r2 i v (by simpa using e)
      exact ⟨d', by simpa using a, b⟩
/-- a list that is walked: its items by what they are, not which -/
theorem walk_vals {prog : Program} {w : World} {A : Around} (hh : A.handled = none) (I l : Addr) (hne : l ≠ I) (vs : List V) :
    WalksS prog w A I [I, l] [I] (fun a b => b = a) vs.length (fun i u => ∃ v, vs[i]? = some v ∧ RelV v u) (fun i s => ∃ its : List Value, Vals vs its ∧ s.heap.IsListIter I l i ∧ s.heap.IsList l its.toArray) where
  sub := fun b hb => by simp at hb; simp [hb]
  grefl := fun _ => rfl
  gtrans := fun _ _ _ h1 h2 => h2.trans h1
  frame := fun i s h' tk st ht hk => by
    obtain ⟨its, r, st⟩ := st
    exact ⟨its, r, (Walks.list (prog := prog) (w := w) (A := A) hh I l hne its.toArray).toS.frame i s h' tk st ht hk⟩
  item := fun i s Q E hi st hQ => by
    obtain ⟨its, r, st⟩ := st
    refine (Walks.list (prog := prog) (w := w) (A := A) hh I l hne its.toArray).toS.item i s Q E (by rw [List.size_toArray, ← r.length]; exact hi) st fun v s' hP st' m => hQ v s' ?_ ⟨its, r, st'⟩ m
    exact vals_at r i v (by simpa using hP)
  done := fun s Q E st hQ => by
    obtain ⟨its, r, st⟩ := st
    refine (Walks.list (prog := prog) (w := w) (A := A) hh I l hne its.toArray).toS.done s Q E ?_ hQ
    rw [List.size_toArray, ← r.length]
    exact st
  self := fun i s Q E st hQ => by
    obtain ⟨its, r, st⟩ := st
    exact (Walks.list (prog := prog) (w := w) (A := A) hh I l hne its.toArray).toS.self i s Q E st hQ
theorem sql_ext {g : G} {w w' : W} (hrh : w.rhA = []) (x : Ext w w') {a : Addr} {vs : List V} (h : SqL g.K w.H a vs) : SqL g.K w'.H a vs := by
  rcases h with (h | ⟨o, h⟩) | h
  · exact .inl (.inl (x.kpN h (by rw [hrh]; simp) dkt_lst))
  · exact .inl (.inr ⟨o, x.kpN h (by rw [hrh]; simp) dkt_frz⟩)
  · exact .inr h
section
variable {X : Cx} {Wx : WX} {pos : Pos}
theorem run_key {f : Addr} {fd : FuncData} {ps : List Str} {F : MF} {k : Nat} (hF : FnOk X.prog X.w X.K X.mg X.base (L2.CX X.prog X.w) k f fd ps (spF X.g 1 F)) (hr : Room k X.A.in1) (hb : Binds X.K fd ps [])
    {pins : List (Addr × Obj)} {σ : L2.St} {w : W} {s : Shared} {S : List D} {d : D} {v : V} {u : Value} {kk : Int} (I : Inv X pins σ w.H s) (G1 : Good w) (rs : RS X.g w S) (rd : RD X.g w d v) (ru : RelV v u) (fl : d.flat = true) (hk : F [d] [] = .ok (.int kk) [])
    {Q : Value → Shared → Prop} {E : Value → Shared → Prop}
    (h : ∀ (w' : W) (s' : Shared) (t : Tok), Ext w w' → Good w' → RS X.g w' S → Inv X pins σ w'.H s' → (∀ a vs, SqL X.g.K w.H a vs → SqL X.g.K w'.H a vs) → Un (frs X.stack) [] w.H w'.H s.heap s'.heap → Q (.int kk t) s') :
    wpAny (model X.prog X.w) X.A.in1 (call (.ref f) [u]) Q E s := by
  have Gc : Good ⟨w.thA, [], w.H⟩ := ⟨List.nodup_nil, fun a ha => by simp at ha, G1.al, G1.nt⟩
  have rdc : RDs X.g ⟨w.thA, [], w.H⟩ [d] [v] := ⟨v, [], rfl, RD.flatW (weak_take (w := w) (w' := ⟨w.thA, [], w.H⟩) rfl fun _ z => z) _ _ fl rd, rfl⟩
  have rsc : RS X.g ⟨w.thA, [], w.H⟩ [] := ⟨rfl, fun n d e => by simp at e⟩
  have hsp : spF X.g 1 F [v] w.H (fun y H' => ∃ wc' : W, Ext ⟨w.thA, [], w.H⟩ wc' ∧ wc'.rhA = [] ∧ Good wc' ∧ RD X.g wc' (.int kk) y ∧ RS X.g wc' [] ∧ H' = wc'.H) (fun _ _ _ => False) := by
    refine ⟨⟨w.thA, [], w.H⟩, [d], [], rfl, Gc, rdc, rsc, rfl, ?_⟩
    rw [hk]
    exact fun y w' x e g r rs => ⟨w', x, e, g, r, rs, rfl⟩
  have hl : ([u] ++ []).length = ps.length := by rw [← hF.len _ _ _ _ hsp]; rfl
  refine wpAny_call (codeAny_mono (hF.run X.A.in1 X.stack s w.H ⟨[u], []⟩ [u] [v] _ _ hr I.env0.in1 (hb s [u] I.kIn hl) (.cons ru .nil) hsp) fun r s' hq => ?_)
  cases r with
  | error e => obtain ⟨_, _, _, _, _, _, _, _, _, _, _, _, z⟩ := hq; exact z.elim
  | ok fl =>
    cases fl with
    | ret y =>
      obtain ⟨vy, H', os, bare, un, hok, ry, wc', x, hrh, g', rk, rs', rfl⟩ := id hq
      cases rk
      obtain ⟨t, rfl⟩ := ry
      obtain ⟨b1, b2, b3⟩ := back_ok (ns := []) (wc := ⟨w.thA, [], w.H⟩) G1 rs List.nodup_nil (by simp) rfl rfl rfl (by simp) x hrh g' rs' rfl rfl
      obtain ⟨_, H2, I2, _, e2⟩ := I.after (Q := fun _ H2 => H2 = wc'.H) (show CE X.stack X.prog X.w w.H s _ (.int kk t) s' from ⟨.int kk, wc'.H, os, bare, un, hok, ⟨t, rfl⟩, rfl⟩)
      subst e2
      exact h ⟨wc'.thA, w.rhA, wc'.H⟩ s' t b1 b2 b3 I2 (fun a vs hs => sql_ext (w := ⟨w.thA, [], w.H⟩) rfl x hs) un
    | next => exact False.elim hq
    | brk => exact False.elim hq
    | cont => exact False.elim hq
theorem jck_minK {f : Addr} {fd : FuncData} {ps : List Str} {F : MF} {k : Nat} (hF : FnOk X.prog X.w X.K X.mg X.base (L2.CX X.prog X.w) k f fd ps (spF X.g 1 F)) (hr : Room k X.A.in1) (hb : Binds X.K fd ps []) (hc : X.calm = true) :
    CallRK X (.builtin "min") [Str.ofString "key"] (fun vs zs H Q => zs = [.ref f] ∧ argOf X.g (bMinK F) vs H Q) := by
  intro pins s σ H vs zs us ws Q I r rz ⟨hz, Wx, σ', w, S, ds, hH, G1, rs, r1, p⟩
  subst hH
  subst hz
  obtain ⟨w1, rfl, e1⟩ := vals1 rz
  obtain rfl : w1 = Value.ref f := e1
  unfold bMinK at p
  split at p
  · obtain ⟨v, rfl, r2⟩ := r1.one'
    split at p
    · rename_i ys e
      split at p
      · rename_i q qs em
        obtain ⟨l, vs, rfl, t, r3⟩ := lstAny_lst rs r2 e
        obtain ⟨its, rv, hl, hz⟩ := I.list t
        obtain ⟨u, rfl, ru⟩ := vals1 r
        obtain rfl : u = Value.ref l := ru
        obtain ⟨km1, km2⟩ := keyF_all em
        have hvl : vs.length = ys.length := r3.length
        have hpos : vs.length = (qs.length + 1) := by rw [hvl, ← km1]; rfl
        have hlt : l < s.heap.objs.size := by obtain ⟨_, e, _⟩ := hl.isList; exact Heap.lt_size e
        refine call_min_walkK (PySem.W.iter_listW (A := X.A.in1) (by exact I.ok.hd hc) hl.isList fun s₂ es Wk st hfp hw hk => ?_)
        have sz2 : s₂.heap.objs.size = s.heap.objs.size + 1 := by subst es; exact Heap.size_push ..
        have I2 : Inv X pins σ w.H s₂ := by
          subst es
          exact I.kept (t' := s.toks) hk
        have fI : FpOk X pins w.H s.heap.objs.size := I.fpOk (Nat.le_refl _) I.fresh
        have fS : FpOk X pins w.H s₂.heap.objs.size := I.fpOk (by rw [sz2]; exact Nat.le_succ _) (I.hok.fresh (by rw [sz2]; exact Nat.le_succ _))
        refine ⟨s.heap.objs.size, [s.heap.objs.size, l], [s.heap.objs.size], (fun a b => b = a), vs.length, (fun i u => ∃ v, vs[i]? = some v ∧ RelV v u), (fun i s' => ∃ its : List Value, Vals vs its ∧ s'.heap.IsListIter s.heap.objs.size l i ∧ s'.heap.IsList l its.toArray),
          (fun s' => ∃ w' : W, Ext w w' ∧ Good w' ∧ RS X.g w' S ∧ Inv X pins σ w'.H s' ∧ SqL X.g.K w'.H l vs ∧ FpOk X pins w'.H s.heap.objs.size ∧ FpOk X pins w'.H s₂.heap.objs.size),
          (fun i kv _ => ∃ tk : Tok, kv = .int ((q :: qs).getD i (.non, 0)).2 tk),
          (fun i j => decide (((q :: qs).getD i (.non, 0)).2 < ((q :: qs).getD j (.non, 0)).2)), rfl, walk_vals (A := X.A.in1) (show X.A.in1.handled = none from I.ok.hd hc) _ l (Nat.ne_of_lt hlt) vs, ⟨its, rv, st⟩, hfp, by omega, ?_, ⟨w, Ext.refl w, G1, rs, I2, t, fI, fS⟩, ?_⟩
        · refine ⟨?_, fun _ _ _ _ h _ => h, ?_, ?_⟩
          · rintro sa sb ⟨w', x, g', rs', Ia, sq, f1, f2⟩ m
            refine ⟨w', x, g', rs', ?_, sq, f1, f2⟩
            have hg : sb.gens = sa.gens := m.gens
            have hd : sb.drawn = sa.drawn := m.drawn
            have ho : sb.os = sa.os := m.os
            have J := Ia.turnedL (h' := sb.heap) (t' := sb.toks) (ch := [s₂.heap.objs.size, s.heap.objs.size]) (fun b o hb eb => m.heap b o hb eb) (fun b hb => by
              rcases List.mem_cons.mp hb with z | z
              · rw [z]; exact f2
              · rw [List.mem_singleton.mp z]; exact f1)
            obtain ⟨h1, g1, d1, t1, o1⟩ := sb
            obtain ⟨h0, g0, d0, t0, o0⟩ := sa
            simp only at hg hd ho
            subst hg hd ho
            exact J
          · rintro i u sa o Qa Ea hi ⟨v, hv, rvu⟩ ⟨w', x, g', rs', Ia, sq, f1, f2⟩ ⟨itsa, rva, sta1, sta2⟩ hS hcont
            obtain ⟨d, hd, rd⟩ := rds_at r3 i v hv
            obtain ⟨kk, hq, hfl, hFd⟩ := km2 i d hd
            have ekk : ((q :: qs).getD i (.non, 0)).2 = kk := by rw [List.getD_eq_getElem?_getD, hq]; rfl
            refine run_key hF hr hb Ia g' rs' (rd.mono G1 x) rvu hfl hFd fun w2 s2 tk x2 g2 rs2 Ib hsq un => ?_
            have nst : ∀ b, FpOk X pins w'.H b → b ∉ frs X.stack := fun b fb hb => by
              rcases List.mem_cons.mp (Ia.stkSub b hb) with z | z
              · exact fb.2.1 z
              · exact fb.2.2.1 z
            have keepO : ∀ b ob, FpOk X pins w'.H b → sa.heap.get? b = some ob → s2.heap.get? b = some ob ∧ FpOk X pins w2.H b := fun b ob fb eb =>
              ⟨un.keep b ob eb fb.1 (nst b fb) (by simp), un.free b ob eb fb.1 (by simp), fb.2⟩
            obtain ⟨oI, eI, rI⟩ := id sta1
            have kI := keepO _ oI f1 eI
            have kS := keepO _ o f2 hS
            have sq2 := hsq l vs sq
            obtain ⟨itsb, rvb, plb, _⟩ := Ib.list sq2
            exact hcont _ s2 ⟨w2, x.trans x2, g2, rs2, Ib, sq2, kI.2, kS.2⟩ ⟨itsb, rvb, ⟨oI, kI.1, rI⟩, plb.isList⟩ kS.1 ⟨tk, by rw [ekk]⟩ fun _ _ h => h
          · rintro i j ki kj sa Qa Ea _ ⟨ti, rfl⟩ ⟨tj, rfl⟩ hq
            exact HT.rcLt_int _ _ _ _ _ _ _ _ _ _ hq
        · rintro v s' ⟨vv, hv, rvv⟩ ⟨w', x, g', rs', Ia, sq, f1, f2⟩
          have hn : vs.length - 1 = qs.length := by omega
          rw [hn] at hv
          obtain ⟨d, hd, rd⟩ := rds_at r3 _ vv hv
          obtain ⟨kk, hq, _, _⟩ := km2 _ d hd
          have e2 := (PySem.W.argBest_fold (fun a b : D × Int => decide (a.2 < b.2)) (.non, 0) q qs qs.length (Nat.le_refl _)).2
          rw [List.take_length] at e2
          have e3 : d = (minK q qs).1 := by
            have : ((q :: qs).getD (argBest (fun i j => decide (((q :: qs).getD i (D.non, (0 : Int))).2 < ((q :: qs).getD j (.non, 0)).2)) qs.length) (.non, 0)) = (d, kk) := by rw [List.getD_eq_getElem?_getD, hq]; rfl
            rw [this] at e2
            unfold minK
            rw [← e2]
          subst e3
          exact ⟨vv, w'.H, Ia, rvv, p vv w' x g' (rd.mono G1 x) rs'⟩
      · exact p.elim
    · exact p.elim
  · exact p.elim
theorem de_minK {y : Str} {k j : Nat} {F : MF} {a : Expr} {ma : MA} {p p2 pos2 : Pos} (hc : X.calm = true) (h : Fok X.prog X.w X.g X.base k y 1 F) (hk : k + 1 ≤ j) (hr : Room j X.A) (hgy : Gl X y) (hg : Gl X "min") (hm : X.mg "min" = none) (ha : PA X [a] (TAof X.g Wx ma))
    (hdb : (y == ("__debug__" : Str)) = false := by decide)
    (he : backTo pos (starEach [a] X.env) = (false, eval a X.env) :: backTo pos (starEach [] X.env) := by rfl) (hpl : (backTo pos (starEach [a] X.env)).any (·.1) = false := by rfl)
    (hall : (backToKw pos (keywordEach [⟨some "key", .Name y p2, pos2⟩] X.env)).all (·.1.isSome) = true := by rfl) (hnone : (backToKw pos (keywordEach [⟨some "key", .Name y p2, pos2⟩] X.env)).any (·.1.isNone) = false := by rfl) (hks : (backToKw pos (keywordEach [⟨some "key", .Name y p2, pos2⟩] X.env)).filterMap (·.1) = [Str.ofString "key"] := by rfl) :
    PE X (.Call (.Name "min" p) [a] [⟨some "key", .Name y p2, pos2⟩] pos) (TEof X.g Wx (eArgs (bMinK F) ma)) := by
  obtain ⟨f, fd, ps, hF, hmy, kp, b⟩ := h.ex
  refine peImp (pe_callBK (jck_minK hF ((hr.mono hk).in1) b hc) hg hm (by decide +kernel) ha (pk_cons (pe_glob hgy hmy (v := .ref f) rfl hdb) pk_nil) (by decide) (by decide) he hpl hall hnone hks) fun σ H Q ⟨w, E, S, a, p⟩ => ?_
  refine ⟨w, E, S, a, PR.imp (PR.bind a.good a.env p) fun xs H1 ⟨w1, ds, S1, a1, x1, r1, p1⟩ => ?_⟩
  exact ⟨rfl, Wx, σ, w1, S1, ds, a1.hp, a1.good, a1.sto, r1, p1⟩
end
end J
set_option Elab.async false
set_option linter.all false
set_option maxRecDepth 100000
set_option maxHeartbeats 1000000
namespace J
open PySem PySem.Spec PyProof.Rows L2
section
variable {X : Cx} {Wx : WX} {pos : Pos}
theorem jo_inT (hu : X.A.units + 65 < cLine) : OpR X (compareOp .In) (opOf X.g oInT) := by
  intro pins s σ H x y v u Q I rx ry ⟨Wx, σ', w, S, d, e, hH, G, rs, r1, r2, p⟩
  subst hH
  unfold oInT at p
  split at p
  · rename_i ks ds e1
    split at p
    · rename_i k e2
      obtain ⟨a, us, rfl, t, l, r3⟩ := r2.dctTAt rs e1
      cases ry
      obtain ⟨b, rfl, tb, _⟩ := kyT_of r1 e2
      have q := putSame p G rs rfl
      refine d_in (by omega) I (.inr ⟨_, k, b, t, rfl, tb, rfl⟩) rx fun s' I' => ⟨.bl _, _, I', rfl, ?_⟩
      rw [valV_someG k l]
      exact q
    · exact p.elim
  · exact p.elim
theorem jo_ninT (hu : X.A.units + 65 < cLine) : OpR X (compareOp .NotIn) (opOf X.g oNinT) := by
  intro pins s σ H x y v u Q I rx ry ⟨Wx, σ', w, S, d, e, hH, G, rs, r1, r2, p⟩
  subst hH
  unfold oNinT at p
  split at p
  · rename_i ks ds e1
    split at p
    · rename_i k e2
      obtain ⟨a, us, rfl, t, l, r3⟩ := r2.dctTAt rs e1
      cases ry
      obtain ⟨b, rfl, tb, _⟩ := kyT_of r1 e2
      have q := putSame p G rs rfl
      refine d_notIn (by omega) I (.inr ⟨_, k, b, t, rfl, tb, rfl⟩) rx fun s' I' => ⟨.bl _, _, I', rfl, ?_⟩
      rw [valV_someG k l]
      exact q
    · exact p.elim
  · exact p.elim
theorem jo_ixT (hu : X.A.units + 1 < cLine) : IxR X (opOf X.g oIxT) := by
  intro value slice pins s σ H x y v u Q I rx ry ⟨Wx, σ', w, S, d, e, hH, G, rs, r1, r2, p⟩ hs
  subst hH
  unfold oIxT at p
  split at p
  · rename_i ks ds e1
    split at p
    · rename_i k e2
      split at p
      · rename_i dd e3
        obtain ⟨a, us, rfl, t, l, r3⟩ := r1.dctTAt rs e1
        cases rx
        obtain ⟨b, rfl, tb, _⟩ := kyT_of r2 e2
        obtain ⟨z, h5, h6⟩ := (valT_zip k l r3).1 dd e3
        have h : DGet w.H a (.ref b) (some z) := .inr ⟨_, k, b, t, rfl, tb, h5.symm⟩
        exact tail_any (dict_typeIs I h) PySem.F.slot_dict_getitem.lookup (d_getItem hu I h ry fun w' s' I' r' => ⟨z, _, I', r', putSame p G rs h6⟩) hs
      · exact p.elim
    · exact p.elim
  · exact p.elim
theorem de_disp1TL {k v : Expr} {mk mv : ME} (hu : X.A.units + 1 < cLine) (hk : PE X k (TEof X.g Wx mk)) (hv : PE X v (TEof X.g Wx mv)) : PE X (.Dict [some k] [v] pos) (TEof X.g Wx (eDisp1TL mk mv)) := by
  refine peImp (pe_dispT (by omega) hk hv) fun σ H Q ⟨w, E, S, a, p⟩ => ?_
  intro q hq
  have hq' : w.H q = none := by rw [a.hp]; exact hq
  have x0 := hide_ext (o := .dT []) hq'
  have G0 := hide_good (o := .dT []) a.good hq'
  have nD : q ∉ w.rhA := fun z => a.good.al q (a.good.sub q z) hq'
  have a0 : At X.g (w.hide q (.dT [])) E σ (upd H q (.dT [])) S := ⟨by rw [← a.hp], G0, a.env.mono a.good x0, a.sto.keep a.good x0 rfl (fun b hb => upd_ne fun e => nD (by rw [← e]; exact hb))⟩
  have p0 : PR X.g Wx σ w (RD X.g) Q ((mk E S).bind fun x S1 => (mv E S1).bind fun y S2 => kDisp1T x y S2) := p
  refine ⟨w.hide q (.dT []), E, S, a0, ?_⟩
  cases hmk : mk E S with
  | bad => rw [hmk] at p0; exact p0.elim
  | exc c fs S1 => rw [hmk] at p0; exact PR.at p0 x0
  | ok d S1 =>
    rw [hmk] at p0
    intro x w1 x1 G1 r1 rs1
    have a1 : At X.g w1 E σ w1.H S1 := ⟨rfl, G1, a0.env.mono G0 x1, rs1⟩
    refine ⟨w1, E, S1, a1, ?_⟩
    simp only [bind_ok] at p0
    cases hmv : mv E S1 with
    | bad => rw [hmv] at p0; exact p0.elim
    | exc c fs S2 => rw [hmv] at p0; exact PR.at p0 (x0.trans x1)
    | ok d2 S2 =>
      rw [hmv] at p0
      intro y w2 x2 G2 r2 rs2
      simp only [bind_ok, kDisp1T] at p0
      split at p0
      · rename_i ky hky
        have x12 := x1.trans x2
        have x := x0.trans x12
        have hq2 : w2.H q = some (.dT []) := x12.kpT upd_same nD (.inr rfl)
        have hth : w2.thA q := x12.th1 q (.inr rfl)
        have nD2 : q ∉ w2.rhA := fun z => by
          obtain ⟨τ, e5, f5⟩ := x12.rho
          rw [e5] at z
          rcases List.mem_append.mp z with z | z
          · exact nD z
          · have := f5 q z
            rw [show (w.hide q (.dT [])).H q = some (.dT []) from upd_same] at this
            cases this
        obtain ⟨b, rfl, tb, nb⟩ := kyT_of (r1.mono G1 x2) hky
        refine ⟨hq2, ky, b, rfl, tb, ?_⟩
        · have kw : Weak w2 { w2 with H := upd w2.H q (.dT [(ky, y)]) } := weak_upd hth
          have rs2' : RS X.g { w2 with H := upd w2.H q (.dT [(ky, y)]) } S2 := rs2.weakW kw rfl (fun b hb => upd_ne fun e => nD2 (by rw [← e]; exact hb))
          have r2' : RD X.g { w2 with H := upd w2.H q (.dT [(ky, y)]) } d2 y := RD.weakW kw (fun _ _ h => h) _ _ r2
          have k3 : Weak { w2 with H := upd w2.H q (.dT [(ky, y)]) } ⟨w2.thA, w2.rhA ++ [q], upd w2.H q (.dT [(ky, y)])⟩ := weak_take rfl fun _ z => z
          have kr : ∀ (n : Nat) a, w2.rhA[n]? = some a → (w2.rhA ++ [q])[n]? = some a := fun n a h => by
            rw [List.getElem?_append_left (List.getElem?_eq_some_iff.mp h).1]; exact h
          obtain ⟨τ, eτ, fτ⟩ := x.rho
          refine p0 (.ref q) ⟨w2.thA, w2.rhA ++ [q], upd w2.H q (.dT [(ky, y)])⟩ ⟨⟨τ ++ [q], by show w2.rhA ++ [q] = _; rw [eτ, List.append_assoc], fun a h => (List.mem_append.mp h).elim (fτ a) fun h => by rw [List.mem_singleton.mp h]; exact hq'⟩, x.th1, x.th2, fun b o hb nb => ?_, fun b hb => ?_⟩
            ⟨?_, fun b h => ?_, fun b hb => ?_, fun b hb xs => by
              show upd w2.H q _ b ≠ some (.tup xs)
              by_cases e : b = q
              · rw [e, upd_same]; intro z; cases z
              · rw [upd_ne e]; exact G2.nt b hb xs⟩ ⟨q, rfl, by show (w2.rhA ++ [q])[S2.length]? = some q; rw [rs2.1]; simp⟩ ⟨by show (S2 ++ [_]).length = (w2.rhA ++ [q]).length; simp [rs2.1], fun n d e => ?_⟩
          · have hne : b ≠ q := fun e => by rw [e, hq'] at hb; cases hb
            rcases x.kp b o hb nb with q' | ⟨nt, od, kvs, eo, q'⟩
            · exact .inl ((upd_ne hne).trans q')
            · exact .inr ⟨nt, od, kvs, eo, (upd_ne hne).trans q'⟩
          · show upd w2.H q _ b ≠ none
            by_cases e : b = q
            · rw [e, upd_same]; simp
            · rw [upd_ne e]; exact x.al b hb
          · show (w2.rhA ++ [q]).Nodup
            rw [List.nodup_append]
            refine ⟨G2.nd, by simp, fun a ha b hb e => ?_⟩
            rw [List.mem_singleton.mp hb] at e
            exact nD2 (by rw [← e]; exact ha)
          · rcases List.mem_append.mp h with h | h
            · exact G2.sub b h
            · rw [List.mem_singleton.mp h]; exact hth
          · show upd w2.H q _ b ≠ none
            by_cases e : b = q
            · rw [e, upd_same]; simp
            · rw [upd_ne e]; exact G2.al b hb
          · by_cases hn : n < S2.length
            · rw [List.getElem?_append_left hn] at e
              obtain ⟨a, h1, h2⟩ := rs2'.2 n d e
              exact ⟨a, kr n a h1, h2.weakW k3 kr rfl⟩
            · have hl : n = S2.length := by
                have := (List.getElem?_eq_some_iff.mp e).1
                simp at this
                omega
              subst hl
              simp at e
              subst e
              exact ⟨q, by show (w2.rhA ++ [q])[S2.length]? = some q; rw [rs2.1]; simp, [y], upd_same, rfl, RDs.one (RD.weakW k3 kr _ _ r2')⟩
      · exact p0.elim
end
end J
set_option Elab.async false
set_option linter.all false
set_option maxRecDepth 100000
set_option maxHeartbeats 1000000
namespace J
open PySem PySem.Spec PyProof.Rows L2
section
variable {X : Cx} {Wx : WX} {k : Nat}
theorem jo_addL : OpR X (binaryOp .Add) (opOf X.g oAddL) := by
  intro pins s σ H x y v u Q I rx ry ⟨Wx, σ', w, S, d, e, hH, G, rs, r1, r2, p⟩
  subst hH
  unfold oAddL oAdd at p
  split at p
  · exact p.elim
  · split at p <;> exact p.elim
  · split at p
    · rename_i xs ys e1 e2
      split at p
      · rename_i hl
        obtain ⟨a, vs, rfl, ta, ra⟩ := r1.lstAt rs e1
        obtain ⟨b, us, rfl, tb, rb⟩ := r2.lstAt rs e2
        exact op_cat pins s σ _ _ _ v u Q I rx ry ⟨a, b, vs, us, rfl, rfl, ta, tb, by rw [ra.length, rb.length, ← sl_eq]; exact hl, new_loc p G rs (ra.append rb)⟩
      · exact p.elim
    · exact p.elim
theorem ds_tryC {kt : Str → Option Bool} {xB xC : Str} {body : List Stmt} {mb : MS} {v : V} {dv : D} {ev : Expr} {pos pos' np p6 : Pos} (c : Ctx X Wx k) (T : ExT X.g xB xC kt)
    (hs : X.stack = X.env :: X.outer) (hf : X.env.frame = some X.env.locals) (hc : ∀ B, X.mg xB = some (.ref B) → Names X xB (.ref B))
    (hb : ∀ (W : WX) (pn : List (Addr × Obj)) (xe : Value → Shared → Prop), Ctx (X.tr pn xe) W k → PSs (X.tr pn xe) body (TSof X.g W mb))
    (hev : ∀ a pn, PE (X.suite a pn) ev (tC v)) (hdv : ∀ w, RD X.g w dv v) :
    PS X (.Try body [.ExceptHandler (some (.Name xB np)) none [.Return (some ev) p6] pos'] [] [] pos) (TSof X.g Wx (sTryC kt dv mb)) := by
  obtain ⟨B, C, hB, hCC, hk⟩ := T.ex
  refine psImp (ps_try_only (tb := fun W => TSof X.g W mb) (ts := fun a cls d => tRet (tC v)) hs hf (hc B hB) c.tk
    (fun W pn xe tk po => hb W pn xe ⟨tk, po, c.calm, c.hr⟩) fun a oe cls d pn hz hfd => pss_one (ps_ret (hev _ _))) fun Dn σ H ⟨w, E, S, at0, p⟩ => ⟨w, E, S, at0, ?_⟩
  unfold sTryC at p
  cases hm : mb E S with
  | bad => rw [hm] at p; exact p.elim
  | nx E1 S1 => rw [hm] at p; exact p
  | rt d S1 => rw [hm] at p; exact p
  | bk E1 S1 => rw [hm] at p; exact p
  | ct E1 S1 => rw [hm] at p; exact p
  | exc cn fs E1 S1 =>
    rw [hm] at p
    simp only at p
    cases hkt : kt cn with
    | none => rw [hkt] at p; exact p.elim
    | some b =>
      rw [hkt] at p
      intro cls dx σ' w' x G' rx re rs
      obtain ⟨Dd, g1, g2, g4, g5⟩ := hk cn b hkt
      obtain ⟨C', h1, rfl, h3⟩ := rx
      rw [h1] at g1
      cases g1
      exact ⟨true, g5, fun _ a0 ha0 => p v w' x G' (hdv _) rs, fun z => Bool.noConfusion z⟩
end
end J
set_option Elab.async false
set_option linter.all false
set_option maxRecDepth 100000
set_option maxHeartbeats 1000000
namespace J
open PySem PySem.Spec PyProof.Rows L2
theorem new_tuk {g : G} {Wx : WX} {σ : L2.St} {w : W} {Q : VK} {ds : List D} {vs : List V} {S : List D} (p : PR g Wx σ w (RD g) Q (.ok (.tuk ds) S)) (G : Good w) (rs : RS g w S) (r : RDs g w ds vs) (q : Addr) (o : Obj) (hd : o.dict = none) (hq : w.H q = none) : Q (.ref q) (upd w.H q (.frz o (.tup vs))) :=
  p (.ref q) (w.put q (.frz o (.tup vs))) (put_ext hq) (put_good G hq) ⟨q, vs, o, rfl, upd_same, hd, put_th (w := w) G hq, r.mono G (put_ext hq)⟩ (put_store G hq rs)
section
variable {X : Cx} {Wx : WX} {pos : Pos} {es : List Expr} {t : TA}
/-- a tuple of written items, its object known -/
def tTupK (t : TA) : TE := fun σ H Q => t σ H fun xs H1 => xs.length ≤ sizeLine ∧ ∀ p o, o.dict = none → H1 p = none → Q (.ref p) (upd H1 p (.frz o (.tup xs)))
theorem pe_tupK {x1} (h : PA X es t) : PE X (.Tuple es x1 pos) (tTupK t) := by
  refine ⟨fun pins s σ H Q I hq => ?_⟩
  refine wpAny_Tuple_spliced (thn (h.run pos pins s σ H _ I hq) fun us s1 ⟨xs, H1, I1, r, z, q⟩ => ⟨by rw [← r.length]; exact z, ?_⟩)
  have hf : H1 s1.heap.objs.size = none := I1.hok.fresh (Nat.le_refl _)
  let ob : Obj := { cls := .type "tuple", data := .seq us.toArray }
  have hl : HOk X.prog X.w H1 s1.heap := I1.hok
  refine ⟨.ref s1.heap.objs.size, upd H1 s1.heap.objs.size (.frz ob (.tup xs)), I1.laid (t' := s1.toks) (fun b u e => Heap.get?_push_of_some _ e) (Nat.le_refl _) ?_, rfl, q _ ob rfl hf⟩
  exact ⟨Heap.get?_push_size _ rfl, z, us, r, ⟨_, Heap.get?_push_size _ rfl, rfl, _, rfl⟩⟩
theorem de_tupD {mr : MA} {x1} (h : PA X es (TAof X.g Wx mr)) : PE X (.Tuple es x1 pos) (TEof X.g Wx (eArgs bTupD mr)) := by
  refine de_disp (es := es) (pe_tupK h) fun σ H Q ⟨w, E, S, a, p⟩ => ⟨w, E, S, a, PR.imp p fun xs H1 hh => ?_⟩
  obtain ⟨Wx, σ, w, S, ds, rfl, G, rs, r, p⟩ := hh
  unfold bTupD at p
  split at p
  · rename_i hl
    rw [sl_eq, ← r.length] at hl
    refine ⟨hl, fun q o hd hq => ?_⟩
    exact p (.ref q) (w.put q (.frz o (.tup xs))) (put_ext hq) (put_good G hq) ⟨q, xs, o, rfl, upd_same, hd, put_th (w := w) G hq, r.mono G (put_ext hq)⟩ (put_store G hq rs)
  · exact p.elim
end
section
variable {X : Cx} {Wx : WX} {pos : Pos}
theorem op_catK : OpR X (binaryOp .Add) (fun x y H Q => ∃ a b xs ys, x = .ref a ∧ y = .ref b ∧ SqT X.K H a xs ∧ SqT X.K H b ys ∧ xs.length + ys.length ≤ sizeLine ∧
    (xs = [] → Q (.ref b) H) ∧ (xs ≠ [] → ys = [] → Q (.ref a) H) ∧ (xs ≠ [] → ys ≠ [] → ∀ p o, o.dict = none → H p = none → Q (.ref p) (upd H p (.frz o (.tup (xs ++ ys)))))) := by
  intro pins s σ H x y v u Q I rx ry h
  obtain ⟨a, b, xs, ys, rfl, rfl, ha, hb, hz, q0, q1, q2⟩ := h
  by_cases hx : xs = []
  · exact op_catA pins s σ H _ _ v u Q I rx ry ⟨a, b, xs, ys, rfl, rfl, ha, hb, hz, q0, fun z => absurd hx z, fun z => absurd hx z⟩
  · cases rx
    cases ry
    obtain ⟨its, r1, p1, _⟩ := I.tuple ha
    obtain ⟨its2, r2, p2, _⟩ := I.tuple hb
    refine HT.cat_tup p1 p2 (fun z => hx (r1.nil_iff.mp z)) (fun z => ⟨.ref a, H, I, rfl, q1 hx (r2.nil_iff.mp z)⟩) (fun z => ?_) (by rw [← r1.length, ← r2.length]; exact hz)
    refine ⟨.ref s.heap.objs.size, _, I.laid (t' := s.toks) (o := .frz { cls := .type "tuple", data := .seq (its ++ its2).toArray } (.tup (xs ++ ys))) (fun b ob q => Heap.get?_push_of_some _ q) (Nat.le_refl _) ?_, rfl, q2 hx (fun w => z (r2.nil_iff.mpr w)) _ _ rfl (I.hok.fresh (Nat.le_refl _))⟩
    · exact ⟨Heap.get?_push_size _ rfl, by rw [List.length_append]; exact hz, _, r1.append r2, IsTup.new _ _⟩
theorem jo_addK : OpR X (binaryOp .Add) (opOf X.g oAddK) := by
  intro pins s σ H x y v u Q I rx ry ⟨Wx, σ', w, S, d, e, hH, G, rs, r1, r2, p⟩
  unfold oAddK at p
  split at p
  · subst hH
    split at p
    · rename_i xs ys hl
      obtain ⟨a, vs, o, rfl, ta, hd, na, ra⟩ := id r1
      obtain ⟨b, us, o2, rfl, tb, hd2, nb, rb⟩ := id r2
      refine op_catK pins s σ _ _ _ v u Q I rx ry ⟨a, b, vs, us, rfl, rfl, .inl (.inr ⟨o, ta⟩), .inl (.inr ⟨o2, tb⟩), by rw [ra.length, rb.length, ← sl_eq]; exact hl, fun z => ?_, fun _ z => ?_, fun _ _ q o hd hq => new_tuk p G rs (ra.append rb) q o hd hq⟩
      · have l := ra.length
        rw [z] at l
        have z2 : xs = [] := List.eq_nil_of_length_eq_zero l.symm
        subst z2
        exact putSame p G rs r2
      · have l := rb.length
        rw [z] at l
        have z2 : ys = [] := List.eq_nil_of_length_eq_zero l.symm
        subst z2
        rw [List.append_nil] at p
        exact putSame p G rs r1
    · exact p.elim
  · exact jo_add pins s σ H x y v u Q I rx ry ⟨Wx, σ', w, S, d, e, hH, G, rs, r1, r2, p⟩
theorem sl_tupK : SlR X (fun x lo hi H Q => ∃ a xs, x = .ref a ∧ SqT X.K H a xs ∧ (HT.sIx xs.length 0 lo = 0 ∧ HT.sIx xs.length xs.length hi = xs.length → Q (.ref a) H) ∧
    (¬ (HT.sIx xs.length 0 lo = 0 ∧ HT.sIx xs.length xs.length hi = xs.length) → ∀ p o, o.dict = none → H p = none → Q (.ref p) (upd H p (.frz o (.tup (cutV xs lo hi)))))) := by
  intro pins s σ H x v vl vu lo hi sl Q I rx hs pl pu h
  obtain ⟨a, xs, rfl, hx, q1, q2⟩ := h
  by_cases hw : HT.sIx xs.length 0 lo = 0 ∧ HT.sIx xs.length xs.length hi = xs.length
  · exact sl_tupA pins s σ _ _ v vl vu lo hi sl Q I rx hs pl pu ⟨a, xs, rfl, hx, q1, fun z => absurd hw z⟩
  · cases rx
    obtain ⟨its, r, ht, hz⟩ := I.tuple hx
    have hlen : its.toArray.size = xs.length := by rw [List.size_toArray]; exact r.length.symm
    refine ⟨"tuple", _, PyProof.Rows.slot_tuple_getitem.lookup, ht.typeIs, ?_⟩
    refine HT.getItem_tuple_cut ht hs pl pu (by rw [hlen]; exact hw) ?_ (by rw [hlen]; exact hz)
    rw [hlen]
    refine ⟨.ref s.heap.objs.size, _, I.laid (t' := s.toks) (o := .frz { cls := .type "tuple", data := .seq ((its.drop (HT.sIx xs.length 0 lo)).take (HT.sIx xs.length xs.length hi - HT.sIx xs.length 0 lo)).toArray } (.tup (cutV xs lo hi))) (fun b ob q => Heap.get?_push_of_some _ q) (Nat.le_refl _) ?_, rfl, q2 hw _ _ rfl (I.hok.fresh (Nat.le_refl _))⟩
    · exact ⟨Heap.get?_push_size _ rfl, Nat.le_trans (cutV_length xs lo hi) hz, _, (r.drop (HT.sIx xs.length 0 lo)).take (HT.sIx xs.length xs.length hi - HT.sIx xs.length 0 lo), IsTup.new _ _⟩
def slOfK (g : G) : V → Option Int → Option Int → Hp → VK → Prop := fun x lo hi H Q => ∃ Wx σ w S d, w.H = H ∧ Good w ∧ RS g w S ∧ RD g w d x ∧ PR g Wx σ w (RD g) Q (oSlK d lo hi S)
theorem jo_slK : SlR X (slOfK X.g) := by
  intro pins s σ H x v vl vu lo hi sl Q I rx hs pl pu ⟨Wx, σ', w, S, d, hH, G, rs, r1, p⟩
  unfold oSlK at p
  split at p
  · subst hH
    rename_i xs
    obtain ⟨a, vs, o, rfl, t, hd, na, r2⟩ := id r1
    have hl := r2.length
    refine sl_tupK pins s σ _ _ v vl vu lo hi sl Q I rx hs pl pu ⟨a, vs, rfl, .inl (.inr ⟨o, t⟩), fun hw => ?_, fun _ q o hd hq => new_tuk p G rs (cut_eq r2 lo hi) q o hd hq⟩
    rw [hl] at hw
    rw [cut_whole hw] at p
    exact putSame p G rs r1
  · exact jo_sl pins s σ H x v vl vu lo hi sl Q I rx hs pl pu ⟨Wx, σ', w, S, d, hH, G, rs, r1, p⟩
theorem de_sliceK {a : Expr} {ma : ME} {lo hi : Option Expr} {ml mh : Option ME} {p2 : Pos} (he : PE X a (TEof X.g Wx ma)) (hl : PO X lo (TPof X.g Wx (ePart ml))) (hu : PO X hi (TPof X.g Wx (ePart mh))) : PE X (.Subscript a (.Slice lo hi none p2) pos) (TEof X.g Wx (eSlK ma ml mh)) := by
  refine peImp (pe_slice jo_slK he hl hu) fun σ H Q ⟨w, E, S, a, p⟩ => ?_
  refine ⟨w, E, S, a, PR.imp (PR.bind a.good a.env p) fun x H1 ⟨w1, d, S1, a1, x1, r1, p1⟩ => ?_⟩
  refine ⟨w1, E, S1, a1, PR.imp (PR.bind a1.good a1.env p1) fun l H2 ⟨w2, l', S2, a2, x2, r2, p2⟩ => ?_⟩
  obtain rfl : l' = l := r2
  refine ⟨w2, E, S2, a2, PR.imp (PR.bind a2.good a2.env p2) fun u H3 ⟨w3, u', S3, a3, x3, r3, p3⟩ => ?_⟩
  obtain rfl : u' = u := r3
  exact ⟨Wx, σ, w3, S3, d, a3.hp, a3.good, a3.sto, RD.mono a1.good (x2.trans x3) d x r1, p3⟩
def tRevK (K : PySem.W.Frag) (te : TE) : TE := fun σ H Q => te σ H fun x H1 => ∃ a xs, x = .ref a ∧ SqT K H1 a xs ∧ ∀ p o, o.dict = none → H1 p = none → Q (.ref p) (upd H1 p (.frz o (.tup xs.reverse)))
theorem pe_revK {e : Expr} {te : TE} {k : Nat} {p1 p2 p3 pos : Pos} (he : PE X e te) : PE X (.Subscript e (.Slice none none (some (.UnaryOp .USub (.Constant (.int 1) k p1) p2)) p3) pos) (tRevK X.K te) := by
  refine ⟨fun pins s σ H Q I h => ?_⟩
  refine Subscript_ (thn (he.run pins s σ H _ I h) fun v s1 ⟨x, H1, I1, r1, q1⟩ => ?_)
  obtain ⟨a, xs, ex, hx, q⟩ := q1
  subst ex
  cases r1
  have hst : PO X (some (.UnaryOp .USub (.Constant (.int 1) k p1) p2)) (tPart (tUn (rU fun i => .int (-i)) (tC (.int 1)))) := po_some (pe_un un_neg pe_int)
  refine wpAny_Slice (thn (po_none.run pins s1 σ H1 (fun o H2 => o = none ∧ H2 = H1) I1 ⟨rfl, rfl⟩) fun vl s2 ⟨l, H2, I2, pl, el, e2⟩ => ?_)
  subst el e2
  refine thn (po_none.run pins s2 σ H2 (fun o H3 => o = none ∧ H3 = H2) I2 ⟨rfl, rfl⟩) fun vu s3 ⟨u, H3, I3, pu, eu, e3⟩ => ?_
  subst eu e3
  refine thn (hst.run pins s3 σ H3 (fun o H4 => o = some (-1) ∧ H4 = H3) I3 ⟨1, rfl, -1, rfl, rfl, rfl⟩) fun vs s4 ⟨o, H4, I4, ps, eo, e4⟩ => ?_
  subst eo e4
  have I5 : Inv X pins σ H4 { s4 with heap := s4.heap.push { cls := .type "slice", data := .fields #[vl, vu, vs] } } := I4.kept (t' := s4.toks) fun b ob q => Heap.get?_push_of_some _ q
  show wpAny (model X.prog X.w) X.A (subscriptTail e (.Slice none none (some (.UnaryOp .USub (.Constant (.int 1) k p1) p2)) p3) (.ref a) (.ref s4.heap.objs.size)) (EP X pins σ Q) X.xe { s4 with heap := s4.heap.push { cls := .type "slice", data := .fields #[vl, vu, vs] } }
  obtain ⟨its, r, ht, hz⟩ := I5.tuple hx
  have hlen := r.length
  refine tail_any (ops := [.ref a, .ref s4.heap.objs.size]) ht.typeIs (PyProof.Rows.slot_tuple_getitem.lookup) ?_ (by with_unfolding_all rfl)
  refine getItem_tuple_rev ht (Heap.IsSliceOf.new _ vl vu vs) pl pu ps ?_ (by rw [List.size_toArray]; omega)
  refine ⟨.ref _, _, I5.laid (t' := s4.toks) (o := .frz { cls := .type "tuple", data := .seq its.reverse.toArray } (.tup xs.reverse)) (fun b ob q => Heap.get?_push_of_some _ q) (Nat.le_refl _) ?_, rfl, q _ _ rfl (I5.hok.fresh (Nat.le_refl _))⟩
  · exact ⟨Heap.get?_push_size _ rfl, by rw [List.length_reverse]; exact hz, _, r.reverse, IsTup.new _ _⟩
theorem de_revK {e : Expr} {ma : ME} {k : Nat} {p1 p2 p3 pos : Pos} (he : PE X e (TEof X.g Wx ma)) : PE X (.Subscript e (.Slice none none (some (.UnaryOp .USub (.Constant (.int 1) k p1) p2)) p3) pos) (TEof X.g Wx (eRevK ma)) := by
  refine peImp (pe_revK he) fun σ H Q ⟨w, E, S, a, p⟩ => ?_
  refine ⟨w, E, S, a, PR.imp (PR.bind a.good a.env p) fun x H1 ⟨w1, d, S1, a1, x1, r1, p1⟩ => ?_⟩
  unfold oRevK at p1
  rw [← a1.hp]
  split at p1
  · obtain ⟨q, vs, o, rfl, t, hd, na, r⟩ := r1
    exact ⟨q, vs, rfl, .inl (.inr ⟨o, t⟩), fun z o hd hz => new_tuk p1 a1.good a1.sto r.rev z o hd hz⟩
  · exact p1.elim
theorem jo_ixK (hu : X.A.units + 1 < cLine) : IxR X (opOf X.g oIxK) := by
  intro value slice pins s σ H x y v u Q I rx ry ⟨Wx, σ', w, S, d, e, hH, G, rs, r1, r2, p⟩ hs
  unfold oIxK at p
  split at p
  · subst hH
    split at p
    · split at p
      · rename_i z e2
        cases r2
        obtain ⟨a, vs, o, rfl, t, hd, na, r3⟩ := r1
        obtain ⟨v', e3, r4⟩ := atOf_of r3 e2
        exact ix_tup value slice pins s σ _ _ _ v u Q I rx ry ⟨a, vs, _, v', rfl, rfl, .inl (.inr ⟨o, t⟩), e3, putSame p G rs r4⟩ hs
      · exact p.elim
    · exact p.elim
  · exact jo_ix hu value slice pins s σ H x y v u Q I rx ry ⟨Wx, σ', w, S, d, e, hH, G, rs, r1, r2, p⟩ hs
theorem jo_neK (hu : X.A.units + 64 < cLine) : OpR X (compareOp .NotEq) (opOf X.g oNeK) := by
  intro pins s σ H x y v u Q I rx ry ⟨Wx, σ', w, S, d, e, hH, G, rs, r1, r2, p⟩
  unfold oNeK at p
  split at p
  · subst hH
    split at p
    · rename_i xs h
      obtain ⟨a, vs, o, rfl, t, hd, na, r3⟩ := r1
      have c := cmpOk_b h
      have dx : Dp X.K w.H (.ref a) (D.py (.tup xs)) := .tup (.inl (.inr ⟨o, t⟩)) (pys_dp xs vs c r3)
      have h0 : cmpOk (.tup []) = true := rfl
      refine op_neD hu pins s σ _ _ _ v u Q I rx ry ⟨_, _, dx, seen_dp rs r2 (show cmpOk (seen S (.tup [])) = true from rfl), py_shaped h, py_shaped h0, ?_⟩
      rw [show PyData.eqv (D.py (.tup xs)) (D.py (seen S (.tup []))) = D.eqB (.tup xs) (.tup []) from py_eqv _ _ c rfl]
      have e : D.eqB (.tup xs) (.tup []) = xs.isEmpty := by cases xs <;> rfl
      rw [e]
      exact putSame p G rs rfl
    · exact p.elim
  · exact jo_ne hu pins s σ H x y v u Q I rx ry ⟨Wx, σ', w, S, d, e, hH, G, rs, r1, r2, p⟩
theorem jc_listK : CallR X (.type "list") (argOf X.g bListK) := by
  intro pins s σ H xs us Q I r ⟨Wx, σ', w, S, ds, hH, G, rs, r1, p⟩
  unfold bListK at p
  split at p
  · subst hH
    obtain ⟨v, rfl, r2⟩ := r1.one'
    obtain ⟨a, vs, o, rfl, t, hd, na, r3⟩ := r2
    exact call_list_of pins s σ _ _ us Q I r ⟨a, vs, rfl, .inr (.inl (.inr ⟨o, t⟩)), new_lst p G rs r3⟩
  · exact jc_list pins s σ H xs us Q I r ⟨Wx, σ', w, S, ds, hH, G, rs, r1, p⟩
theorem jc_sortedK : CallR X (.builtin "sorted") (argOf X.g bSortedK) := by
  intro pins s σ H xs us Q I r ⟨Wx, σ', w, S, ds, hH, G, rs, r1, p⟩
  unfold bSortedK at p
  split at p
  · subst hH
    obtain ⟨v, rfl, r2⟩ := r1.one'
    split at p
    · rename_i ns e2
      obtain ⟨a, vs, o, rfl, t, hd, na, r3⟩ := r2
      have := ints_vals r3 e2
      subst this
      have fin : ∀ (ns' : List Int) (p' : Addr), ns'.Perm ns → ns'.Pairwise (· ≤ ·) → w.H p' = none → Q (.ref p') (upd w.H p' (.lst (ns'.map V.int))) := fun ns' p' h1 h2 h3 => by
        have e3 : ns' = sortI ns := sorted_uniq (h1.trans (sortI_perm ns).symm) h2 (sortI_sorted ns)
        subst e3
        exact new_lst p G rs (rds_ints _) p' h3
      exact crT_sortedI pins s σ _ _ us Q I r ⟨a, ns, rfl, .inl (.inr ⟨o, t⟩), fin⟩
    · exact p.elim
  · exact jc_sorted pins s σ H xs us Q I r ⟨Wx, σ', w, S, ds, hH, G, rs, r1, p⟩
theorem op_repK0 : OpR X (binaryOp .Mult) (fun x y H Q => ∃ l xs, x = .ref l ∧ y = .int 0 ∧ SqT X.K H l xs ∧ xs ≠ [] ∧ ∀ p o, o.dict = none → H p = none → Q (.ref p) (upd H p (.frz o (.tup [])))) := by
  intro pins s σ H x y v u Q I rx ry h
  obtain ⟨l, xs, rfl, rfl, hT, hne, q⟩ := h
  cases rx
  obtain ⟨t, rfl⟩ := ry
  obtain ⟨its, r, ⟨⟨cls, dd, data, sl⟩, ho, hc, n, hd⟩, hs⟩ := I.tuple hT
  simp only at hc hd
  subst hc hd
  have hi : its.toArray.isEmpty = false := by
    cases its with
    | nil => cases r; exact absurd rfl hne
    | cons a b => rfl
  refine wpAny_binaryOp_repeat_ref (T := "tuple") (U := "int") (by decide) ⟨_, ho, rfl⟩ (fun s' => typeIs_int s' 0 t) noFill_tuple_mul F.fills_int_mul F.slot_int_rmul repeat_tuple F.slot_int_index.lookup
    (call_meets F.slot_int_rmul (typeIs_int s 0 t) F.entry_int_rmul (F.args_int_rmul_2 _ _) (int_rmul_tuple 0 t l its.toArray n dd sl)
      ⟨ho, rfl, ⟨_, ho, rfl⟩, call_meets F.slot_tuple_mul ⟨_, ho, rfl⟩ F.entry_tuple_mul (F.args_tuple_mul_2 _ _) (tuple_mulW0 l its.toArray n dd sl t hi) ⟨ho, ?_⟩⟩)
  exact ⟨.ref _, _, I.laid (t' := s.toks) (o := .frz { cls := .type "tuple", data := .seq #[] } (.tup [])) (fun b ob q => Heap.get?_push_of_some _ q) (Nat.le_refl _) ⟨Heap.get?_push_size _ rfl, Nat.zero_le _, [], .nil, IsTup.new _ _⟩, rfl, q _ _ rfl (I.hok.fresh (Nat.le_refl _))⟩
theorem op_repK : OpR X (binaryOp .Mult) (fun x y H Q => ∃ l k xs, x = .ref l ∧ y = .int k ∧ SqT X.K H l xs ∧ xs ≠ [] ∧ 2 ≤ k ∧ k ≤ 1000 ∧ xs.length ≤ 1000 ∧ ∀ p o, o.dict = none → H p = none → Q (.ref p) (upd H p (.frz o (.tup (List.replicate k.toNat xs).flatten)))) := by
  intro pins s σ H x y v u Q I rx ry h
  obtain ⟨l, k, xs, rfl, rfl, hT, hne, h1, h2, hz, q⟩ := h
  cases rx
  obtain ⟨t, rfl⟩ := ry
  obtain ⟨its, r, ⟨⟨cls, dd, data, sl⟩, ho, hc, n, hd⟩, hs⟩ := I.tuple hT
  simp only at hc hd
  subst hc hd
  have hle : its.length = xs.length := r.length.symm
  have hn : its ≠ [] := fun e => hne (by
    rw [e] at hle
    exact List.eq_nil_of_length_eq_zero hle.symm)
  have hi : its.toArray.isEmpty = false := by
    cases its with
    | nil => exact absurd rfl hn
    | cons a b => rfl
  have hsz0 : its.toArray.size = xs.length := by rw [List.size_toArray, hle]
  have hm : ((its.toArray.size : Nat) : Int) * k ≤ 1000000 := by
    rw [hsz0]
    have a1 : ((xs.length : Nat) : Int) * k ≤ 1000 * k := Int.mul_le_mul_of_nonneg_right (by omega) (by omega)
    omega
  have flen : (List.replicate k.toNat its).flatten.length ≤ sizeLine := by
    rw [PyProof.Rows.lm_len_rep_flat, hle, sizeLine_eq]
    have a1 : k.toNat * xs.length ≤ 1000 * 1000 := Nat.mul_le_mul (by omega) hz
    omega
  have c0 : (decide (k < -(2 ^ 63)) || decide (k ≥ 2 ^ 63)) = false := by
    rw [decide_eq_false (by omega), decide_eq_false (by omega)] <;> rfl
  have c1 : (its.toArray.isEmpty || k == 1) = false := by
    rw [hi, Bool.false_or]
    exact beq_eq_false_iff_ne.mpr (by omega)
  have c2 : (decide (k ≤ 0) || its.toArray.isEmpty) = false := by
    rw [hi, Bool.or_false]
    exact decide_eq_false (by omega)
  have c4 : Builtin.Tuple.tupleTooMany (((its.toArray.size : Nat) : Int) * k) = false := by
    unfold Builtin.Tuple.tupleTooMany
    rw [sizeLine_eq]
    exact decide_eq_false (by omega)
  refine wpAny_binaryOp_repeat_ref (T := "tuple") (U := "int") (by decide) ⟨_, ho, rfl⟩ (fun s' => typeIs_int s' k t) noFill_tuple_mul F.fills_int_mul F.slot_int_rmul repeat_tuple F.slot_int_index.lookup
    (call_meets F.slot_int_rmul (typeIs_int s k t) F.entry_int_rmul (F.args_int_rmul_2 _ _) (int_rmul_tuple k t l its.toArray n dd sl)
      ⟨ho, rfl, ⟨_, ho, rfl⟩, call_meets F.slot_tuple_mul ⟨_, ho, rfl⟩ F.entry_tuple_mul (F.args_tuple_mul_2 _ _) (tuple_mulW l its.toArray n dd sl k t c0 c1 c2 (by omega) c4 (by rw [L2.size_rep, List.size_toArray]; exact flen)) ⟨ho, ?_⟩⟩)
  rw [L2.size_rep]
  refine ⟨.ref s.heap.objs.size, _, I.laid (t' := s.toks) (o := .frz { cls := .type "tuple", data := .seq (List.replicate k.toNat its).flatten.toArray } (.tup (List.replicate k.toNat xs).flatten)) (fun b ob q => Heap.get?_push_of_some _ q) (Nat.le_refl _) ?_, rfl, q _ _ rfl (I.hok.fresh (Nat.le_refl _))⟩
  exact ⟨Heap.get?_push_size _ rfl, by rw [PyProof.Rows.lm_len_rep_flat, sizeLine_eq]; have a1 : k.toNat * xs.length ≤ 1000 * 1000 := Nat.mul_le_mul (by omega) hz; omega, _, r.rep k.toNat, IsTup.new _ _⟩
theorem jo_mulK : OpR X (binaryOp .Mult) (opOf X.g oMulK) := by
  intro pins s σ H x y v u Q I rx ry ⟨Wx, σ', w, S, d, e, hH, G, rs, r1, r2, p⟩
  subst hH
  unfold oMulK at p
  split at p
  · split at p
    · rename_i d k h
      cases r2
      obtain ⟨a, vs, o, rfl, ta, hd, na, ra⟩ := id r1
      have hl := ra.length
      have hne : vs ≠ [] := fun z => by rw [z] at hl; simp at hl
      by_cases h0 : k = 0
      · subst h0
        exact op_repK0 pins s σ _ _ _ v u Q I rx ry ⟨a, vs, rfl, rfl, .inl (.inr ⟨o, ta⟩), hne, fun q o hd hq => new_tuk p G rs (ds := []) (vs := []) rfl q o hd hq⟩
      · by_cases h1 : k = 1
        · subst h1
          refine op_repT1 pins s σ _ _ _ v u Q I rx ry ⟨a, vs, rfl, rfl, .inl (.inr ⟨o, ta⟩), ?_⟩
          exact putSame p G rs r1
        · refine op_repK pins s σ _ _ _ v u Q I rx ry ⟨a, k, vs, rfl, rfl, .inl (.inr ⟨o, ta⟩), hne, by omega, h.2, by rw [hl]; simp, fun q o hd hq => ?_⟩
          have e : (List.replicate k.toNat [d]).flatten = List.replicate k.toNat d := by simp
          rw [← e] at p
          exact new_tuk p G rs (ra.rep _) q o hd hq
    · exact p.elim
  · exact p.elim
end
end J
set_option Elab.async false
set_option linter.all false
set_option maxRecDepth 100000
set_option maxHeartbeats 1000000
namespace J
open PySem PySem.Spec PyProof.Rows L2
section
variable {X : Cx} {Wx : WX}
theorem jo_mulG : OpR X (binaryOp .Mult) (opOf X.g oMulG) := by
  intro pins s σ H x y v u Q I rx ry ⟨Wx, σ', w, S, d, e, hH, G, rs, r1, r2, p⟩
  subst hH
  unfold oMulG at p
  split at p
  · split at p
    · rename_i xs k h
      cases r2
      obtain ⟨a, vs, o, rfl, ta, hd, na, ra⟩ := id r1
      have hl := ra.length
      have hne : vs ≠ [] := fun z => by
        rw [z] at hl
        exact h.1 (List.eq_nil_of_length_eq_zero (by simp at hl; omega))
      refine op_repK pins s σ _ _ _ v u Q I rx ry ⟨a, k, vs, rfl, rfl, .inl (.inr ⟨o, ta⟩), hne, by omega, h.2.2.1, by rw [hl]; exact h.2.2.2, fun q o hd hq => ?_⟩
      exact new_tuk p G rs (ra.rep _) q o hd hq
    · exact p.elim
  · exact p.elim
end
end J
set_option Elab.async false
set_option linter.all false
set_option maxRecDepth 100000
set_option maxHeartbeats 1000000
namespace J
open PySem PySem.Spec PyProof.Rows L2
open PySem.W (alike alikeAll dataLt keyToks keyToksAll dataLe EachIs)
theorem keys_rd {g : G} {w : W} (G0 : Good w) : ∀ {ks : List (List Ky)} {us : List V} {bs : List Addr}, ks.length = us.length → IsKeys w.H (ks.zip us) bs → RDs g w (ks.map tupK) (bs.map V.ref)
  | [], _, bs, _, h => by
    unfold IsKeys at h
    cases h
    rfl
  | k :: ks, [], _, l, _ => by simp at l
  | k :: ks, u :: us, bs, l, h => by
    unfold IsKeys at h
    cases h with
    | cons h1 h2 =>
      refine RDs.cons ⟨_, _, rfl, ⟨h1, fun z => G0.nt _ z _ h1⟩, kDs_rd k⟩ (keys_rd G0 (by simpa using l) h2)
section
variable {X : Cx}
theorem jc_listT (hc : X.calm = true) : CallR X (.type "list") (argOf X.g bListT) := by
  intro pins s σ H xs us Q I r ⟨Wx, σ', w, S, ds, hH, G, rs, r1, p⟩
  subst hH
  unfold bListT at p
  split at p
  · obtain ⟨v, rfl, r2⟩ := r1.one'
    split at p
    · rename_i ks ds e
      split at p
      · obtain ⟨a, vs, rfl, t, l, r3⟩ := r2.dctTAt rs e
        refine call_list_dT hc pins s σ _ _ us Q I r ⟨a, _, rfl, t, fun q bs hq hk => ?_⟩
        exact new_lst p G rs (keys_rd G l hk) q hq
      · exact p.elim
    · exact p.elim
  · exact p.elim
end
section
variable {prog : Program} {w : World} {A : Around} {E : Value → Shared → Prop} {s : Shared} {T : String} {r d : Addr} {n : Nat} {P : Nat → Value → Prop} {OK : Heap → Prop} {Q : Value → Shared → Prop}
theorem call_sorted_src (K : PySem.W.KdlSrc prog w T r d n P OK) (hh : A.handled = none) (hok : OK s.heap) (hn : n ≤ sizeLine)
    (h : ∀ (h' : Heap) (tk : Nat) (vs : List Value), (∀ b o, s.heap.get? b = some o → h'.get? b = some o) → vs.length = n → (∀ (j : Nat) (v : Value), vs[j]? = some v → P j v) →
      wpAny (model prog w) A.in1 (PySem.call (.builtin "list.sort") [.ref h'.objs.size]) (fun _ s' => Q (.ref h'.objs.size) s') E { s with heap := h'.push { cls := .type "list", data := .seq vs.toArray }, toks := tk }) :
    wpAny (model prog w) A (PySem.call (.builtin "sorted") [.ref r]) Q E s := by
  refine Calls.call_function_entry kind_sorted plain_sorted entry_sorted (args_sorted1 _) ?_
  unfold Builtin.«sorted»
  refine wpAny_bind (m := checkCount "sorted" 1 1 _) (wpAny_pure ?_)
  refine wpAny_bind (PySem.W.kdu_collect (A := A.in1) K hh hok hn fun h' tk acc hk hacc => ?_)
  have hl : acc.toList.length = n := by rw [Array.length_toList]; exact hacc.1
  refine wpAny_bind (wpAny_newList ?_ (by rw [hl]; exact hn))
  have hg := h h' tk acc.toList hk hl (fun j v e => hacc.2 j v (by rw [← Array.getElem?_toList]; exact e))
  refine wpAny_bind (wpAny_holding (wpAny_mono hg (fun _ s' x => ?_) fun _ _ e => e))
  exact wpAny_pure ⟨_, rfl, x⟩
end

/-! sorted(d.keys()), the keys tuples, d an object of the heap -/
section
variable {X : Cx} {pins : List (Addr × Obj)} {σ : L2.St} {H : Hp} {s : Shared}
theorem sortT_run {g : G} {w : W} {d : Addr} {ks : List (List Ky)} {vs : List V} {Q : VK} {v : Addr} (hg : X.g = g) (hu : X.A.units + 64 < cLine) (hh : X.A.handled = none) (I : Inv X pins σ w.H s) (G0 : Good w) (hd : Rd w.H d (.dT (ks.zip vs))) (l : ks.length = vs.length)
    (hv : PySem.W.KdlKeysView s.heap v d) (ok : okSort (ks.map tupK) = true)
    (fin : ∀ (q : Addr) (ys : List V), RDs g w (sortD (ks.map tupK)) ys → w.H q = none → Q (.ref q) (upd w.H q (.lst ys))) :
    wpAny (model X.prog X.w) X.A (PySem.call (.builtin "sorted") [.ref v]) (fun u s' => ∃ x H1, Inv X pins σ H1 s' ∧ RelV x u ∧ Q x H1) X.xe s := by
  obtain ⟨z, hs, xs, pr, o, es, ep, ho, hx, hdt, he, hn⟩ := (show ObjOk X.prog X.w w.H s.heap d (.dT (ks.zip vs)) from hd.ok I.hok)
  have l1 : es.size = xs.length := size_of_entries he
  have l2 : (ks.zip vs).length = xs.length := Paired.length pr
  have l3 : (ks.zip vs).length = ks.length := by simp; omega
  have hz : es.size ≤ sizeLine := by omega
  refine call_sorted_src (PySem.KdlSrc.rawKeys (prog := X.prog) (w := X.w) (r := v) (d := d) (es := es) (ep := ep)) hh ⟨hv, ⟨o, ho, hx, hdt⟩⟩ hz fun h' tk us kp hl hus => ?_
  have eb : us = (xs.map fun x => x.2.1).map Value.ref := by
    rw [List.map_map]
    apply List.ext_getElem?
    intro j
    rw [List.getElem?_map]
    cases hj : us[j]? with
    | none =>
      have h1 := List.getElem?_eq_none_iff.mp hj
      rw [List.getElem?_eq_none (by omega)]
      all_goals rfl
    | some u =>
      obtain ⟨hi, hv⟩ := hus j u hj
      have qe := entry_at he j
      have hen : es[j]? = some es[j] := Array.getElem?_eq_getElem hi
      rw [hen] at qe
      cases hb : xs[j]? with
      | none =>
        rw [hb] at qe
        exact nomatch (show some es[j] = none from qe)
      | some b =>
        rw [hb] at qe
        have e2 : es[j] = entryOfKey (tupleKind (mixKind X.prog X.w)) b := Option.some.inj qe
        rw [hv, e2]
        all_goals rfl
  have rv : Vals ((xs.map fun x => x.2.1).map V.ref) us := by rw [eb]; exact vals_refs _
  have rds : RDs g w (ks.map tupK) ((xs.map fun x => x.2.1).map V.ref) := keys_rd G0 l (isKeys_of pr)
  have I1 : Inv X pins σ w.H { s with heap := h', toks := tk } := I.kept kp
  have hlen : us.length = (ks.map tupK).length := by rw [List.length_map]; omega
  have hz' : us.length ≤ sizeLine := by omega
  have ho' : (h'.push { cls := .type "list", data := .seq us.toArray }).get? h'.objs.size = some (seqObj "list" us.toArray 0) := Heap.get?_push_size _ rfl
  have fin2 : ∀ (out : List Value) (ys : List V), RDs g w (sortD (ks.map tupK)) ys → Vals ys out →
      ∃ x H1, Inv X pins σ H1 { s with heap := sortedHeap (h'.push { cls := .type "list", data := .seq us.toArray }) h'.objs.size us out.toArray, toks := tk } ∧ RelV x (Value.ref h'.objs.size) ∧ Q x H1 := fun out ys r4 v4 => by
    have hf := I1.hok.fresh (Nat.le_refl _)
    have kp2 : ∀ b o, h'.get? b = some o → (sortedHeap (h'.push { cls := .type "list", data := .seq us.toArray }) h'.objs.size us out.toArray).get? b = some o := fun b o e => by
      have hlt := Heap.lt_size e
      rw [sortedHeap_old (Nat.ne_of_lt hlt) (by rw [size_push']; exact Nat.lt_succ_of_lt hlt)]
      exact Heap.get?_push_of_some _ e
    obtain ⟨n, hn⟩ := sortedHeap_at (vs := us) (out := out.toArray) ho'
    refine ⟨.ref h'.objs.size, upd w.H h'.objs.size (.lst ys), I1.laid (t' := tk) kp2 (Nat.le_refl _) ⟨?_, out, n, v4, hn⟩, rfl, fin _ ys r4 hf⟩
    rw [r4.length, (sortD_perm _).length_eq, ← hlen]
    exact hz'
  by_cases h2 : us.length < 2
  · refine PySem.wpAny_call_entry slot_list_sort ⟨_, ho', rfl⟩ entry_list_sort (Srt.list_sort_any ho' hz' (fun h => by omega) fun out hp => ⟨.none, rfl, ?_⟩) (args_list_sort _)
    have eo : out = us := short_out h2 hp
    rw [eo]
    have es : sortD (ks.map tupK) = ks.map tupK := by
      generalize ks.map tupK = ys at hlen
      match ys, hlen with
      | [], _ => rfl
      | [x], _ => rfl
      | _ :: _ :: _, h => simp at h; omega
    exact fin2 us _ (by rw [es]; exact rds) rv
  · have so : SOk (ks.map tupK) := by
      generalize ks.map tupK = ys at hlen ok
      match ys, hlen, ok with
      | [], h, _ => have : us.length = 0 := h; omega
      | [x], h, _ => have : us.length = 1 := h; omega
      | x :: y :: zs, _, ok => exact okSort_two ok
    have ee := std_each rds rv
    have er := std_reads (X := X) hg I1 so.cmp ee
    have er' : EachIs (fun v b => ∃ as, Reads (PySem.W.sortingHeap (h'.push { cls := .type "list", data := .seq us.toArray }) h'.objs.size us) v (D.py b) as) us (ks.map tupK) :=
      er.mono fun _ _ ⟨as, r⟩ => ⟨as, PyProof.Rows.Reads.keeps (fun b o e => PySem.W.sortingHeap_old (Nat.ne_of_lt (Heap.lt_size e)) (Heap.get?_push_of_some _ e)) r⟩
    have hal : PySem.W.AllAlike ((ks.map tupK).map D.py) := fun d hd d' hd' => by
      obtain ⟨b, hb, rfl⟩ := List.mem_map.mp hd
      obtain ⟨b', hb', rfl⟩ := List.mem_map.mp hd'
      exact so.alk b hb b' hb'
    refine PySem.wpAny_call_entry slot_list_sort ⟨_, ho', rfl⟩ entry_list_sort (PySem.W.list_sort_vals (κ := PySem.W.dataKind (PySem.W.sortingHeap (h'.push { cls := .type "list", data := .seq us.toArray }) h'.objs.size us) ((ks.map tupK).map D.py)) ho' (PySem.W.SortsAt.data (PySem.W.each_map (R := fun v d => ∃ as, Reads (PySem.W.sortingHeap (h'.push { cls := .type "list", data := .seq us.toArray }) h'.objs.size us) v d as) D.py er') hal so.srt (PySem.W.bound_map fun b hb => ?_)) hz' ⟨.none, rfl, ?_⟩) (args_list_sort _)
    · rw [py_depth b (so.cmp b hb)]
      have := so.dep b hb
      show X.A.in1.in1.units + b.depth < cLine
      have e1 : X.A.in1.in1.units = X.A.units + 2 := rfl
      omega
    · have eo := PySem.W.sortVals_data (h' := PySem.W.sortingHeap (h'.push { cls := .type "list", data := .seq us.toArray }) h'.objs.size us) (R := Std g w) (enc := D.py) false ee er' hal
      rw [merge_eq so] at eo
      obtain ⟨ys, r4, v4⟩ := each_std eo
      exact fin2 _ ys r4 v4
end
section
variable {X : Cx} {Wx : WX}
theorem de_sortT {e : Expr} {ma : ME} {p apos cpos pos : Pos} (hc : X.calm = true) (hu : X.A.units + 64 < cLine) (hg : Gl X "sorted") (hm : X.mg "sorted" = none) (he : PE X e (TEof X.g Wx ma))
    (hbase : attributeBase e "keys" X.env (eval e X.env) = eval e X.env := by rfl) (hline : (apos.endLine == cpos.line) = true := by rfl)
    (na : starEach [.Call (.Attribute e "keys" apos) [] [] cpos] X.env = (false, eval (.Call (.Attribute e "keys" apos) [] [] cpos) X.env) :: starEach [] X.env := by rfl) (hpl : (backTo pos (starEach [] X.env)).any (·.1) = false := by rfl) :
    PE X (.Call (.Name "sorted" p) [.Call (.Attribute e "keys" apos) [] [] cpos] [] pos) (TEof X.g Wx (eSortT ma)) := by
  refine ⟨fun pins s σ H Q I ⟨w, E, S, a, p⟩ => ?_⟩
  refine wpAny_Call_Name_kw (ld_blt I hg hm (u := .builtin "sorted") (by decide +kernel) ?_)
  refine PyProof.Rows.callWith_builtin1 (args_cons ?_ na) na hpl
  refine wpAny_Call_method (T := "dict") (id := "dict.keys") hbase rfl hline F.plainAttrs_dict F.slot_dict_keys F.type_dict_keys (thn (he.run pins s σ H _ I ⟨w, E, S, a, PR.bind a.good a.env p⟩) fun u s1 ⟨x, H1, I1, rx, w1, d, S1, a1, x1, r1, p1⟩ => ?_)
  unfold kSortT at p1
  split at p1
  · rename_i ks ds e1
    split at p1
    · rename_i ok
      obtain ⟨b, vs, rfl, t, l, r3⟩ := r1.dctTAt a1.sto e1
      obtain rfl : u = Value.ref b := rx
      obtain rfl := a1.hp
      obtain ⟨z, hs, xs, pr, o, es, ep, ho, hx, hdt, _⟩ := (show ObjOk X.prog X.w w1.H s1.heap b (.dT (ks.zip vs)) from t.ok I1.hok)
      have raw : s1.heap.DictRaw b es ep := ⟨o, ho, hx, hdt⟩
      refine ⟨raw.typeIs, fun a ea => ⟨o, by cases ea; exact ho, hx.2.1⟩, ?_⟩
      have I2 : Inv X pins σ w1.H { s1 with heap := s1.heap.push { cls := .type "dict_keys", data := .fields #[.ref b] } } := I1.kept (t' := s1.toks) fun b ob q => Heap.get?_push_of_some _ q
      show wpAny _ _ (callWith cpos (.builtin "dict.keys") [.ref b] [] []) _ X.xe s1
      refine method_meetsIn F.slot_dict_keys F.entry_dict_keys rfl (PySem.evalArgs_none ⟨rfl, raw.typeIs, F.args_dict_keys_1 _, _, PySem.meets_dict_keys_raw b hs, ⟨es, ep, raw⟩, ?_⟩)
      refine args_nil ?_
      refine sortT_run (g := X.g) rfl hu (I.ok.hd hc) I2 a1.good t l ⟨_, Heap.get?_push_size _ rfl, rfl, rfl⟩ ok fun q ys r4 hq => ?_
      exact new_lst p1 a1.good a1.sto r4 q hq
    · exact p1.elim
  · exact p1.elim
end
section
variable {X : Cx}
theorem jc_lenT : CallR X (.builtin "len") (argOf X.g bLenT) := by
  intro pins s σ H xs us Q I r ⟨Wx, σ', w, S, ds, hH, G, rs, r1, p⟩
  subst hH
  unfold bLenT at p
  split at p
  · obtain ⟨v, rfl, r2⟩ := r1.one'
    split at p
    · rename_i ks ds e
      obtain ⟨a, rfl, hb⟩ := r2
      obtain ⟨vs, t, l, r4⟩ := rs.obj hb e
      have e2 : (ks.zip vs).length = ks.length := by simp; omega
      refine call_len_dT pins s σ _ _ us Q I r ⟨a, _, rfl, t, ?_⟩
      rw [e2]
      exact putSame p G rs rfl
    · exact p.elim
  · exact p.elim
end
end J
set_option Elab.async false
set_option linter.all false
set_option maxRecDepth 100000
set_option maxHeartbeats 1000000
namespace J
open PySem PySem.Spec PyProof.Rows L2
theorem goneF_some {n : Nat} {S : List D} {d0 d : D} (h : goneF n S (some d0) = some d) : (d0 = d ∧ d0.flat = true) ∨ (∃ m, d0 = .loc m ∧ d = .loc m ∧ m < n) ∨ ∃ m, d0 = .loc m ∧ n ≤ m ∧ S[m]? = some d ∧ d.flat = true := by
  unfold goneF at h
  simp only at h
  split at h
  · rename_i hf
    cases h
    exact .inl ⟨rfl, hf⟩
  · split at h
    · rename_i m _
      split at h
      · rename_i hm
        cases h
        exact .inr (.inl ⟨_, rfl, rfl, hm⟩)
      · rename_i hm
        split at h
        · rename_i o ho
          split at h
          · rename_i hf
            cases h
            exact .inr (.inr ⟨_, rfl, by omega, ho, hf⟩)
          · cases h
        · cases h
    · cases h
theorem gcF_ok {g : G} {w2 w4 : W} {σ : L2.St} {E3 E4 : Env} {S3 S4 : List D} {n : Nat} (h : gcF n E3 S3 = some (E4, S4)) (G2 : Good w2) (G4 : Good w4) (re : RE g w4 E3 σ) (rs : RS g w4 S3) (x : Ext w2 w4) (hn : w2.rhA.length = n) :
    ∃ w5, At g w5 E4 σ w4.H S4 ∧ Ext w2 w5 ∧ S4.length = n := by
  unfold gcF at h
  split at h
  · rename_i hl
    cases h
    exact ⟨w4, ⟨rfl, G4, re, rs⟩, x, hl⟩
  · split at h
    · rename_i hh
      cases h
      obtain ⟨τ, e1, f1⟩ := x.rho
      have et : w4.rhA.take n = w2.rhA := by rw [e1, List.take_append_of_le_length (Nat.le_of_eq hn.symm), List.take_of_length_le (Nat.le_of_eq hn)]
      have k : Weak w4 ⟨w2.thA, w4.rhA.take n, w4.H⟩ := weak_take rfl fun a z => x.th1 a z
      refine ⟨⟨w2.thA, w4.rhA.take n, w4.H⟩, ⟨rfl, ⟨(List.take_sublist n w4.rhA).nodup G4.nd, fun a ha => G2.sub a (by rw [← et]; exact ha), fun a ha => x.al a (G2.al a ha), fun a ha => G4.nt a (x.th1 a ha)⟩, ⟨by simp [re.1], fun i d e => ?_⟩, take_store k rfl rfl hh.1 hh.2 rs⟩, ⟨⟨[], ?_, by simp⟩, fun _ z => z, fun _ z => .inl z, x.kp, x.al⟩, by rw [List.length_take]; omega⟩
      · rw [List.getElem?_map] at e
        cases q : E3[i]? with
        | none => rw [q] at e; cases e
        | some od =>
          rw [q] at e
          cases od with
          | none => cases e
          | some d0 =>
            have e2 : goneF n S3 (some d0) = some d := Option.some.inj e
            obtain ⟨v, h1, h2⟩ := re.2 i d0 q
            refine ⟨v, h1, ?_⟩
            rcases goneF_some e2 with ⟨rfl, hf⟩ | ⟨m, rfl, rfl, hm⟩ | ⟨m, rfl, hm, ho, hf⟩
            · exact RD.flatW k _ _ hf h2
            · obtain ⟨a, ea, ha⟩ := h2
              exact ⟨a, ea, by show (w4.rhA.take n)[m]? = some a; rw [List.getElem?_take_of_lt hm]; exact ha⟩
            · obtain ⟨a, ea, ha⟩ := h2
              have ro := rs.obj ha ho
              have na : ¬ w2.thA a := fun z => by
                have hm2 : a ∈ τ := by
                  rw [e1, List.getElem?_append_right (by omega)] at ha
                  exact List.mem_of_getElem? ha
                exact G2.al a z (f1 a hm2)
              cases d <;> try exact ro.elim
              · obtain ⟨vs, t, r⟩ := ro
                exact ⟨a, vs, ea, t, na, RDs.flatW k _ _ hf r⟩
              · obtain ⟨vs, t, l, r⟩ := ro
                exact ⟨a, vs, ea, .inl t, l, na, RDs.flatW k _ _ hf r⟩
              · obtain ⟨vs, t, l, r⟩ := ro
                exact ⟨a, vs, ea, .inl t, l, na, RDs.flatW k _ _ hf r⟩
      · show w4.rhA.take n = w2.rhA ++ []
        rw [et, List.append_nil]
    · cases h
section
variable {X : Cx} {Wx : WX} {pos : Pos}
theorem ds_forF {tg iter : Expr} {body : List Stmt} {mi : MI} {t : Tg} {mb : MS} (hp : PassesOwn (model X.prog X.w) X.A X.env X.xe) (hc : X.calm = true) (hi : PI X tg iter (TIof X.g Wx mi)) (hg : PG X tg (TGof X.g t)) (hb : PSs X body (TSof X.g Wx mb))
    (hs : ∀ x, foldedSetIterable iter X.env x = pure x := by intro _; rfl) : PS X (.For tg iter body [] pos) (TSof X.g Wx (sForF t mi mb)) := by
  refine psImp (ps_for hp hc hi hg hb hs) fun D σ H ⟨w, E, S, a, p⟩ => ⟨w, E, S, a, ?_⟩
  unfold sForF at p
  cases hm : mi E S with
  | bad => rw [hm] at p; exact p.elim
  | exc c fs S1 =>
    rw [hm] at p
    exact fun cls dx w' x G' rx rs => p cls dx σ w' x G' rx (a.env.mono a.good x) rs
  | ok src S1 =>
    rw [hm] at p
    intro J0 w1 x1 G1 it rs1
    have p1 : PO_ X.g Wx D w1 (forGoF src t mb S1.length src.len 0 E S1) := p.at x1
    have hn : w1.rhA.length = S1.length := rs1.1.symm
    refine ⟨fun i k σ H => ∃ w2 E2 S2, At X.g w2 E2 σ H S2 ∧ Ext w1 w2 ∧ i + k = src.len ∧ S2.length = S1.length ∧ PO_ X.g Wx D w2 (forGoF src t mb S1.length k i E2 S2),
      ⟨src.len, w1, E, S1, ⟨rfl, G1, a.env.mono a.good x1, rs1⟩, Ext.refl _, by omega, rfl, p1⟩, ?_⟩
    rintro i k σ H ⟨w2, E2, S2, a2, x2, hik, hl2, p2⟩
    have hn2 : w2.rhA.length = S1.length := by rw [← a2.sto.1]; exact hl2
    cases k with
    | zero =>
      simp only [forGoF] at p2
      split at p2
      · rename_i al
        have hi : i = src.len := by omega
        subst hi
        refine .inl ⟨?_, ?_⟩
        · rw [← a2.hp]
          exact it.stop w2 S2 x2 a2.sto al
        · have := p2 σ w2 (Ext.refl _) a2.good a2.env a2.sto
          rw [a2.hp] at this
          exact this
      · exact p2.elim
    | succ k =>
      simp only [forGoF] at p2
      split at p2
      · rename_i al
        split at p2
        · exact p2.elim
        · rename_i d hd
          split at p2
          · exact p2.elim
          · rename_i E1 hE
            have hlt : i < src.len := by omega
            refine .inr ⟨by rw [← a2.hp]; exact it.go i w2 S2 d x2 a2.sto al hd hlt, fun σ' H' => ∃ w2 E2 S2, At X.g w2 E2 σ' H' S2 ∧ Ext w1 w2 ∧ (i + 1) + k = src.len ∧ S2.length = S1.length ∧ PO_ X.g Wx D w2 (forGoF src t mb S1.length k (i + 1) E2 S2), fun σ' H' hN => ⟨k, Nat.lt_succ_self k, hN⟩, fun x H' hy => ?_⟩
            rw [← a2.hp] at hy
            obtain ⟨w3, eH, x3, G3, _, _, r3, rs3⟩ := it.yld i w2 S2 d x H' x2 a2.good a2.sto al hd hlt hy
            refine ⟨w3, E2, S2, d, E1, ⟨eH, G3, a2.env.mono a2.good x3, rs3⟩, r3, hE, fun σ' re _ _ => ⟨w3, E1, S2, ⟨eH, G3, re, rs3⟩, ?_⟩⟩
            have p3 := p2.at x3
            have again : ∀ {E3 : Env} {S3 : List J.D}, PO_ X.g Wx D w3 (match gcF S1.length E3 S3 with | some (E3, S3) => forGoF src t mb S1.length k (i + 1) E3 S3 | none => O.bad) → ∀ σ' w4, Ext w3 w4 → Good w4 → RE X.g w4 E3 σ' → RS X.g w4 S3 →
                ∃ w2 E2 S2, At X.g w2 E2 σ' w4.H S2 ∧ Ext w1 w2 ∧ (i + 1) + k = src.len ∧ S2.length = S1.length ∧ PO_ X.g Wx D w2 (forGoF src t mb S1.length k (i + 1) E2 S2) := fun {E3 S3} q σ' w4 x4 G4 re4 rs4 => by
              split at q
              · rename_i E4 S4 hgc
                have hn3 : w3.rhA.length = S1.length := by rw [← rs3.1]; exact hl2
                obtain ⟨w5, a5, x5, l5⟩ := gcF_ok hgc G3 G4 re4 rs4 x4 hn3
                exact ⟨w5, E4, S4, a5, x2.trans (x3.trans x5), by omega, l5, q.at x5⟩
              · exact q.elim
            cases hbd : mb E1 S2 with
            | nx E3 S3 => rw [hbd] at p3; exact again p3
            | ct E3 S3 => rw [hbd] at p3; exact again p3
            | bk E3 S3 => rw [hbd] at p3; exact p3
            | rt d S3 => rw [hbd] at p3; exact p3
            | exc c fs E3 S3 => rw [hbd] at p3; exact p3
            | bad => rw [hbd] at p3; exact p3
      · exact p2.elim
theorem ds_whileF {c : Expr} {body : List Stmt} {mt : MT} {mb : MS} {fuel : Nat} (hp : PassesOwn (model X.prog X.w) X.A X.env X.xe) (hc : PT X c (TTof X.g Wx mt)) (hb : PSs X body (TSof X.g Wx mb)) : PS X (.While c body [] pos) (TSof X.g Wx (sWhileF fuel mt mb)) := by
  refine psImp (ps_while hp hc hb) fun D σ H ⟨w, E, S, a, p⟩ => ?_
  unfold sWhileF at p
  have hn : w.rhA.length = S.length := a.sto.1.symm
  refine ⟨fun k σ H => ∃ w2 E2 S2, At X.g w2 E2 σ H S2 ∧ Ext w w2 ∧ S2.length = S.length ∧ PO_ X.g Wx D w2 (whileGoF mt mb S.length k E2 S2), ⟨fuel, w, E, S, a, Ext.refl _, rfl, p⟩, ?_⟩
  rintro k σ H ⟨w2, E2, S2, a2, x2, hl2, p2⟩
  have hn2 : w2.rhA.length = S.length := by rw [← a2.sto.1]; exact hl2
  cases k with
  | zero => exact p2.elim
  | succ k =>
    simp only [whileGoF] at p2
    refine ⟨w2, E2, S2, a2, ?_⟩
    cases hmt : mt E2 S2 with
    | bad => rw [hmt] at p2; exact p2.elim
    | exc c fs S1 =>
      rw [hmt] at p2
      exact fun cls dx w' x G' rx rs => p2 cls dx σ w' x G' rx (a2.env.mono a2.good x) rs
    | ok c S3 =>
    rw [hmt] at p2
    simp only [tO_ok] at p2
    intro b w3 x3 G3 rb rs3
    obtain rfl : c = b := rb
    cases c with
    | false =>
      rw [if_neg Bool.false_ne_true] at p2 ⊢
      exact p2 σ w3 x3 G3 (a2.env.mono a2.good x3) rs3
    | true =>
      rw [if_pos rfl] at p2 ⊢
      refine ⟨fun σ' H' => ∃ w2 E2 S2, At X.g w2 E2 σ' H' S2 ∧ Ext w w2 ∧ S2.length = S.length ∧ PO_ X.g Wx D w2 (whileGoF mt mb S.length k E2 S2), fun σ' H' hN => ⟨k, Nat.lt_succ_self k, hN⟩, w3, E2, S3, ⟨rfl, G3, a2.env.mono a2.good x3, rs3⟩, ?_⟩
      have again : ∀ {E3 : Env} {S4 : List J.D}, PO_ X.g Wx D w2 (match gcF S.length E3 S4 with | some (E3, S3) => whileGoF mt mb S.length k E3 S3 | none => O.bad) → ∀ σ' w4, Ext w3 w4 → Good w4 → RE X.g w4 E3 σ' → RS X.g w4 S4 →
          ∃ w2 E2 S2, At X.g w2 E2 σ' w4.H S2 ∧ Ext w w2 ∧ S2.length = S.length ∧ PO_ X.g Wx D w2 (whileGoF mt mb S.length k E2 S2) := fun {E3 S4} q σ' w4 x4 G4 re4 rs4 => by
        split at q
        · rename_i E5 S5 hgc
          obtain ⟨w5, a5, x5, l5⟩ := gcF_ok hgc a2.good G4 re4 rs4 (x3.trans x4) hn2
          exact ⟨w5, E5, S5, a5, x2.trans x5, l5, q.at x5⟩
        · exact q.elim
      cases hbd : mb E2 S3 with
      | nx E3 S3 => rw [hbd] at p2; exact again p2
      | ct E3 S3 => rw [hbd] at p2; exact again p2
      | bk E3 S3 => rw [hbd] at p2; exact p2.at x3
      | rt d S3 => rw [hbd] at p2; exact p2.at x3
      | exc c fs E3 S3 => rw [hbd] at p2; exact p2.at x3
      | bad => rw [hbd] at p2; exact p2
end
end J
set_option linter.all false
set_option maxRecDepth 100000
namespace K16
open J PySem
def C1_p_law_alike (R : MF) : MT :=
  (tNot (tTr (eArgs (callF R) (aCons (eOp oIx (eVar 0) (eVar 2)) (aCons (eOp oIx (eVar 1) (eVar 2)) aNil)))))
def V2_p_law_alike (R : MF) : ME :=
  (eVar 2)
def S_p_law_alike (R : MF) : MS :=
  (sSeq (sIf (tTr (eUn (oIsi ["tuple", "list"]) (eVar 1))) (sSeq (sIf (tOr (tNot (tTr (eUn (oIsi ["tuple", "list"]) (eVar 0)))) (tV (eOp oNe (eUn (oIsi ["list"]) (eVar 0)) (eUn (oIsi ["list"]) (eVar 1))))) (sRet (eC (.bl false))) sNext)
    (sSeq (sIf (tV (eOp oNe (eArgs bLen (aCons (eVar 0) aNil)) (eArgs bLen (aCons (eVar 1) aNil)))) (sRet (eC (.bl false))) sNext)
    (sRet (eOp oEq (eLc [2] (.nm 2) (iRng1 (eArgs bLen (aCons (eVar 1) aNil))) (C1_p_law_alike R) (V2_p_law_alike R)) (eArgs bLst aNil))))) sNext)
    (sSeq (sIf (tOr (tV (eUn oIsN (eVar 1))) (tTr (eUn (oIsi ["str"]) (eVar 1)))) (sRet (eAnd (eOp oEq (eVar 0) (eVar 1)) (eOp oEq (eUn (oIsi ["str"]) (eVar 0)) (eUn (oIsi ["str"]) (eVar 1))))) sNext)
    (sRet (eAnd (eUn (oIsi ["int"]) (eVar 0)) (eAnd (eOp oEq (eUn (oIsi ["bool"]) (eVar 0)) (eUn (oIsi ["bool"]) (eVar 1))) (eOp oEq (eVar 0) (eVar 1)))))))
def F_p_law_alike : Nat → MF
  | 0 => fnF 2 3 sNever
  | k + 1 => fnF 2 3 (S_p_law_alike (F_p_law_alike k))

def S_p_law_taken : MS :=
  (sSeq (sIf (tV (eOp oGt (eOp oIx (eVar 0) (eC (.int 3))) (eC (.int 0)))) (sSeq (sSet 2 (eOp oMod (eArgs bInt (aCons (eOp oIx (eVar 0) (eC (.int 3))) aNil)) (eVar 1)))
    (sSeq (sPut (eVar 0) (eC (.int 3)) (eOp oDiv (eOp oIx (eVar 0) (eC (.int 3))) (eVar 1)))
    (sRet (eVar 2)))) sNext)
    (sSeq (sPut (eVar 0) (eC (.int 1)) (eOp oAdd (eOp oIx (eVar 0) (eC (.int 1))) (eC (.int 1))))
    (sSeq (sIf (tV (eOp oGt (eOp oIx (eVar 0) (eC (.int 1))) (eArgs bLen (aCons (eOp oIx (eVar 0) (eC (.int 0))) aNil)))) (sSeq (sPut (eVar 0) (eC (.int 2)) (eOp oMod (eArgs bInt (aCons (eOp oAdd (eOp oMul (eOp oIx (eVar 0) (eC (.int 2))) (eC (.int 48271))) (eC (.int 11))) aNil)) (eC (.int 2147483647))))
    (sRet (eOp oMod (eArgs bInt (aCons (eOp oDiv (eOp oIx (eVar 0) (eC (.int 2))) (eC (.int 7))) aNil)) (eVar 1)))) sNext)
    (sSeq (sSet 3 (eOp oIx (eOp oIx (eVar 0) (eC (.int 0))) (eOp oSub (eOp oIx (eVar 0) (eC (.int 1))) (eC (.int 1)))))
    (sSeq (sPut (eVar 0) (eC (.int 2)) (eOp oMod (eArgs bInt (aCons (eOp oAdd (eOp oAdd (eOp oMul (eOp oIx (eVar 0) (eC (.int 2))) (eC (.int 48271))) (eVar 3)) (eC (.int 11))) aNil)) (eC (.int 2147483647))))
    (sSeq (sIf (tV (eOp oGe (eVar 3) (eOp oPow (eC (.int 10)) (eC (.int 18))))) (sPut (eVar 0) (eC (.int 3)) (eOp oDiv (eVar 3) (eVar 1))) sNext)
    (sRet (eOp oMod (eArgs bInt (aCons (eVar 3) aNil)) (eVar 1)))))))))
def F_p_law_taken : MF := fnF 2 4 S_p_law_taken

def B1_p_law_any : MS :=
  (sExpr (eMeth mAppend (eVar 2) (aCons (eArgs bTup (aCons (eArgs (callF F_p_law_taken) (aCons (eVar 0) (aCons (eVar 1) aNil))) (aCons (eArgs (callF F_p_law_taken) (aCons (eVar 0) (aCons (eVar 1) aNil))) (aCons (eOp oAdd (eC (.int 1)) (eArgs (callF F_p_law_taken) (aCons (eVar 0) (aCons (eC (.int 3)) aNil)))) (aCons (eOp oAdd (eC (.int 1)) (eArgs (callF F_p_law_taken) (aCons (eVar 0) (aCons (eC (.int 3)) aNil)))) (aCons (eArgs (callF F_p_law_taken) (aCons (eVar 0) (aCons (eC (.int 6)) aNil))) aNil)))))) aNil)))
def S_p_law_any : MS :=
  (sSeq (sSet 1 (eOp oAdd (eC (.int 1)) (eArgs (callF F_p_law_taken) (aCons (eVar 0) (aCons (eC (.int 5)) aNil)))))
    (sSeq (sSet 2 (eArgs bLstL aNil))
    (sSeq (sFor (.nm 3) (iRng1 (eArgs (callF F_p_law_taken) (aCons (eVar 0) (aCons (eC (.int 7)) aNil)))) B1_p_law_any)
    (sRet (eArgs bTup (aCons (eVar 1) (aCons (eArgs bTuple (aCons (eVar 2) aNil)) aNil)))))))
def F_p_law_any : MF := fnF 1 4 S_p_law_any

def C1_p_law_can : MT :=
  (tAnd (tV (eOp oEq (eOp oIx (eOp oIx (eOp oIx (eVar 0) (eC (.int 1))) (eVar 3)) (eC (.int 1))) (eVar 2))) (tV (eOp oGt (eOp oIx (eOp oIx (eOp oIx (eVar 0) (eC (.int 1))) (eVar 3)) (eC (.int 3))) (eOp oIx (eVar 1) (eVar 3)))))
def V2_p_law_can : ME :=
  (eVar 3)
def S_p_law_can : MS :=
  (sRet (eOp oEq (eLc [3] (.nm 3) (iRng1 (eArgs bLen (aCons (eVar 1) aNil))) C1_p_law_can V2_p_law_can) (eArgs bLst aNil)))
def F_p_law_can : MF := fnF 3 4 S_p_law_can

def B1_p_law_gcd : MS :=
  (sPar [0, 1] (aCons (eVar 1) (aCons (eOp oMod (eArgs bInt (aCons (eVar 0) aNil)) (eVar 1)) aNil)))
def C2_p_law_gcd : MT :=
  (tV (eOp oNe (eVar 1) (eC (.int 0))))
def S_p_law_gcd : MS :=
  (sSeq (sPar [0, 1] (aCons (eArgs bAbs (aCons (eVar 0) aNil)) (aCons (eArgs bAbs (aCons (eVar 1) aNil)) aNil)))
    (sSeq (sWhile 1000000 C2_p_law_gcd B1_p_law_gcd)
    (sRet (eVar 0))))
def F_p_law_gcd : MF := fnF 2 2 S_p_law_gcd

def S_p_law_pick : MS :=
  (sRet (eOp oIx (eVar 1) (eArgs (callF F_p_law_taken) (aCons (eVar 0) (aCons (eArgs bLen (aCons (eVar 1) aNil)) aNil)))))
def F_p_law_pick : MF := fnF 2 2 S_p_law_pick

def V1_p_law_flow : ME :=
  (eOp oAdd (eC (.int 1)) (eArgs (callF F_p_law_taken) (aCons (eVar 0) (aCons (eArgs (callF F_p_law_pick) (aCons (eVar 0) (aCons (eArgs bLst (aCons (eC (.int 1)) (aCons (eC (.int 3)) (aCons (eC (.int 4)) aNil)))) aNil))) aNil))))
def B2_p_law_flow : MS :=
  (sIf (tV (eOp oGt (eArgs (callF F_p_law_taken) (aCons (eVar 0) (aCons (eC (.int 8)) aNil))) (eC (.int 0)))) (sSeq (sSet 8 (eArgs bTup (aCons (eIf (tV (eOp oEq (eVar 4) (eC (.int 0)))) (eOp oSub (eVar 7) (eC (.int 1))) (eArgs (callF F_p_law_taken) (aCons (eVar 0) (aCons (eVar 7) aNil)))) (aCons (eVar 7) aNil))))
    (sExpr (eMeth mAppend (eVar 5) (aCons (eIf (tV (eOp oGt (eArgs (callF F_p_law_taken) (aCons (eVar 0) (aCons (eC (.int 3)) aNil))) (eC (.int 0)))) (eVar 8) (eArgs bTup (aCons (eOp oIx (eVar 8) (eC (.int 1))) (aCons (eOp oIx (eVar 8) (eC (.int 0))) aNil)))) aNil)))) sNext)
def B3_p_law_flow : MS :=
  (sExpr (eMeth mAppend (eVar 5) (aCons (eArgs bTup (aCons (eArgs (callF F_p_law_taken) (aCons (eVar 0) (aCons (eVar 3) aNil))) (aCons (eArgs (callF F_p_law_taken) (aCons (eVar 0) (aCons (eVar 3) aNil))) aNil))) aNil)))
def B4_p_law_flow : MS :=
  (sSeq (sSet 13 (eArgs (callF F_p_law_gcd) (aCons (eOp oIx (eVar 6) (eVar 11)) (aCons (eOp oIx (eVar 6) (eVar 12)) aNil))))
    (sSeq (sSet 14 (eArgs (callF F_p_law_pick) (aCons (eVar 0) (aCons (eArgs bLst (aCons (eC (.int 1)) (aCons (eC (.int 1)) (aCons (eC (.int 2)) aNil)))) aNil))))
    (sExpr (eMeth mAppend (eVar 10) (aCons (eArgs bTup (aCons (eVar 11) (aCons (eVar 12) (aCons (eOp oDiv (eOp oMul (eVar 14) (eOp oIx (eVar 6) (eVar 12))) (eVar 13)) (aCons (eOp oDiv (eOp oMul (eVar 14) (eOp oIx (eVar 6) (eVar 11))) (eVar 13)) (aCons (eArgs (callF F_p_law_taken) (aCons (eVar 0) (aCons (eOp oAdd (eVar 2) (eC (.int 1))) aNil))) aNil)))))) aNil)))))
def S_p_law_flow : MS :=
  (sSeq (sPar [3, 4, 5] (aCons (eOp oAdd (eC (.int 1)) (eArgs (callF F_p_law_taken) (aCons (eVar 0) (aCons (eVar 1) aNil)))) (aCons (eArgs (callF F_p_law_taken) (aCons (eVar 0) (aCons (eC (.int 5)) aNil))) (aCons (eArgs bLstL aNil) aNil))))
    (sSeq (sSet 6 (eLc [7] (.nm 7) (iRng1 (eVar 3)) J.tYes V1_p_law_flow))
    (sSeq (sFor (.nm 7) (iRng2 (eC (.int 1)) (eVar 3)) B2_p_law_flow)
    (sSeq (sFor (.nm 9) (iRng1 (eIf (tV (eOp oGt (eVar 4) (eC (.int 0)))) (eArgs (callF F_p_law_taken) (aCons (eVar 0) (aCons (eC (.int 3)) aNil))) (eC (.int 0)))) B3_p_law_flow)
    (sSeq (sSet 10 (eArgs bLstL aNil))
    (sSeq (sFor (.tp [(.nm 11), (.nm 12)]) (iSeq (eVar 5)) B4_p_law_flow)
    (sRet (eArgs bTup (aCons (eVar 3) (aCons (eArgs bTuple (aCons (eVar 10) aNil)) aNil))))))))))
def F_p_law_flow : MF := fnF 3 15 S_p_law_flow

def B1_p_law_next : MS :=
  (sSeq (sAsg (.tp [(.nm 5), (.nm 6), (.nm 7), (.nm 8), (.nm 9)]) (eOp oIx (eOp oIx (eVar 0) (eC (.int 1))) (eVar 4)))
    (sExpr (eMeth mAppend (eVar 3) (aCons (eOp oAdd (eOp oSub (eOp oIx (eVar 1) (eVar 4)) (eIf (tV (eOp oEq (eVar 6) (eVar 2))) (eVar 8) (eC (.int 0)))) (eIf (tV (eOp oEq (eVar 5) (eVar 2))) (eVar 7) (eC (.int 0)))) aNil))))
def S_p_law_next : MS :=
  (sSeq (sSet 3 (eArgs bLstL aNil))
    (sSeq (sFor (.nm 4) (iRng1 (eArgs bLen (aCons (eVar 1) aNil))) B1_p_law_next)
    (sRet (eArgs bTuple (aCons (eVar 3) aNil)))))
def F_p_law_next : MF := fnF 3 10 S_p_law_next

def V1_p_law_some : ME :=
  (eOp oIx (eVar 1) (eC (.int 4)))
def S_p_law_some : MS :=
  (sRet (eArgs bTuple (aCons (eLc [1] (.nm 1) (iSeq (eOp oIx (eVar 0) (eC (.int 1)))) J.tYes V1_p_law_some) aNil)))
def F_p_law_some : MF := fnF 1 2 S_p_law_some

def C1_p_law_do : MT :=
  (tAnd (tV (eOp oLt (eOp oIx (eVar 3) (eVar 6)) (eOp oIx (eVar 1) (eVar 6)))) (tTr (eArgs (callF F_p_law_can) (aCons (eVar 0) (aCons (eVar 2) (aCons (eVar 6) aNil))))))
def V2_p_law_do : ME :=
  (eVar 6)
def B3_p_law_do : MS :=
  (sSeq (sSet 5 (eLc [6] (.nm 6) (iRng1 (eOp oIx (eVar 0) (eC (.int 0)))) C1_p_law_do V2_p_law_do))
    (sSeq (sIf (tV (eOp oEq (eVar 5) (eArgs bLst aNil))) (sRet (eArgs bTup (aCons (eVar 3) (aCons (eVar 2) aNil)))) sNext)
    (sSeq (sSet 2 (eArgs (callF F_p_law_next) (aCons (eVar 0) (aCons (eVar 2) (aCons (eOp oIx (eVar 5) (eUn oNeg (eC (.int 1)))) aNil)))))
    (sPut (eVar 3) (eOp oIx (eVar 5) (eUn oNeg (eC (.int 1)))) (eOp oAdd (eOp oIx (eVar 3) (eOp oIx (eVar 5) (eUn oNeg (eC (.int 1))))) (eC (.int 1)))))))
def S_p_law_do : MS :=
  (sSeq (sAsg (.tp [(.nm 2), (.nm 3)]) (eArgs bTup (aCons (eArgs (callF F_p_law_some) (aCons (eVar 0) aNil)) (aCons (eOp oMulL (eArgs bLst (aCons (eC (.int 0)) aNil)) (eOp oIx (eVar 0) (eC (.int 0)))) aNil))))
    (sSeq (sFor (.nm 4) (iRng1 (eOp oAdd (eArgs bSum (aCons (eVar 1) aNil)) (eC (.int 1)))) B3_p_law_do)
    (sRet (eArgs bTup (aCons (eVar 3) (aCons (eVar 2) aNil))))))
def F_p_law_do : MF := fnF 2 7 S_p_law_do

def C1_p_law_joined : MT :=
  (tV (eOp oIn (eOp oIx (eVar 6) (eC (.int 0))) (eVar 3)))
def V2_p_law_joined : ME :=
  (eOp oIx (eVar 6) (eC (.int 1)))
def C3_p_law_joined : MT :=
  (tAnd (tTr (eVar 2)) (tV (eOp oIn (eOp oIx (eVar 6) (eC (.int 1))) (eVar 3))))
def V4_p_law_joined : ME :=
  (eOp oIx (eVar 6) (eC (.int 0)))
def C5_p_law_joined : MT :=
  (tOr (tV (eOp oIn (eVar 7) (eVar 3))) (tV (eOp oIn (eVar 7) (eVar 5))))
def V6_p_law_joined : ME :=
  (eVar 7)
def B7_p_law_joined : MS :=
  (sSeq (sSet 5 (eLc [6] (.nm 6) (iSeq (eOp oIx (eVar 0) (eC (.int 1)))) C1_p_law_joined V2_p_law_joined))
    (sSeq (sSet 5 (eOp oAdd (eVar 5) (eLc [6] (.nm 6) (iSeq (eOp oIx (eVar 0) (eC (.int 1)))) C3_p_law_joined V4_p_law_joined)))
    (sSet 3 (eLc [7] (.nm 7) (iRng1 (eOp oIx (eVar 0) (eC (.int 0)))) C5_p_law_joined V6_p_law_joined))))
def S_p_law_joined : MS :=
  (sSeq (sSet 3 (eArgs bLst (aCons (eVar 1) aNil)))
    (sSeq (sFor (.nm 4) (iRng1 (eOp oIx (eVar 0) (eC (.int 0)))) B7_p_law_joined)
    (sRet (eVar 3))))
def F_p_law_joined : MF := fnF 3 8 S_p_law_joined

def S_p_law_ratio : MS :=
  (sSeq (sSet 2 (eArgs (callF F_p_law_gcd) (aCons (eVar 0) (aCons (eVar 1) aNil))))
    (sSeq (sSet 2 (eIf (tV (eOp oLt (eVar 1) (eC (.int 0)))) (eOp oSub (eC (.int 0)) (eVar 2)) (eVar 2)))
    (sRet (eArgs bTup (aCons (eOp oDiv (eVar 0) (eVar 2)) (aCons (eOp oDiv (eVar 1) (eVar 2)) aNil))))))
def F_p_law_ratio : MF := fnF 2 3 S_p_law_ratio

def B1_p_law_round : MS :=
  (sSeq (sIf (tAnd (tV (eOp oIn (eVar 4) (eVar 1))) (tV (eOp oNin (eVar 5) (eVar 1)))) (sPut (eVar 1) (eVar 5) (eArgs (callF F_p_law_ratio) (aCons (eOp oMul (eOp oIx (eOp oIx (eVar 1) (eVar 4)) (eC (.int 0))) (eVar 6)) (aCons (eOp oMul (eOp oIx (eOp oIx (eVar 1) (eVar 4)) (eC (.int 1))) (eVar 7)) aNil)))) sNext)
    (sIf (tAnd (tV (eOp oIn (eVar 5) (eVar 1))) (tV (eOp oNin (eVar 4) (eVar 1)))) (sPut (eVar 1) (eVar 4) (eArgs (callF F_p_law_ratio) (aCons (eOp oMul (eOp oIx (eOp oIx (eVar 1) (eVar 5)) (eC (.int 0))) (eVar 7)) (aCons (eOp oMul (eOp oIx (eOp oIx (eVar 1) (eVar 5)) (eC (.int 1))) (eVar 6)) aNil)))) sNext))
def B2_p_law_round : MS :=
  (sFor (.tp [(.nm 4), (.nm 5), (.nm 6), (.nm 7), (.nm 8)]) (iSeq (eOp oIx (eVar 0) (eC (.int 1)))) B1_p_law_round)
def B3_p_law_round : MS :=
  (sIf (tV (eOp oNin (eVar 2) (eVar 1))) (sSeq (sPut (eVar 1) (eVar 2) (eArgs bTup (aCons (eC (.int 1)) (aCons (eC (.int 1)) aNil))))
    (sFor (.nm 3) (iRng1 (eOp oIx (eVar 0) (eC (.int 0)))) B2_p_law_round)) sNext)
def B4_p_law_round : MS :=
  (sSet 11 (eOp oDiv (eOp oMul (eVar 11) (eOp oIx (eOp oIx (eVar 1) (eVar 13)) (eC (.int 1)))) (eArgs (callF F_p_law_gcd) (aCons (eVar 11) (aCons (eOp oIx (eOp oIx (eVar 1) (eVar 13)) (eC (.int 1))) aNil)))))
def B5_p_law_round : MS :=
  (sSet 12 (eArgs (callF F_p_law_gcd) (aCons (eVar 12) (aCons (eOp oDiv (eOp oMul (eVar 11) (eOp oIx (eOp oIx (eVar 1) (eVar 13)) (eC (.int 0)))) (eOp oIx (eOp oIx (eVar 1) (eVar 13)) (eC (.int 1)))) aNil))))
def B6_p_law_round : MS :=
  (sSeq (sPar [10, 11, 12] (aCons (eArgs (callF F_p_law_joined) (aCons (eVar 0) (aCons (eVar 2) (aCons (eC (.bl true)) aNil)))) (aCons (eC (.int 1)) (aCons (eC (.int 0)) aNil))))
    (sSeq (sFor (.nm 13) (iSeq (eVar 10)) B4_p_law_round)
    (sSeq (sFor (.nm 13) (iSeq (eVar 10)) B5_p_law_round)
    (sExpr (eMeth mAppend (eVar 9) (aCons (eOp oDiv (eOp oDiv (eOp oMul (eVar 11) (eOp oIx (eOp oIx (eVar 1) (eVar 2)) (eC (.int 0)))) (eOp oIx (eOp oIx (eVar 1) (eVar 2)) (eC (.int 1)))) (eVar 12)) aNil))))))
def S_p_law_round : MS :=
  (sSeq (sSet 1 eDctL)
    (sSeq (sFor (.nm 2) (iRng1 (eOp oIx (eVar 0) (eC (.int 0)))) B3_p_law_round)
    (sSeq (sSet 9 (eArgs bLstL aNil))
    (sSeq (sFor (.nm 2) (iRng1 (eOp oIx (eVar 0) (eC (.int 0)))) B6_p_law_round)
    (sRet (eVar 9))))))
def F_p_law_round : MF := fnF 1 14 S_p_law_round

def V1_p_law_with : ME :=
  (eOp oAdd (eSl (eOp oIx (eOp oIx (eVar 0) (eC (.int 1))) (eVar 2)) none (some (eC (.int 4)))) (eArgs bTup (aCons (eOp oIx (eVar 1) (eVar 2)) aNil)))
def S_p_law_with : MS :=
  (sRet (eArgs bTup (aCons (eOp oIx (eVar 0) (eC (.int 0))) (aCons (eArgs bTuple (aCons (eLc [2] (.nm 2) (iRng1 (eArgs bLen (aCons (eOp oIx (eVar 0) (eC (.int 1))) aNil))) J.tYes V1_p_law_with) aNil)) aNil))))
def F_p_law_with : MF := fnF 2 3 S_p_law_with

def C1_p_law_live : MT :=
  (tAnd (tV (eOp oLt (eOp oIx (eVar 6) (eOp oIx (eOp oIx (eOp oIx (eVar 3) (eC (.int 1))) (eVar 9)) (eC (.int 1)))) (eOp oIx (eVar 4) (eOp oIx (eOp oIx (eOp oIx (eVar 3) (eC (.int 1))) (eVar 9)) (eC (.int 1)))))) (tV (eOp oLt (eOp oIx (eVar 7) (eVar 9)) (eOp oIx (eOp oIx (eOp oIx (eVar 3) (eC (.int 1))) (eVar 9)) (eC (.int 3))))))
def V2_p_law_live : ME :=
  (eVar 9)
def B3_p_law_live : MS :=
  (sSeq (sAsg (.tp [(.nm 6), (.nm 7)]) (eArgs (callF F_p_law_do) (aCons (eVar 3) (aCons (eVar 4) aNil))))
    (sSeq (sSet 8 (eLc [9] (.nm 9) (iRng1 (eArgs bLen (aCons (eVar 7) aNil))) C1_p_law_live V2_p_law_live))
    (sIf (tV (eOp oNe (eVar 8) (eArgs bLst aNil))) (sSeq (sSet 9 (eArgs (callF F_p_law_pick) (aCons (eVar 0) (aCons (eVar 8) aNil))))
    (sSet 3 (eArgs (callF F_p_law_with) (aCons (eVar 3) (aCons (eOp oAdd (eOp oAdd (eSl (eArgs (callF F_p_law_some) (aCons (eVar 3) aNil)) none (some (eVar 9))) (eArgs bTup (aCons (eOp oAdd (eOp oIx (eOp oIx (eOp oIx (eVar 3) (eC (.int 1))) (eVar 9)) (eC (.int 4))) (eOp oIx (eOp oIx (eOp oIx (eVar 3) (eC (.int 1))) (eVar 9)) (eC (.int 3)))) aNil))) (eSl (eArgs (callF F_p_law_some) (aCons (eVar 3) aNil)) (some (eOp oAdd (eVar 9) (eC (.int 1)))) none)) aNil))))) sNext)))
def V4_p_law_live : ME :=
  (eOp oMul (eOp oIx (eVar 10) (eC (.int 3))) (eOp oIx (eVar 4) (eOp oIx (eVar 10) (eC (.int 1)))))
def S_p_law_live : MS :=
  (sSeq (sSet 3 (eArgs (callF F_p_law_flow) (aCons (eVar 0) (aCons (eVar 1) (aCons (eVar 2) aNil)))))
    (sSeq (sSet 4 (eArgs (callF F_p_law_round) (aCons (eVar 3) aNil)))
    (sSeq (sFor (.nm 5) (iRng1 (eC (.int 40))) B3_p_law_live)
    (sSeq (sIf (tV (eOp oNe (eOp oIx (eArgs (callF F_p_law_do) (aCons (eVar 3) (aCons (eVar 4) aNil))) (eC (.int 0))) (eVar 4))) (sSet 3 (eArgs (callF F_p_law_with) (aCons (eVar 3) (aCons (eArgs bTuple (aCons (eLc [10] (.nm 10) (iSeq (eOp oIx (eVar 3) (eC (.int 1)))) J.tYes V4_p_law_live) aNil)) aNil)))) sNext)
    (sRet (eVar 3))))))
def F_p_law_live : MF := fnF 3 11 S_p_law_live

def S_p_is_whole : MS :=
  (sRet (eAnd (eUn (oIsi ["int"]) (eVar 0)) (eNot (eUn (oIsi ["bool"]) (eVar 0)))))
def F_p_is_whole : MF := fnF 1 1 S_p_is_whole

def S_p_is_number : MS :=
  (sRet (eAnd (eArgs (callF F_p_is_whole) (aCons (eVar 0) aNil)) (eChain oLe oLe (eVar 1) (eVar 0) (eVar 2))))
def F_p_is_number : MF := fnF 3 3 S_p_is_number

def S_p_is_box : MS :=
  (sRet (eArgs (callF F_p_is_number) (aCons (eVar 0) (aCons (eC (.int 0)) (aCons (eOp oSub (eVar 1) (eC (.int 1))) aNil)))))
def F_p_is_box : MF := fnF 2 2 S_p_is_box

def S_p_is_row : MS :=
  (sRet (eAnd (eUn (oIsi ["tuple"]) (eVar 0)) (eOp oEq (eArgs bLen (aCons (eVar 0) aNil)) (eVar 1))))
def F_p_is_row : MF := fnF 2 2 S_p_is_row

def S_p_is_pipe : MS :=
  (sSeq (sIf (tNot (tTr (eArgs (callF F_p_is_row) (aCons (eVar 0) (aCons (eC (.int 5)) aNil))))) (sRet (eC (.bl false))) sNext)
    (sSeq (sAsg (.tp [(.nm 2), (.nm 3), (.nm 4), (.nm 5), (.nm 6)]) (eVar 0))
    (sSeq (sIf (tOr (tNot (tTr (eArgs (callF F_p_is_box) (aCons (eVar 2) (aCons (eVar 1) aNil))))) (tNot (tTr (eArgs (callF F_p_is_box) (aCons (eVar 3) (aCons (eVar 1) aNil)))))) (sRet (eC (.bl false))) sNext)
    (sSeq (sIf (tOr (tNot (tTr (eArgs (callF F_p_is_number) (aCons (eVar 4) (aCons (eC (.int 1)) (aCons (eC (.int 999)) aNil)))))) (tNot (tTr (eArgs (callF F_p_is_number) (aCons (eVar 5) (aCons (eC (.int 1)) (aCons (eC (.int 999)) aNil))))))) (sRet (eC (.bl false))) sNext)
    (sRet (eArgs (callF F_p_is_number) (aCons (eVar 6) (aCons (eC (.int 0)) (aCons (eC (.int 99999)) aNil)))))))))
def F_p_is_pipe : MF := fnF 2 7 S_p_is_pipe

def B1_p_check_flow : MS :=
  (sIf (tNot (tTr (eArgs (callF F_p_is_pipe) (aCons (eVar 4) (aCons (eVar 1) aNil))))) sNever sNext)
def S_p_check_flow : MS :=
  (sSeq (sIf (tNot (tTr (eArgs (callF F_p_is_row) (aCons (eVar 0) (aCons (eC (.int 2)) aNil))))) sNever sNext)
    (sSeq (sAsg (.tp [(.nm 1), (.nm 2)]) (eVar 0))
    (sSeq (sIf (tOr (tNot (tTr (eArgs (callF F_p_is_number) (aCons (eVar 1) (aCons (eC (.int 1)) (aCons (eC (.int 8)) aNil)))))) (tOr (tNot (tTr (eUn (oIsi ["tuple"]) (eVar 2)))) (tV (eOp oGt (eArgs bLen (aCons (eVar 2) aNil)) (eC (.int 16)))))) sNever sNext)
    (sFor (.tp [(.nm 3), (.nm 4)]) (J.iEnum (eVar 2)) B1_p_check_flow))))
def F_p_check_flow : MF := fnF 1 5 S_p_check_flow

def B1_p_held_behind : MS :=
  (sSeq (sIf (tV (eOp oEq (eVar 6) (eVar 2))) (sPutAug oSub (eVar 3) (eVar 4) (eVar 8)) sNext)
    (sIf (tV (eOp oEq (eVar 5) (eVar 2))) (sPutAug iAdd (eVar 3) (eVar 4) (eVar 7)) sNext))
def S_p_held_behind : MS :=
  (sSeq (sSet 3 (eArgs bListL (aCons (eVar 1) aNil)))
    (sSeq (sFor (.tp [(.nm 4), (.tp [(.nm 5), (.nm 6), (.nm 7), (.nm 8), (.nm 9)])]) (J.iEnum (eVar 0)) B1_p_held_behind)
    (sRet (eArgs bTuple (aCons (eVar 3) aNil)))))
def F_p_held_behind : MF := fnF 3 10 S_p_held_behind

def V1_p_marks : ME :=
  (eOp oIx (eVar 1) (eC (.int 4)))
def S_p_marks : MS :=
  (sSeq (sExpr (eArgs (callF F_p_check_flow) (aCons (eVar 0) aNil)))
    (sRet (eArgs bTuple (aCons (eLc [1] (.nm 1) (iSeq (eOp oIx (eVar 0) (eC (.int 1)))) J.tYes V1_p_marks) aNil))))
def F_p_marks : MF := fnF 1 2 S_p_marks

def C1_p_short_pipes : MT :=
  (tAnd (tV (eOp oEq (eOp oIx (eVar 4) (eC (.int 1))) (eVar 2))) (tV (eOp oLt (eOp oIx (eVar 1) (eVar 3)) (eOp oIx (eVar 4) (eC (.int 3))))))
def V2_p_short_pipes : ME :=
  (eVar 3)
def S_p_short_pipes : MS :=
  (sRet (eLc [3, 4] (.tp [(.nm 3), (.nm 4)]) (J.iEnum (eVar 0)) C1_p_short_pipes V2_p_short_pipes))
def F_p_short_pipes : MF := fnF 3 5 S_p_short_pipes

def B1_p_all_come : MS :=
  (sSeq (sIf (tTr (eArgs (callF F_p_short_pipes) (aCons (eVar 2) (aCons (eVar 5) (aCons (eVar 6) aNil))))) sCont sNext)
    (sSeq (sSet 7 (eArgs (callF F_p_held_behind) (aCons (eVar 2) (aCons (eVar 5) (aCons (eVar 6) aNil)))))
    (sSeq (sIf (tV (eOp oInT (eVar 7) (eVar 3))) sCont sNext)
    (sSeq (sIf (tV (eOp oEq (eArgs bLenT (aCons (eVar 3) aNil)) (eC (.int 1000)))) (sRaiseF "TooMany" "most" (eC (.int 1000))) sNext)
    (sSeq (sPut (eVar 3) (eVar 7) (eC (.bl true)))
    (sExpr (eMeth mAppend (eVar 4) (aCons (eVar 7) aNil))))))))
def B2_p_all_come : MS :=
  (sSeq (sSet 5 (eMeth mPop (eVar 4) aNil))
    (sFor (.nm 6) (iRng1 (eVar 1)) B1_p_all_come))
def C3_p_all_come : MT :=
  (tTr (eVar 4))
def S_p_all_come : MS :=
  (sSeq (sExpr (eArgs (callF F_p_check_flow) (aCons (eVar 0) aNil)))
    (sSeq (sAsg (.tp [(.nm 1), (.nm 2)]) (eVar 0))
    (sSeq (sSet 3 (eDisp1TL (eArgs (callF F_p_marks) (aCons (eVar 0) aNil)) (eC (.bl true))))
    (sSeq (sSet 4 (eArgs bLstL (aCons (eArgs (callF F_p_marks) (aCons (eVar 0) aNil)) aNil)))
    (sSeq (sWhile 1000000 C3_p_all_come B2_p_all_come)
    (sRet (eArgs bSortedD (aCons (eArgs bListT (aCons (eVar 3) aNil)) aNil))))))))
def F_p_all_come : MF := fnF 1 8 S_p_all_come

def B1_p_law : MS :=
  (sSeq (sSet 8 (eIf (tTr (eArgs (callF F_p_law_can) (aCons (eVar 2) (aCons (eVar 6) (aCons (eVar 7) aNil))))) (eArgs (callF F_p_law_next) (aCons (eVar 2) (aCons (eVar 6) (aCons (eVar 7) aNil)))) (eVar 6)))
    (sIf (tV (eOp oNinT (eVar 8) (eVar 3))) (sSeq (sPut (eVar 3) (eVar 8) (eC (.bl true)))
    (sExpr (eMeth mAppend (eVar 5) (aCons (eVar 8) aNil)))) sNext))
def B2_p_law : MS :=
  (sFor (.nm 7) (iRng1 (eOp oIx (eVar 2) (eC (.int 0)))) B1_p_law)
def B3_p_law : MS :=
  (sSeq (sSet 5 (eArgs bLstL aNil))
    (sSeq (sFor (.nm 6) (iSeq (eVar 4)) B2_p_law)
    (sSet 4 (eVar 5))))
def C4_p_law : MT :=
  (tAnd (tV (eOp oNe (eVar 4) (eArgs bLst aNil))) (tV (eOp oLe (eArgs bLenT (aCons (eVar 3) aNil)) (eC (.int 1000)))))
def S_p_law : MS :=
  (sSeq (sSet 1 (eArgs bLstL (aCons (eVar 0) (aCons (eC (.int 0)) (aCons (eC (.int 9816)) (aCons (eC (.int 0)) aNil))))))
    (sSeq (sSet 2 (eArgs (callF F_p_law_pick) (aCons (eVar 1) (aCons (eArgs bLst (aCons (eArgs (callF F_p_law_any) (aCons (eVar 1) aNil)) (aCons (eArgs (callF F_p_law_live) (aCons (eVar 1) (aCons (eC (.int 4)) (aCons (eC (.int 2)) aNil)))) (aCons (eArgs (callF F_p_law_flow) (aCons (eVar 1) (aCons (eC (.int 3)) (aCons (eC (.int 4)) aNil)))) aNil)))) aNil))))
    (sSeq (sPar [3, 4] (aCons (eDisp1TL (eArgs (callF F_p_law_some) (aCons (eVar 2) aNil)) (eC (.bl true))) (aCons (eArgs bLst (aCons (eArgs (callF F_p_law_some) (aCons (eVar 2) aNil)) aNil)) aNil)))
    (sSeq (sWhileF 1000000 C4_p_law B3_p_law)
    (sSeq (sSet 9 (eC .non))
    (sSeq (sTryFld (fun c => if c = ("TooMany" : PySem.Str) then some true else none) "most" 10 9 (.str "other") (sSet 9 (eArgs (callF F_p_all_come) (aCons (eVar 2) aNil))))
    (sRet (eArgs (callF (F_p_law_alike 8)) (aCons (eVar 9) (aCons (eIf (tV (eOp oLe (eArgs bLenT (aCons (eVar 3) aNil)) (eC (.int 1000)))) (eSortT (eVar 3)) (eC (.int 1000))) aNil))))))))))
def F_p_law : MF := fnF 1 11 S_p_law
end K16
set_option Elab.async false
set_option linter.all false
set_option maxRecDepth 100000
set_option maxHeartbeats 4000000
namespace K16
open PySem PySem.Spec PyProof.Rows L2 J
def topS (i : Nat) : Stmt := PySem.Challenge.pw_rateflows_k16_whole_all_tokens_that_come.main.body.getD i (.Pass ⟨0, 0, 0, 0⟩)
def clsS (i j : Nat) : Stmt := match topS i with
  | .ClassDef (body := b) .. => b.getD j (.Pass ⟨0, 0, 0, 0⟩)
  | s => s
structure Top (K : PySem.W.Frag) (mg : Str → Option Value) : Prop where
  abs : mg "abs" = none
  bool : mg "bool" = none
  enumerate : mg "enumerate" = none
  int : mg "int" = none
  isinstance : mg "isinstance" = none
  len : mg "len" = none
  list : mg "list" = none
  range : mg "range" = none
  sorted : mg "sorted" = none
  str : mg "str" = none
  sum : mg "sum" = none
  tuple : mg "tuple" = none
  c_MOST_BOXES : ∃ t, mg "MOST_BOXES" = some (.int 8 t)
  c_MOST_MARKS : ∃ t, mg "MOST_MARKS" = some (.int 1000 t)
  c_MOST_PIPES : ∃ t, mg "MOST_PIPES" = some (.int 16 t)
  c_MOST_RATE : ∃ t, mg "MOST_RATE" = some (.int 999 t)
  c_MOST_TOKENS : ∃ t, mg "MOST_TOKENS" = some (.int 99999 t)
  tf_FlowError_TooMany : ExTF ⟨K, mg⟩ "FlowError" "TooMany" "most" (fun c => if c = ("TooMany" : Str) then some true else none)
section
variable {P : Program} {wd : World} {K : PySem.W.Frag} {mg : Str → Option Value} {base : Heap}
abbrev st_i_TooMany : Stmt := clsS 3 0
theorem sc_i_TooMany : FnScope ["self", "most"] ["self", "most"] (defScope st_i_TooMany) := ⟨rfl, rfl, rfl, by decide +kernel, rfl, by decide +kernel, by decide +kernel⟩
theorem ok_i_TooMany {f B C : Addr} {fd : FuncData} (F : Fun K "__init__" "TooMany.__init__" st_i_TooMany f fd) (hB : mg "FlowError" = some (.ref B)) (gB : PySem.W.specialIn K (.ref B) "__getattribute__" = some (some (.builtin "type.__getattribute__"))) (rB : PySem.W.readsIn K B (.type "type") = true) (vB : PySem.W.findCls K (.ref B) (.type "type") "__init__" = some (.val (.builtin "ValueError.__init__"))) : FnOk P wd K mg base CX0 1 f fd ["self", "most"] (spInit K C "most") :=
  init_of (t := "more than ") F sc_i_TooMany (by decide +kernel) (fun cdv A outer s H E => pss_cons (ps_expr (pe_veinitB (by rfl) hB gB rB vB (pa_cons (pv 0) (pa_cons (pe_joined (.cons pe_str (.cons (pe_fmt (pv 1)) .nil))) pa_nil)))) (pss_one (ps_ost (pv 0) (pv 1))))
abbrev st_p_law_alike : Stmt := topS 38
abbrev N_p_law_alike : List Str := ["found", "due", "k"]
theorem sc_p_law_alike : FnScope N_p_law_alike ["found", "due"] (defScope st_p_law_alike) := ⟨rfl, rfl, rfl, by decide +kernel, rfl, by decide +kernel, by decide +kernel⟩
theorem okS_p_law_alike {f : Addr} {fd : FuncData} (F : Fun K "_law_alike" "_law_alike" st_p_law_alike f fd) (hm : mg "_law_alike" = some (.ref f)) (b : Binds K fd ["found", "due"] []) (T : Top K mg)  (n : Nat) (R : MF) (H_p_law_alike : Fok P wd ⟨K, mg⟩ base (n + 1) "_law_alike" 2 R) : Fok P wd ⟨K, mg⟩ base (n + 1 + 1) "_law_alike" 2 (fnF 2 3 (S_p_law_alike R)) :=
  fok_of (N := N_p_law_alike) F sc_p_law_alike hm b (fun cdv A outer s H E c =>
    (ds_cons (ds_if (dt_truth (jc_isi2 (by decide) (by decide) (de_var (pv 1)) (pe_bltn (v := .ty "tuple") (by rfl) T.tuple (by decide +kernel) rfl) (pe_bltn (v := .ty "list") (by rfl) T.list (by decide +kernel) rfl) (by rfl) T.isinstance)) (ds_cons (ds_if (PW.pt (dw_or (dt_not (dt_truth (jc_isi2 (by decide) (by decide) (de_var (pv 0)) (pe_bltn (v := .ty "tuple") (by rfl) T.tuple (by decide +kernel) rfl) (pe_bltn (v := .ty "list") (by rfl) T.list (by decide +kernel) rfl) (by rfl) T.isinstance))) (dw_or1 (dt_cmp (jo_ne c.u64) (jc_isi (x := "isinstance") (by decide) (de_var (pv 0)) (pe_bltn (v := .ty "list") (by rfl) T.list (by decide +kernel) rfl) (by rfl) T.isinstance) (jc_isi (x := "isinstance") (by decide) (de_var (pv 1)) (pe_bltn (v := .ty "list") (by rfl) T.list (by decide +kernel) rfl) (by rfl) T.isinstance) (nomark _))))) (ds_one (ds_ret de_bl)) ds_nil)
    (ds_cons (ds_if (dt_cmp (jo_ne c.u64) (de_callB jc_len (by rfl) T.len (by decide +kernel) (da_cons (de_var (pv 0)) da_nil)) (de_callB jc_len (by rfl) T.len (by decide +kernel) (da_cons (de_var (pv 1)) da_nil)) (nomark _)) (ds_one (ds_ret de_bl)) ds_nil)
    (ds_one (ds_ret (de_cmp (jo_eq c.u64) (de_lc (own := [("k", 2)]) (by decide) (.inl rfl) (pe_lc (own := [("k", 2)]) c.calm sc_p_law_alike.nd (di_rng1 (by rfl) T.range (da_cons (de_callB jc_len (by rfl) T.len (by decide +kernel) (da_cons (de_var (pv 1)) da_nil)) da_nil)) (blkOk_by (N := N_p_law_alike) (sc := defScope st_p_law_alike) (by decide +kernel)) (fun _ _ _ _ _ => (dg_name (pg_name (i := 2) sc_p_law_alike.nd rfl (Or.inl rfl)))) (fun _ _ _ _ _ => (dts_one (dt_not (dt_truth (de_call H_p_law_alike (by omega) (c.blk _ _ _ _ _).hr (c.blk _ _ _ _ _).tk (by rfl) (by rfl) (da_cons (de_ix (jo_ix (c.blk _ _ _ _ _).u1) (de_var (pv 0)) (de_var (pv 2)) (fun _ _ => rfl)) (da_cons (de_ix (jo_ix (c.blk _ _ _ _ _).u1) (de_var (pv 1)) (de_var (pv 2)) (fun _ _ => rfl)) da_nil)) (hlen := (alen_cons (alen_cons alen_nil)))))))) (fun _ _ _ _ _ => (de_var (pv 2))))) (de_lst da_nil) (nomark _)))))) ds_nil)
    (ds_cons (ds_if (PW.pt (dw_or (dt_isN (de_var (pv 1))) (dw_or1 (dt_truth (jc_isi (x := "isinstance") (by decide) (de_var (pv 1)) (pe_bltn (v := .ty "str") (by rfl) T.str (by decide +kernel) rfl) (by rfl) T.isinstance))))) (ds_one (ds_ret (de_and (de_cmp (jo_eq c.u64) (de_var (pv 0)) (de_var (pv 1)) (nomark _)) (de_one (de_cmp (jo_eq c.u64) (jc_isi (x := "isinstance") (by decide) (de_var (pv 0)) (pe_bltn (v := .ty "str") (by rfl) T.str (by decide +kernel) rfl) (by rfl) T.isinstance) (jc_isi (x := "isinstance") (by decide) (de_var (pv 1)) (pe_bltn (v := .ty "str") (by rfl) T.str (by decide +kernel) rfl) (by rfl) T.isinstance) (nomark _)))))) ds_nil)
    (ds_one (ds_ret (de_and (jc_isi (x := "isinstance") (by decide) (de_var (pv 0)) (pe_bltn (v := .ty "int") (by rfl) T.int (by decide +kernel) rfl) (by rfl) T.isinstance) (de_and (de_cmp (jo_eq c.u64) (jc_isi (x := "isinstance") (by decide) (de_var (pv 0)) (pe_bltn (v := .ty "bool") (by rfl) T.bool (by decide +kernel) rfl) (by rfl) T.isinstance) (jc_isi (x := "isinstance") (by decide) (de_var (pv 1)) (pe_bltn (v := .ty "bool") (by rfl) T.bool (by decide +kernel) rfl) (by rfl) T.isinstance) (nomark _)) (de_one (de_cmp (jo_eq c.u64) (de_var (pv 0)) (de_var (pv 1)) (nomark _))))))))))
theorem okA_p_law_alike {f : Addr} {fd : FuncData} (F : Fun K "_law_alike" "_law_alike" st_p_law_alike f fd) (hm : mg "_law_alike" = some (.ref f)) (b : Binds K fd ["found", "due"] []) (T : Top K mg)  : ∀ n : Nat, Fok P wd ⟨K, mg⟩ base (n + 1) "_law_alike" 2 (F_p_law_alike n)
  | 0 => (fok_of (N := N_p_law_alike) (k := 0) F sc_p_law_alike hm b (fun cdv A outer s H E c => dss_never)).mono (by decide)
  | n + 1 => (okS_p_law_alike F hm b T  n _ (okA_p_law_alike F hm b T  n)).mono (by omega)
theorem ok_p_law_alike {f : Addr} {fd : FuncData} (F : Fun K "_law_alike" "_law_alike" st_p_law_alike f fd) (hm : mg "_law_alike" = some (.ref f)) (b : Binds K fd ["found", "due"] []) (T : Top K mg)  : Fok P wd ⟨K, mg⟩ base 9 "_law_alike" 2 (F_p_law_alike 8) :=
  okA_p_law_alike F hm b T  8
abbrev st_p_law_taken : Stmt := topS 24
abbrev N_p_law_taken : List Str := ["row", "many", "found", "cell"]
theorem sc_p_law_taken : FnScope N_p_law_taken ["row", "many"] (defScope st_p_law_taken) := ⟨rfl, rfl, rfl, by decide +kernel, rfl, by decide +kernel, by decide +kernel⟩
theorem ok_p_law_taken {f : Addr} {fd : FuncData} (F : Fun K "_law_taken" "_law_taken" st_p_law_taken f fd) (hm : mg "_law_taken" = some (.ref f)) (b : Binds K fd ["row", "many"] []) (T : Top K mg)  : Fok P wd ⟨K, mg⟩ base 1 "_law_taken" 2 F_p_law_taken :=
  fok_of (N := N_p_law_taken) F sc_p_law_taken hm b (fun cdv A outer s H E c =>
    (ds_cons (ds_if (dt_cmp jo_gt (de_ix (jo_ix c.u1) (de_var (pv 0)) de_int (fun _ _ => rfl)) de_int (nomark _)) (ds_cons (ds_set (fun te h => ps_set (i := 2) sc_p_law_taken.nd rfl (Or.inl rfl) h) (de_op jo_mod (de_callTy jc_int (by rfl) T.int (by decide +kernel) (da_cons (de_ix (jo_ix c.u1) (de_var (pv 0)) de_int (fun _ _ => rfl)) da_nil)) (de_var (pv 1))))
    (ds_cons (ds_put (de_var (pv 0)) de_int (de_op jo_div (de_ix (jo_ix c.u1) (de_var (pv 0)) de_int (fun _ _ => rfl)) (de_var (pv 1))) c.u1)
    (ds_one (ds_ret (de_var (pv 2)))))) ds_nil)
    (ds_cons (ds_put (de_var (pv 0)) de_int (de_op jo_add (de_ix (jo_ix c.u1) (de_var (pv 0)) de_int (fun _ _ => rfl)) de_int) c.u1)
    (ds_cons (ds_if (dt_cmp jo_gt (de_ix (jo_ix c.u1) (de_var (pv 0)) de_int (fun _ _ => rfl)) (de_callB jc_len (by rfl) T.len (by decide +kernel) (da_cons (de_ix (jo_ix c.u1) (de_var (pv 0)) de_int (fun _ _ => rfl)) da_nil)) (nomark _)) (ds_cons (ds_put (de_var (pv 0)) de_int (de_op jo_mod (de_callTy jc_int (by rfl) T.int (by decide +kernel) (da_cons (de_op jo_add (de_op jo_mul (de_ix (jo_ix c.u1) (de_var (pv 0)) de_int (fun _ _ => rfl)) de_int) de_int) da_nil)) de_int) c.u1)
    (ds_one (ds_ret (de_op jo_mod (de_callTy jc_int (by rfl) T.int (by decide +kernel) (da_cons (de_op jo_div (de_ix (jo_ix c.u1) (de_var (pv 0)) de_int (fun _ _ => rfl)) de_int) da_nil)) (de_var (pv 1)))))) ds_nil)
    (ds_cons (ds_set (fun te h => ps_set (i := 3) sc_p_law_taken.nd rfl (Or.inl rfl) h) (de_ix (jo_ix c.u1) (de_ix (jo_ix c.u1) (de_var (pv 0)) de_int (fun _ _ => rfl)) (de_op jo_sub (de_ix (jo_ix c.u1) (de_var (pv 0)) de_int (fun _ _ => rfl)) de_int) (fun _ _ => rfl)))
    (ds_cons (ds_put (de_var (pv 0)) de_int (de_op jo_mod (de_callTy jc_int (by rfl) T.int (by decide +kernel) (da_cons (de_op jo_add (de_op jo_add (de_op jo_mul (de_ix (jo_ix c.u1) (de_var (pv 0)) de_int (fun _ _ => rfl)) de_int) (de_var (pv 3))) de_int) da_nil)) de_int) c.u1)
    (ds_cons (ds_if (dt_cmp jo_ge (de_var (pv 3)) (de_op jo_pow de_int de_int) (nomark _)) (ds_one (ds_put (de_var (pv 0)) de_int (de_op jo_div (de_var (pv 3)) (de_var (pv 1))) c.u1)) ds_nil)
    (ds_one (ds_ret (de_op jo_mod (de_callTy jc_int (by rfl) T.int (by decide +kernel) (da_cons (de_var (pv 3)) da_nil)) (de_var (pv 1))))))))))))
abbrev st_p_law_any : Stmt := topS 26
abbrev N_p_law_any : List Str := ["row", "many", "pipes", "turn"]
theorem sc_p_law_any : FnScope N_p_law_any ["row"] (defScope st_p_law_any) := ⟨rfl, rfl, rfl, by decide +kernel, rfl, by decide +kernel, by decide +kernel⟩
theorem ok_p_law_any {f : Addr} {fd : FuncData} (F : Fun K "_law_any" "_law_any" st_p_law_any f fd) (hm : mg "_law_any" = some (.ref f)) (b : Binds K fd ["row"] []) (T : Top K mg) (H_p_law_taken : Fok P wd ⟨K, mg⟩ base 1 "_law_taken" 2 F_p_law_taken) : Fok P wd ⟨K, mg⟩ base 2 "_law_any" 1 F_p_law_any :=
  fok_of (N := N_p_law_any) F sc_p_law_any hm b (fun cdv A outer s H E c =>
    (ds_cons (ds_set (fun te h => ps_set (i := 1) sc_p_law_any.nd rfl (Or.inl rfl) h) (de_op jo_add de_int (de_call H_p_law_taken (by decide) c.hr c.tk (by rfl) (by rfl) (da_cons (de_var (pv 0)) (da_cons de_int da_nil)) (hlen := (alen_cons (alen_cons alen_nil))))))
    (ds_cons (ds_set (fun te h => ps_set (i := 2) sc_p_law_any.nd rfl (Or.inl rfl) h) (de_lstL da_nil))
    (ds_cons (ds_for c.po c.calm (di_rng1 (by rfl) T.range (da_cons (de_call H_p_law_taken (by decide) c.hr c.tk (by rfl) (by rfl) (da_cons (de_var (pv 0)) (da_cons de_int da_nil)) (hlen := (alen_cons (alen_cons alen_nil)))) da_nil)) (dg_name (pg_name (i := 3) sc_p_law_any.nd rfl (Or.inl rfl))) (ds_one (ds_expr (de_meth PySem.F.slot_list_append PySem.F.type_list_append jm_append (de_var (pv 2)) (da_cons (de_tup (da_cons (de_call H_p_law_taken (by decide) c.hr c.tk (by rfl) (by rfl) (da_cons (de_var (pv 0)) (da_cons (de_var (pv 1)) da_nil)) (hlen := (alen_cons (alen_cons alen_nil)))) (da_cons (de_call H_p_law_taken (by decide) c.hr c.tk (by rfl) (by rfl) (da_cons (de_var (pv 0)) (da_cons (de_var (pv 1)) da_nil)) (hlen := (alen_cons (alen_cons alen_nil)))) (da_cons (de_op jo_add de_int (de_call H_p_law_taken (by decide) c.hr c.tk (by rfl) (by rfl) (da_cons (de_var (pv 0)) (da_cons de_int da_nil)) (hlen := (alen_cons (alen_cons alen_nil))))) (da_cons (de_op jo_add de_int (de_call H_p_law_taken (by decide) c.hr c.tk (by rfl) (by rfl) (da_cons (de_var (pv 0)) (da_cons de_int da_nil)) (hlen := (alen_cons (alen_cons alen_nil))))) (da_cons (de_call H_p_law_taken (by decide) c.hr c.tk (by rfl) (by rfl) (da_cons (de_var (pv 0)) (da_cons de_int da_nil)) (hlen := (alen_cons (alen_cons alen_nil)))) da_nil)))))) da_nil)))))
    (ds_one (ds_ret (de_tup (da_cons (de_var (pv 1)) (da_cons (de_callTy jc_tuple (by rfl) T.tuple (by decide +kernel) (da_cons (de_var (pv 2)) da_nil)) da_nil)))))))))
abbrev st_p_law_can : Stmt := topS 33
abbrev N_p_law_can : List Str := ["flow", "some", "box", "k"]
theorem sc_p_law_can : FnScope N_p_law_can ["flow", "some", "box"] (defScope st_p_law_can) := ⟨rfl, rfl, rfl, by decide +kernel, rfl, by decide +kernel, by decide +kernel⟩
theorem ok_p_law_can {f : Addr} {fd : FuncData} (F : Fun K "_law_can" "_law_can" st_p_law_can f fd) (hm : mg "_law_can" = some (.ref f)) (b : Binds K fd ["flow", "some", "box"] []) (T : Top K mg)  : Fok P wd ⟨K, mg⟩ base 1 "_law_can" 3 F_p_law_can :=
  fok_of (N := N_p_law_can) F sc_p_law_can hm b (fun cdv A outer s H E c =>
    (ds_one (ds_ret (de_cmp (jo_eq c.u64) (de_lc (own := [("k", 3)]) (by decide) (.inl rfl) (pe_lc (own := [("k", 3)]) c.calm sc_p_law_can.nd (di_rng1 (by rfl) T.range (da_cons (de_callB jc_len (by rfl) T.len (by decide +kernel) (da_cons (de_var (pv 1)) da_nil)) da_nil)) (blkOk_by (N := N_p_law_can) (sc := defScope st_p_law_can) (by decide +kernel)) (fun _ _ _ _ _ => (dg_name (pg_name (i := 3) sc_p_law_can.nd rfl (Or.inl rfl)))) (fun _ _ _ _ _ => (dts_one (PW.pt (dw_and (dt_cmp (jo_eq (c.blk _ _ _ _ _).u64) (de_ix (jo_ix (c.blk _ _ _ _ _).u1) (de_ix (jo_ix (c.blk _ _ _ _ _).u1) (de_ix (jo_ix (c.blk _ _ _ _ _).u1) (de_var (pv 0)) de_int (fun _ _ => rfl)) (de_var (pv 3)) (fun _ _ => rfl)) de_int (fun _ _ => rfl)) (de_var (pv 2)) (nomark _)) (dw_and1 (dt_cmp jo_gt (de_ix (jo_ix (c.blk _ _ _ _ _).u1) (de_ix (jo_ix (c.blk _ _ _ _ _).u1) (de_ix (jo_ix (c.blk _ _ _ _ _).u1) (de_var (pv 0)) de_int (fun _ _ => rfl)) (de_var (pv 3)) (fun _ _ => rfl)) de_int (fun _ _ => rfl)) (de_ix (jo_ix (c.blk _ _ _ _ _).u1) (de_var (pv 1)) (de_var (pv 3)) (fun _ _ => rfl)) (nomark _))))))) (fun _ _ _ _ _ => (de_var (pv 3))))) (de_lst da_nil) (nomark _)))))
abbrev st_p_law_gcd : Stmt := topS 27
abbrev N_p_law_gcd : List Str := ["one", "other"]
theorem sc_p_law_gcd : FnScope N_p_law_gcd ["one", "other"] (defScope st_p_law_gcd) := ⟨rfl, rfl, rfl, by decide +kernel, rfl, by decide +kernel, by decide +kernel⟩
theorem ok_p_law_gcd {f : Addr} {fd : FuncData} (F : Fun K "_law_gcd" "_law_gcd" st_p_law_gcd f fd) (hm : mg "_law_gcd" = some (.ref f)) (b : Binds K fd ["one", "other"] []) (T : Top K mg)  : Fok P wd ⟨K, mg⟩ base 1 "_law_gcd" 2 F_p_law_gcd :=
  fok_of (N := N_p_law_gcd) F sc_p_law_gcd hm b (fun cdv A outer s H E c =>
    (ds_cons (ds_par (fun t h => ps_par (i := 0) (j := 1) c.calm sc_p_law_gcd.nd rfl rfl (by decide) rfl rfl h (by rfl)) (da_cons (de_callB jc_abs (by rfl) T.abs (by decide +kernel) (da_cons (de_var (pv 0)) da_nil)) (da_cons (de_callB jc_abs (by rfl) T.abs (by decide +kernel) (da_cons (de_var (pv 1)) da_nil)) da_nil)))
    (ds_cons (ds_while c.po (dt_cmp (jo_ne c.u64) (de_var (pv 1)) de_int (nomark _)) (ds_one (ds_par (fun t h => ps_par (i := 0) (j := 1) c.calm sc_p_law_gcd.nd rfl rfl (by decide) rfl rfl h (by rfl)) (da_cons (de_var (pv 1)) (da_cons (de_op jo_mod (de_callTy jc_int (by rfl) T.int (by decide +kernel) (da_cons (de_var (pv 0)) da_nil)) (de_var (pv 1))) da_nil)))))
    (ds_one (ds_ret (de_var (pv 0)))))))
abbrev st_p_law_pick : Stmt := topS 25
abbrev N_p_law_pick : List Str := ["row", "things"]
theorem sc_p_law_pick : FnScope N_p_law_pick ["row", "things"] (defScope st_p_law_pick) := ⟨rfl, rfl, rfl, by decide +kernel, rfl, by decide +kernel, by decide +kernel⟩
theorem ok_p_law_pick {f : Addr} {fd : FuncData} (F : Fun K "_law_pick" "_law_pick" st_p_law_pick f fd) (hm : mg "_law_pick" = some (.ref f)) (b : Binds K fd ["row", "things"] []) (T : Top K mg) (H_p_law_taken : Fok P wd ⟨K, mg⟩ base 1 "_law_taken" 2 F_p_law_taken) : Fok P wd ⟨K, mg⟩ base 2 "_law_pick" 2 F_p_law_pick :=
  fok_of (N := N_p_law_pick) F sc_p_law_pick hm b (fun cdv A outer s H E c =>
    (ds_one (ds_ret (de_ix (jo_ix c.u1) (de_var (pv 1)) (de_call H_p_law_taken (by decide) c.hr c.tk (by rfl) (by rfl) (da_cons (de_var (pv 0)) (da_cons (de_callB jc_len (by rfl) T.len (by decide +kernel) (da_cons (de_var (pv 1)) da_nil)) da_nil)) (hlen := (alen_cons (alen_cons alen_nil)))) (fun _ _ => rfl)))))
abbrev st_p_law_flow : Stmt := topS 28
abbrev N_p_law_flow : List Str := ["row", "most", "top", "many", "way", "pipes", "counts", "k", "pair", "turn", "found", "one", "other", "common", "more"]
theorem sc_p_law_flow : FnScope N_p_law_flow ["row", "most", "top"] (defScope st_p_law_flow) := ⟨rfl, rfl, rfl, by decide +kernel, rfl, by decide +kernel, by decide +kernel⟩
theorem ok_p_law_flow {f : Addr} {fd : FuncData} (F : Fun K "_law_flow" "_law_flow" st_p_law_flow f fd) (hm : mg "_law_flow" = some (.ref f)) (b : Binds K fd ["row", "most", "top"] []) (T : Top K mg) (H_p_law_gcd : Fok P wd ⟨K, mg⟩ base 1 "_law_gcd" 2 F_p_law_gcd) (H_p_law_pick : Fok P wd ⟨K, mg⟩ base 2 "_law_pick" 2 F_p_law_pick) (H_p_law_taken : Fok P wd ⟨K, mg⟩ base 1 "_law_taken" 2 F_p_law_taken) : Fok P wd ⟨K, mg⟩ base 3 "_law_flow" 3 F_p_law_flow :=
  fok_of (N := N_p_law_flow) F sc_p_law_flow hm b (fun cdv A outer s H E c =>
    (ds_cons (ds_par3 (i := 3) (j := 4) (l := 5) c.calm sc_p_law_flow.nd rfl rfl rfl (by decide) (by decide) (by decide) rfl rfl rfl (da_cons (de_op jo_add de_int (de_call H_p_law_taken (by decide) c.hr c.tk (by rfl) (by rfl) (da_cons (de_var (pv 0)) (da_cons (de_var (pv 1)) da_nil)) (hlen := (alen_cons (alen_cons alen_nil))))) (da_cons (de_call H_p_law_taken (by decide) c.hr c.tk (by rfl) (by rfl) (da_cons (de_var (pv 0)) (da_cons de_int da_nil)) (hlen := (alen_cons (alen_cons alen_nil)))) (da_cons (de_lstL da_nil) da_nil))) (by rfl))
    (ds_cons (ds_setT (ps_setLc (i := 6) (own := [("k", 7)]) c.calm sc_p_law_flow.nd rfl rfl (sw_true rfl rfl rfl (by decide +kernel)) (di_rng1 (by rfl) T.range (da_cons (de_var (pv 3)) da_nil)) (blkOk_by (N := N_p_law_flow) (sc := defScope st_p_law_flow) (by decide +kernel)) (fun _ _ _ _ _ => (dg_name (pg_name (i := 7) sc_p_law_flow.nd rfl (Or.inl rfl)))) (fun _ _ _ _ _ => dts_nil) (fun _ _ _ _ _ => (de_op jo_add de_int (de_call H_p_law_taken (by decide) (c.blk _ _ _ _ _).hr (c.blk _ _ _ _ _).tk (by rfl) (by rfl) (da_cons (de_var (pv 0)) (da_cons (de_call H_p_law_pick (by decide) (c.blk _ _ _ _ _).hr (c.blk _ _ _ _ _).tk (by rfl) (by rfl) (da_cons (de_var (pv 0)) (da_cons (de_lst (da_cons de_int (da_cons de_int (da_cons de_int da_nil)))) da_nil)) (hlen := (alen_cons (alen_cons alen_nil)))) da_nil)) (hlen := (alen_cons (alen_cons alen_nil))))))) (lcUse (by decide) (.inl rfl)))
    (ds_cons (ds_for c.po c.calm (di_rng2 (by rfl) T.range (da_cons de_int (da_cons (de_var (pv 3)) da_nil))) (dg_name (pg_name (i := 7) sc_p_law_flow.nd rfl (Or.inl rfl))) (ds_one (ds_if (dt_cmp jo_gt (de_call H_p_law_taken (by decide) c.hr c.tk (by rfl) (by rfl) (da_cons (de_var (pv 0)) (da_cons de_int da_nil)) (hlen := (alen_cons (alen_cons alen_nil)))) de_int (nomark _)) (ds_cons (ds_set (fun te h => ps_set (i := 8) sc_p_law_flow.nd rfl (Or.inl rfl) h) (de_tup (da_cons (de_if (dt_cmp (jo_eq c.u64) (de_var (pv 4)) de_int (nomark _)) (de_op jo_sub (de_var (pv 7)) de_int) (de_call H_p_law_taken (by decide) c.hr c.tk (by rfl) (by rfl) (da_cons (de_var (pv 0)) (da_cons (de_var (pv 7)) da_nil)) (hlen := (alen_cons (alen_cons alen_nil))))) (da_cons (de_var (pv 7)) da_nil))))
    (ds_one (ds_expr (de_meth PySem.F.slot_list_append PySem.F.type_list_append jm_append (de_var (pv 5)) (da_cons (de_if (dt_cmp jo_gt (de_call H_p_law_taken (by decide) c.hr c.tk (by rfl) (by rfl) (da_cons (de_var (pv 0)) (da_cons de_int da_nil)) (hlen := (alen_cons (alen_cons alen_nil)))) de_int (nomark _)) (de_var (pv 8)) (de_tup (da_cons (de_ix (jo_ix c.u1) (de_var (pv 8)) de_int (fun _ _ => rfl)) (da_cons (de_ix (jo_ix c.u1) (de_var (pv 8)) de_int (fun _ _ => rfl)) da_nil)))) da_nil))))) ds_nil)))
    (ds_cons (ds_for c.po c.calm (di_rng1 (by rfl) T.range (da_cons (de_if (dt_cmp jo_gt (de_var (pv 4)) de_int (nomark _)) (de_call H_p_law_taken (by decide) c.hr c.tk (by rfl) (by rfl) (da_cons (de_var (pv 0)) (da_cons de_int da_nil)) (hlen := (alen_cons (alen_cons alen_nil)))) de_int) da_nil)) (dg_name (pg_name (i := 9) sc_p_law_flow.nd rfl (Or.inl rfl))) (ds_one (ds_expr (de_meth PySem.F.slot_list_append PySem.F.type_list_append jm_append (de_var (pv 5)) (da_cons (de_tup (da_cons (de_call H_p_law_taken (by decide) c.hr c.tk (by rfl) (by rfl) (da_cons (de_var (pv 0)) (da_cons (de_var (pv 3)) da_nil)) (hlen := (alen_cons (alen_cons alen_nil)))) (da_cons (de_call H_p_law_taken (by decide) c.hr c.tk (by rfl) (by rfl) (da_cons (de_var (pv 0)) (da_cons (de_var (pv 3)) da_nil)) (hlen := (alen_cons (alen_cons alen_nil)))) da_nil))) da_nil)))))
    (ds_cons (ds_set (fun te h => ps_set (i := 10) sc_p_law_flow.nd rfl (Or.inl rfl) h) (de_lstL da_nil))
    (ds_cons (ds_for c.po c.calm (di_seq (de_var (pv 5))) (dg_tup c.calm (dg_cons (dg_name (pg_name (i := 11) sc_p_law_flow.nd rfl (Or.inl rfl))) (dg_cons (dg_name (pg_name (i := 12) sc_p_law_flow.nd rfl (Or.inl rfl))) dg_nil))) (ds_cons (ds_set (fun te h => ps_set (i := 13) sc_p_law_flow.nd rfl (Or.inl rfl) h) (de_call H_p_law_gcd (by decide) c.hr c.tk (by rfl) (by rfl) (da_cons (de_ix (jo_ix c.u1) (de_var (pv 6)) (de_var (pv 11)) (fun _ _ => rfl)) (da_cons (de_ix (jo_ix c.u1) (de_var (pv 6)) (de_var (pv 12)) (fun _ _ => rfl)) da_nil)) (hlen := (alen_cons (alen_cons alen_nil)))))
    (ds_cons (ds_set (fun te h => ps_set (i := 14) sc_p_law_flow.nd rfl (Or.inl rfl) h) (de_call H_p_law_pick (by decide) c.hr c.tk (by rfl) (by rfl) (da_cons (de_var (pv 0)) (da_cons (de_lst (da_cons de_int (da_cons de_int (da_cons de_int da_nil)))) da_nil)) (hlen := (alen_cons (alen_cons alen_nil)))))
    (ds_one (ds_expr (de_meth PySem.F.slot_list_append PySem.F.type_list_append jm_append (de_var (pv 10)) (da_cons (de_tup (da_cons (de_var (pv 11)) (da_cons (de_var (pv 12)) (da_cons (de_op jo_div (de_op jo_mul (de_var (pv 14)) (de_ix (jo_ix c.u1) (de_var (pv 6)) (de_var (pv 12)) (fun _ _ => rfl))) (de_var (pv 13))) (da_cons (de_op jo_div (de_op jo_mul (de_var (pv 14)) (de_ix (jo_ix c.u1) (de_var (pv 6)) (de_var (pv 11)) (fun _ _ => rfl))) (de_var (pv 13))) (da_cons (de_call H_p_law_taken (by decide) c.hr c.tk (by rfl) (by rfl) (da_cons (de_var (pv 0)) (da_cons (de_op jo_add (de_var (pv 2)) de_int) da_nil)) (hlen := (alen_cons (alen_cons alen_nil)))) da_nil)))))) da_nil)))))))
    (ds_one (ds_ret (de_tup (da_cons (de_var (pv 3)) (da_cons (de_callTy jc_tuple (by rfl) T.tuple (by decide +kernel) (da_cons (de_var (pv 10)) da_nil)) da_nil))))))))))))
abbrev st_p_law_next : Stmt := topS 34
abbrev N_p_law_next : List Str := ["flow", "some", "box", "found", "k", "one", "other", "give", "eat", "start"]
theorem sc_p_law_next : FnScope N_p_law_next ["flow", "some", "box"] (defScope st_p_law_next) := ⟨rfl, rfl, rfl, by decide +kernel, rfl, by decide +kernel, by decide +kernel⟩
theorem ok_p_law_next {f : Addr} {fd : FuncData} (F : Fun K "_law_next" "_law_next" st_p_law_next f fd) (hm : mg "_law_next" = some (.ref f)) (b : Binds K fd ["flow", "some", "box"] []) (T : Top K mg)  : Fok P wd ⟨K, mg⟩ base 1 "_law_next" 3 F_p_law_next :=
  fok_of (N := N_p_law_next) F sc_p_law_next hm b (fun cdv A outer s H E c =>
    (ds_cons (ds_set (fun te h => ps_set (i := 3) sc_p_law_next.nd rfl (Or.inl rfl) h) (de_lstL da_nil))
    (ds_cons (ds_for c.po c.calm (di_rng1 (by rfl) T.range (da_cons (de_callB jc_len (by rfl) T.len (by decide +kernel) (da_cons (de_var (pv 1)) da_nil)) da_nil)) (dg_name (pg_name (i := 4) sc_p_law_next.nd rfl (Or.inl rfl))) (ds_cons (ds_asg (de_ix (jo_ix c.u1) (de_ix (jo_ix c.u1) (de_var (pv 0)) de_int (fun _ _ => rfl)) (de_var (pv 4)) (fun _ _ => rfl)) (dg_tup c.calm (dg_cons (dg_name (pg_name (i := 5) sc_p_law_next.nd rfl (Or.inl rfl))) (dg_cons (dg_name (pg_name (i := 6) sc_p_law_next.nd rfl (Or.inl rfl))) (dg_cons (dg_name (pg_name (i := 7) sc_p_law_next.nd rfl (Or.inl rfl))) (dg_cons (dg_name (pg_name (i := 8) sc_p_law_next.nd rfl (Or.inl rfl))) (dg_cons (dg_name (pg_name (i := 9) sc_p_law_next.nd rfl (Or.inl rfl))) dg_nil)))))))
    (ds_one (ds_expr (de_meth PySem.F.slot_list_append PySem.F.type_list_append jm_append (de_var (pv 3)) (da_cons (de_op jo_add (de_op jo_sub (de_ix (jo_ix c.u1) (de_var (pv 1)) (de_var (pv 4)) (fun _ _ => rfl)) (de_if (dt_cmp (jo_eq c.u64) (de_var (pv 6)) (de_var (pv 2)) (nomark _)) (de_var (pv 8)) de_int)) (de_if (dt_cmp (jo_eq c.u64) (de_var (pv 5)) (de_var (pv 2)) (nomark _)) (de_var (pv 7)) de_int)) da_nil))))))
    (ds_one (ds_ret (de_callTy jc_tuple (by rfl) T.tuple (by decide +kernel) (da_cons (de_var (pv 3)) da_nil)))))))
abbrev st_p_law_some : Stmt := topS 32
abbrev N_p_law_some : List Str := ["flow", "pipe"]
theorem sc_p_law_some : FnScope N_p_law_some ["flow"] (defScope st_p_law_some) := ⟨rfl, rfl, rfl, by decide +kernel, rfl, by decide +kernel, by decide +kernel⟩
theorem ok_p_law_some {f : Addr} {fd : FuncData} (F : Fun K "_law_some" "_law_some" st_p_law_some f fd) (hm : mg "_law_some" = some (.ref f)) (b : Binds K fd ["flow"] []) (T : Top K mg)  : Fok P wd ⟨K, mg⟩ base 1 "_law_some" 1 F_p_law_some :=
  fok_of (N := N_p_law_some) F sc_p_law_some hm b (fun cdv A outer s H E c =>
    (ds_one (ds_ret (de_callTy jc_tuple (by rfl) T.tuple (by decide +kernel) (da_cons (de_lc (own := [("pipe", 1)]) (by decide) (.inl rfl) (pe_lc (own := [("pipe", 1)]) c.calm sc_p_law_some.nd (di_seq (de_ix (jo_ix c.u1) (de_var (pv 0)) de_int (fun _ _ => rfl))) (blkOk_by (N := N_p_law_some) (sc := defScope st_p_law_some) (by decide +kernel)) (fun _ _ _ _ _ => (dg_name (pg_name (i := 1) sc_p_law_some.nd rfl (Or.inl rfl)))) (fun _ _ _ _ _ => dts_nil) (fun _ _ _ _ _ => (de_ix (jo_ix (c.blk _ _ _ _ _).u1) (de_var (pv 1)) de_int (fun _ _ => rfl))))) da_nil)))))
abbrev st_p_law_do : Stmt := topS 35
abbrev N_p_law_do : List Str := ["flow", "counts", "some", "done", "turn", "fits", "box"]
theorem sc_p_law_do : FnScope N_p_law_do ["flow", "counts"] (defScope st_p_law_do) := ⟨rfl, rfl, rfl, by decide +kernel, rfl, by decide +kernel, by decide +kernel⟩
theorem ok_p_law_do {f : Addr} {fd : FuncData} (F : Fun K "_law_do" "_law_do" st_p_law_do f fd) (hm : mg "_law_do" = some (.ref f)) (b : Binds K fd ["flow", "counts"] []) (T : Top K mg) (H_p_law_can : Fok P wd ⟨K, mg⟩ base 1 "_law_can" 3 F_p_law_can) (H_p_law_next : Fok P wd ⟨K, mg⟩ base 1 "_law_next" 3 F_p_law_next) (H_p_law_some : Fok P wd ⟨K, mg⟩ base 1 "_law_some" 1 F_p_law_some) : Fok P wd ⟨K, mg⟩ base 2 "_law_do" 2 F_p_law_do :=
  fok_of (N := N_p_law_do) F sc_p_law_do hm b (fun cdv A outer s H E c =>
    (ds_cons (ds_asg (de_tup (da_cons (de_call H_p_law_some (by decide) c.hr c.tk (by rfl) (by rfl) (da_cons (de_var (pv 0)) da_nil) (hlen := (alen_cons alen_nil))) (da_cons (de_op jo_mulL (de_lst (da_cons de_int da_nil)) (de_ix (jo_ix c.u1) (de_var (pv 0)) de_int (fun _ _ => rfl))) da_nil))) (dg_tup c.calm (dg_cons (dg_name (pg_name (i := 2) sc_p_law_do.nd rfl (Or.inr rfl))) (dg_cons (dg_name (pg_name (i := 3) sc_p_law_do.nd rfl (Or.inr rfl))) dg_nil))))
    (ds_cons (ds_for c.po c.calm (di_rng1 (by rfl) T.range (da_cons (de_op jo_add (de_callB (jc_sum c.calm) (by rfl) T.sum (by decide +kernel) (da_cons (de_var (pv 1)) da_nil)) de_int) da_nil)) (dg_name (pg_name (i := 4) sc_p_law_do.nd rfl (Or.inl rfl))) (ds_cons (ds_setT (ps_setLc (i := 5) (own := [("box", 6)]) c.calm sc_p_law_do.nd rfl rfl (sw_true rfl rfl rfl (by decide +kernel)) (di_rng1 (by rfl) T.range (da_cons (de_ix (jo_ix c.u1) (de_var (pv 0)) de_int (fun _ _ => rfl)) da_nil)) (blkOk_by (N := N_p_law_do) (sc := defScope st_p_law_do) (by decide +kernel)) (fun _ _ _ _ _ => (dg_name (pg_name (i := 6) sc_p_law_do.nd rfl (Or.inl rfl)))) (fun _ _ _ _ _ => (dts_one (PW.pt (dw_and (dt_cmp jo_lt (de_ix (jo_ix (c.blk _ _ _ _ _).u1) (de_var (pv 3)) (de_var (pv 6)) (fun _ _ => rfl)) (de_ix (jo_ix (c.blk _ _ _ _ _).u1) (de_var (pv 1)) (de_var (pv 6)) (fun _ _ => rfl)) (nomark _)) (dw_and1 (dt_truth (de_call H_p_law_can (by decide) (c.blk _ _ _ _ _).hr (c.blk _ _ _ _ _).tk (by rfl) (by rfl) (da_cons (de_var (pv 0)) (da_cons (de_var (pv 2)) (da_cons (de_var (pv 6)) da_nil))) (hlen := (alen_cons (alen_cons (alen_cons alen_nil))))))))))) (fun _ _ _ _ _ => (de_var (pv 6)))) (lcUse (by decide) (.inl rfl)))
    (ds_cons (ds_if (dt_cmp (jo_eq c.u64) (de_var (pv 5)) (de_lst da_nil) (nomark _)) (ds_one (ds_ret (de_tup (da_cons (de_var (pv 3)) (da_cons (de_var (pv 2)) da_nil))))) ds_nil)
    (ds_cons (ds_set (fun te h => ps_set (i := 2) sc_p_law_do.nd rfl (Or.inr rfl) h) (de_call H_p_law_next (by decide) c.hr c.tk (by rfl) (by rfl) (da_cons (de_var (pv 0)) (da_cons (de_var (pv 2)) (da_cons (de_ix (jo_ix c.u1) (de_var (pv 5)) (de_un ju_neg de_int) (fun _ _ => rfl)) da_nil))) (hlen := (alen_cons (alen_cons (alen_cons alen_nil))))))
    (ds_one (ds_put (de_var (pv 3)) (de_ix (jo_ix c.u1) (de_var (pv 5)) (de_un ju_neg de_int) (fun _ _ => rfl)) (de_op jo_add (de_ix (jo_ix c.u1) (de_var (pv 3)) (de_ix (jo_ix c.u1) (de_var (pv 5)) (de_un ju_neg de_int) (fun _ _ => rfl)) (fun _ _ => rfl)) de_int) c.u1))))))
    (ds_one (ds_ret (de_tup (da_cons (de_var (pv 3)) (da_cons (de_var (pv 2)) da_nil))))))))
abbrev st_p_law_joined : Stmt := topS 30
abbrev N_p_law_joined : List Str := ["flow", "box", "both", "found", "turn", "more", "pipe", "k"]
theorem sc_p_law_joined : FnScope N_p_law_joined ["flow", "box", "both"] (defScope st_p_law_joined) := ⟨rfl, rfl, rfl, by decide +kernel, rfl, by decide +kernel, by decide +kernel⟩
theorem ok_p_law_joined {f : Addr} {fd : FuncData} (F : Fun K "_law_joined" "_law_joined" st_p_law_joined f fd) (hm : mg "_law_joined" = some (.ref f)) (b : Binds K fd ["flow", "box", "both"] []) (T : Top K mg)  : Fok P wd ⟨K, mg⟩ base 1 "_law_joined" 3 F_p_law_joined :=
  fok_of (N := N_p_law_joined) F sc_p_law_joined hm b (fun cdv A outer s H E c =>
    (ds_cons (ds_set (fun te h => ps_set (i := 3) sc_p_law_joined.nd rfl (Or.inr rfl) h) (de_lst (da_cons (de_var (pv 1)) da_nil)))
    (ds_cons (ds_for c.po c.calm (di_rng1 (by rfl) T.range (da_cons (de_ix (jo_ix c.u1) (de_var (pv 0)) de_int (fun _ _ => rfl)) da_nil)) (dg_name (pg_name (i := 4) sc_p_law_joined.nd rfl (Or.inl rfl))) (ds_cons (ds_set (fun te h => ps_set (i := 5) sc_p_law_joined.nd rfl (Or.inr rfl) h) (de_lc (own := [("pipe", 6)]) (by decide) (.inl rfl) (pe_lc (own := [("pipe", 6)]) c.calm sc_p_law_joined.nd (di_seq (de_ix (jo_ix c.u1) (de_var (pv 0)) de_int (fun _ _ => rfl))) (blkOk_by (N := N_p_law_joined) (sc := defScope st_p_law_joined) (by decide +kernel)) (fun _ _ _ _ _ => (dg_name (pg_name (i := 6) sc_p_law_joined.nd rfl (Or.inl rfl)))) (fun _ _ _ _ _ => (dts_one (dt_cmp (jo_in (c.blk _ _ _ _ _).u65) (de_ix (jo_ix (c.blk _ _ _ _ _).u1) (de_var (pv 6)) de_int (fun _ _ => rfl)) (de_var (pv 3)) (by rfl)))) (fun _ _ _ _ _ => (de_ix (jo_ix (c.blk _ _ _ _ _).u1) (de_var (pv 6)) de_int (fun _ _ => rfl))))))
    (ds_cons (ds_set (fun te h => ps_set (i := 5) sc_p_law_joined.nd rfl (Or.inr rfl) h) (de_op jo_add (de_var (pv 5)) (de_lc (own := [("pipe", 6)]) (by decide) (.inl rfl) (pe_lc (own := [("pipe", 6)]) c.calm sc_p_law_joined.nd (di_seq (de_ix (jo_ix c.u1) (de_var (pv 0)) de_int (fun _ _ => rfl))) (blkOk_by (N := N_p_law_joined) (sc := defScope st_p_law_joined) (by decide +kernel)) (fun _ _ _ _ _ => (dg_name (pg_name (i := 6) sc_p_law_joined.nd rfl (Or.inl rfl)))) (fun _ _ _ _ _ => (dts_one (PW.pt (dw_and (dt_truth (de_var (pv 2))) (dw_and1 (dt_cmp (jo_in (c.blk _ _ _ _ _).u65) (de_ix (jo_ix (c.blk _ _ _ _ _).u1) (de_var (pv 6)) de_int (fun _ _ => rfl)) (de_var (pv 3)) (by rfl))))))) (fun _ _ _ _ _ => (de_ix (jo_ix (c.blk _ _ _ _ _).u1) (de_var (pv 6)) de_int (fun _ _ => rfl)))))))
    (ds_one (ds_set (fun te h => ps_set (i := 3) sc_p_law_joined.nd rfl (Or.inr rfl) h) (de_lc (own := [("k", 7)]) (by decide) (.inl rfl) (pe_lc (own := [("k", 7)]) c.calm sc_p_law_joined.nd (di_rng1 (by rfl) T.range (da_cons (de_ix (jo_ix c.u1) (de_var (pv 0)) de_int (fun _ _ => rfl)) da_nil)) (blkOk_by (N := N_p_law_joined) (sc := defScope st_p_law_joined) (by decide +kernel)) (fun _ _ _ _ _ => (dg_name (pg_name (i := 7) sc_p_law_joined.nd rfl (Or.inl rfl)))) (fun _ _ _ _ _ => (dts_one (PW.pt (dw_or (dt_cmp (jo_in (c.blk _ _ _ _ _).u65) (de_var (pv 7)) (de_var (pv 3)) (by rfl)) (dw_or1 (dt_cmp (jo_in (c.blk _ _ _ _ _).u65) (de_var (pv 7)) (de_var (pv 5)) (by rfl))))))) (fun _ _ _ _ _ => (de_var (pv 7))))))))))
    (ds_one (ds_ret (de_var (pv 3)))))))
abbrev st_p_law_ratio : Stmt := topS 29
abbrev N_p_law_ratio : List Str := ["numerator", "denominator", "common"]
theorem sc_p_law_ratio : FnScope N_p_law_ratio ["numerator", "denominator"] (defScope st_p_law_ratio) := ⟨rfl, rfl, rfl, by decide +kernel, rfl, by decide +kernel, by decide +kernel⟩
theorem ok_p_law_ratio {f : Addr} {fd : FuncData} (F : Fun K "_law_ratio" "_law_ratio" st_p_law_ratio f fd) (hm : mg "_law_ratio" = some (.ref f)) (b : Binds K fd ["numerator", "denominator"] []) (T : Top K mg) (H_p_law_gcd : Fok P wd ⟨K, mg⟩ base 1 "_law_gcd" 2 F_p_law_gcd) : Fok P wd ⟨K, mg⟩ base 2 "_law_ratio" 2 F_p_law_ratio :=
  fok_of (N := N_p_law_ratio) F sc_p_law_ratio hm b (fun cdv A outer s H E c =>
    (ds_cons (ds_set (fun te h => ps_set (i := 2) sc_p_law_ratio.nd rfl (Or.inl rfl) h) (de_call H_p_law_gcd (by decide) c.hr c.tk (by rfl) (by rfl) (da_cons (de_var (pv 0)) (da_cons (de_var (pv 1)) da_nil)) (hlen := (alen_cons (alen_cons alen_nil)))))
    (ds_cons (ds_set (fun te h => ps_set (i := 2) sc_p_law_ratio.nd rfl (Or.inl rfl) h) (de_if (dt_cmp jo_lt (de_var (pv 1)) de_int (nomark _)) (de_op jo_sub de_int (de_var (pv 2))) (de_var (pv 2))))
    (ds_one (ds_ret (de_tup (da_cons (de_op jo_div (de_var (pv 0)) (de_var (pv 2))) (da_cons (de_op jo_div (de_var (pv 1)) (de_var (pv 2))) da_nil))))))))
abbrev st_p_law_round : Stmt := topS 31
abbrev N_p_law_round : List Str := ["flow", "shares", "box", "turn", "one", "other", "give", "eat", "start", "found", "part", "below", "common", "k"]
theorem sc_p_law_round : FnScope N_p_law_round ["flow"] (defScope st_p_law_round) := ⟨rfl, rfl, rfl, by decide +kernel, rfl, by decide +kernel, by decide +kernel⟩
theorem ok_p_law_round {f : Addr} {fd : FuncData} (F : Fun K "_law_round" "_law_round" st_p_law_round f fd) (hm : mg "_law_round" = some (.ref f)) (b : Binds K fd ["flow"] []) (T : Top K mg) (H_p_law_gcd : Fok P wd ⟨K, mg⟩ base 1 "_law_gcd" 2 F_p_law_gcd) (H_p_law_joined : Fok P wd ⟨K, mg⟩ base 1 "_law_joined" 3 F_p_law_joined) (H_p_law_ratio : Fok P wd ⟨K, mg⟩ base 2 "_law_ratio" 2 F_p_law_ratio) : Fok P wd ⟨K, mg⟩ base 3 "_law_round" 1 F_p_law_round :=
  fok_of (N := N_p_law_round) F sc_p_law_round hm b (fun cdv A outer s H E c =>
    (ds_cons (ds_set (fun te h => ps_set (i := 1) sc_p_law_round.nd rfl (Or.inl rfl) h) de_dctL)
    (ds_cons (ds_for c.po c.calm (di_rng1 (by rfl) T.range (da_cons (de_ix (jo_ix c.u1) (de_var (pv 0)) de_int (fun _ _ => rfl)) da_nil)) (dg_name (pg_name (i := 2) sc_p_law_round.nd rfl (Or.inl rfl))) (ds_one (ds_if (dt_cmp (jo_nin c.u65) (de_var (pv 2)) (de_var (pv 1)) (by rfl)) (ds_cons (ds_put (de_var (pv 1)) (de_var (pv 2)) (de_tup (da_cons de_int (da_cons de_int da_nil))) c.u1)
    (ds_one (ds_for c.po c.calm (di_rng1 (by rfl) T.range (da_cons (de_ix (jo_ix c.u1) (de_var (pv 0)) de_int (fun _ _ => rfl)) da_nil)) (dg_name (pg_name (i := 3) sc_p_law_round.nd rfl (Or.inl rfl))) (ds_one (ds_for c.po c.calm (di_seq (de_ix (jo_ix c.u1) (de_var (pv 0)) de_int (fun _ _ => rfl))) (dg_tup c.calm (dg_cons (dg_name (pg_name (i := 4) sc_p_law_round.nd rfl (Or.inl rfl))) (dg_cons (dg_name (pg_name (i := 5) sc_p_law_round.nd rfl (Or.inl rfl))) (dg_cons (dg_name (pg_name (i := 6) sc_p_law_round.nd rfl (Or.inl rfl))) (dg_cons (dg_name (pg_name (i := 7) sc_p_law_round.nd rfl (Or.inl rfl))) (dg_cons (dg_name (pg_name (i := 8) sc_p_law_round.nd rfl (Or.inl rfl))) dg_nil)))))) (ds_cons (ds_if (PW.pt (dw_and (dt_cmp (jo_in c.u65) (de_var (pv 4)) (de_var (pv 1)) (by rfl)) (dw_and1 (dt_cmp (jo_nin c.u65) (de_var (pv 5)) (de_var (pv 1)) (by rfl))))) (ds_one (ds_put (de_var (pv 1)) (de_var (pv 5)) (de_call H_p_law_ratio (by decide) c.hr c.tk (by rfl) (by rfl) (da_cons (de_op jo_mul (de_ix (jo_ix c.u1) (de_ix (jo_ix c.u1) (de_var (pv 1)) (de_var (pv 4)) (fun _ _ => rfl)) de_int (fun _ _ => rfl)) (de_var (pv 6))) (da_cons (de_op jo_mul (de_ix (jo_ix c.u1) (de_ix (jo_ix c.u1) (de_var (pv 1)) (de_var (pv 4)) (fun _ _ => rfl)) de_int (fun _ _ => rfl)) (de_var (pv 7))) da_nil)) (hlen := (alen_cons (alen_cons alen_nil)))) c.u1)) ds_nil)
    (ds_one (ds_if (PW.pt (dw_and (dt_cmp (jo_in c.u65) (de_var (pv 5)) (de_var (pv 1)) (by rfl)) (dw_and1 (dt_cmp (jo_nin c.u65) (de_var (pv 4)) (de_var (pv 1)) (by rfl))))) (ds_one (ds_put (de_var (pv 1)) (de_var (pv 4)) (de_call H_p_law_ratio (by decide) c.hr c.tk (by rfl) (by rfl) (da_cons (de_op jo_mul (de_ix (jo_ix c.u1) (de_ix (jo_ix c.u1) (de_var (pv 1)) (de_var (pv 5)) (fun _ _ => rfl)) de_int (fun _ _ => rfl)) (de_var (pv 7))) (da_cons (de_op jo_mul (de_ix (jo_ix c.u1) (de_ix (jo_ix c.u1) (de_var (pv 1)) (de_var (pv 5)) (fun _ _ => rfl)) de_int (fun _ _ => rfl)) (de_var (pv 6))) da_nil)) (hlen := (alen_cons (alen_cons alen_nil)))) c.u1)) ds_nil)))))))) ds_nil)))
    (ds_cons (ds_set (fun te h => ps_set (i := 9) sc_p_law_round.nd rfl (Or.inl rfl) h) (de_lstL da_nil))
    (ds_cons (ds_for c.po c.calm (di_rng1 (by rfl) T.range (da_cons (de_ix (jo_ix c.u1) (de_var (pv 0)) de_int (fun _ _ => rfl)) da_nil)) (dg_name (pg_name (i := 2) sc_p_law_round.nd rfl (Or.inl rfl))) (ds_cons (ds_par3 (i := 10) (j := 11) (l := 12) c.calm sc_p_law_round.nd rfl rfl rfl (by decide) (by decide) (by decide) rfl rfl rfl (da_cons (de_call H_p_law_joined (by decide) c.hr c.tk (by rfl) (by rfl) (da_cons (de_var (pv 0)) (da_cons (de_var (pv 2)) (da_cons de_bl da_nil))) (hlen := (alen_cons (alen_cons (alen_cons alen_nil))))) (da_cons de_int (da_cons de_int da_nil))) (by rfl))
    (ds_cons (ds_for c.po c.calm (di_seq (de_var (pv 10))) (dg_name (pg_name (i := 13) sc_p_law_round.nd rfl (Or.inl rfl))) (ds_one (ds_set (fun te h => ps_set (i := 11) sc_p_law_round.nd rfl (Or.inl rfl) h) (de_op jo_div (de_op jo_mul (de_var (pv 11)) (de_ix (jo_ix c.u1) (de_ix (jo_ix c.u1) (de_var (pv 1)) (de_var (pv 13)) (fun _ _ => rfl)) de_int (fun _ _ => rfl))) (de_call H_p_law_gcd (by decide) c.hr c.tk (by rfl) (by rfl) (da_cons (de_var (pv 11)) (da_cons (de_ix (jo_ix c.u1) (de_ix (jo_ix c.u1) (de_var (pv 1)) (de_var (pv 13)) (fun _ _ => rfl)) de_int (fun _ _ => rfl)) da_nil)) (hlen := (alen_cons (alen_cons alen_nil))))))))
    (ds_cons (ds_for c.po c.calm (di_seq (de_var (pv 10))) (dg_name (pg_name (i := 13) sc_p_law_round.nd rfl (Or.inl rfl))) (ds_one (ds_set (fun te h => ps_set (i := 12) sc_p_law_round.nd rfl (Or.inl rfl) h) (de_call H_p_law_gcd (by decide) c.hr c.tk (by rfl) (by rfl) (da_cons (de_var (pv 12)) (da_cons (de_op jo_div (de_op jo_mul (de_var (pv 11)) (de_ix (jo_ix c.u1) (de_ix (jo_ix c.u1) (de_var (pv 1)) (de_var (pv 13)) (fun _ _ => rfl)) de_int (fun _ _ => rfl))) (de_ix (jo_ix c.u1) (de_ix (jo_ix c.u1) (de_var (pv 1)) (de_var (pv 13)) (fun _ _ => rfl)) de_int (fun _ _ => rfl))) da_nil)) (hlen := (alen_cons (alen_cons alen_nil)))))))
    (ds_one (ds_expr (de_meth PySem.F.slot_list_append PySem.F.type_list_append jm_append (de_var (pv 9)) (da_cons (de_op jo_div (de_op jo_div (de_op jo_mul (de_var (pv 11)) (de_ix (jo_ix c.u1) (de_ix (jo_ix c.u1) (de_var (pv 1)) (de_var (pv 2)) (fun _ _ => rfl)) de_int (fun _ _ => rfl))) (de_ix (jo_ix c.u1) (de_ix (jo_ix c.u1) (de_var (pv 1)) (de_var (pv 2)) (fun _ _ => rfl)) de_int (fun _ _ => rfl))) (de_var (pv 12))) da_nil))))))))
    (ds_one (ds_ret (de_var (pv 9)))))))))
abbrev st_p_law_with : Stmt := topS 36
abbrev N_p_law_with : List Str := ["flow", "some", "k"]
theorem sc_p_law_with : FnScope N_p_law_with ["flow", "some"] (defScope st_p_law_with) := ⟨rfl, rfl, rfl, by decide +kernel, rfl, by decide +kernel, by decide +kernel⟩
theorem ok_p_law_with {f : Addr} {fd : FuncData} (F : Fun K "_law_with" "_law_with" st_p_law_with f fd) (hm : mg "_law_with" = some (.ref f)) (b : Binds K fd ["flow", "some"] []) (T : Top K mg)  : Fok P wd ⟨K, mg⟩ base 1 "_law_with" 2 F_p_law_with :=
  fok_of (N := N_p_law_with) F sc_p_law_with hm b (fun cdv A outer s H E c =>
    (ds_one (ds_ret (de_tup (da_cons (de_ix (jo_ix c.u1) (de_var (pv 0)) de_int (fun _ _ => rfl)) (da_cons (de_callTy jc_tuple (by rfl) T.tuple (by decide +kernel) (da_cons (de_lc (own := [("k", 2)]) (by decide) (.inl rfl) (pe_lc (own := [("k", 2)]) c.calm sc_p_law_with.nd (di_rng1 (by rfl) T.range (da_cons (de_callB jc_len (by rfl) T.len (by decide +kernel) (da_cons (de_ix (jo_ix c.u1) (de_var (pv 0)) de_int (fun _ _ => rfl)) da_nil)) da_nil)) (blkOk_by (N := N_p_law_with) (sc := defScope st_p_law_with) (by decide +kernel)) (fun _ _ _ _ _ => (dg_name (pg_name (i := 2) sc_p_law_with.nd rfl (Or.inl rfl)))) (fun _ _ _ _ _ => dts_nil) (fun _ _ _ _ _ => (de_op jo_add (de_slice (de_ix (jo_ix (c.blk _ _ _ _ _).u1) (de_ix (jo_ix (c.blk _ _ _ _ _).u1) (de_var (pv 0)) de_int (fun _ _ => rfl)) (de_var (pv 2)) (fun _ _ => rfl)) dp_none (dp_some de_int)) (de_tup (da_cons (de_ix (jo_ix (c.blk _ _ _ _ _).u1) (de_var (pv 1)) (de_var (pv 2)) (fun _ _ => rfl)) da_nil)))))) da_nil)) da_nil))))))
abbrev st_p_law_live : Stmt := topS 37
abbrev N_p_law_live : List Str := ["row", "most", "top", "flow", "counts", "turn", "done", "some", "left", "k", "pipe"]
theorem sc_p_law_live : FnScope N_p_law_live ["row", "most", "top"] (defScope st_p_law_live) := ⟨rfl, rfl, rfl, by decide +kernel, rfl, by decide +kernel, by decide +kernel⟩
theorem ok_p_law_live {f : Addr} {fd : FuncData} (F : Fun K "_law_live" "_law_live" st_p_law_live f fd) (hm : mg "_law_live" = some (.ref f)) (b : Binds K fd ["row", "most", "top"] []) (T : Top K mg) (H_p_law_do : Fok P wd ⟨K, mg⟩ base 2 "_law_do" 2 F_p_law_do) (H_p_law_flow : Fok P wd ⟨K, mg⟩ base 3 "_law_flow" 3 F_p_law_flow) (H_p_law_pick : Fok P wd ⟨K, mg⟩ base 2 "_law_pick" 2 F_p_law_pick) (H_p_law_round : Fok P wd ⟨K, mg⟩ base 3 "_law_round" 1 F_p_law_round) (H_p_law_some : Fok P wd ⟨K, mg⟩ base 1 "_law_some" 1 F_p_law_some) (H_p_law_with : Fok P wd ⟨K, mg⟩ base 1 "_law_with" 2 F_p_law_with) : Fok P wd ⟨K, mg⟩ base 4 "_law_live" 3 F_p_law_live :=
  fok_of (N := N_p_law_live) F sc_p_law_live hm b (fun cdv A outer s H E c =>
    (ds_cons (ds_set (fun te h => ps_set (i := 3) sc_p_law_live.nd rfl (Or.inr rfl) h) (de_call H_p_law_flow (by decide) c.hr c.tk (by rfl) (by rfl) (da_cons (de_var (pv 0)) (da_cons (de_var (pv 1)) (da_cons (de_var (pv 2)) da_nil))) (hlen := (alen_cons (alen_cons (alen_cons alen_nil))))))
    (ds_cons (ds_set (fun te h => ps_set (i := 4) sc_p_law_live.nd rfl (Or.inr rfl) h) (de_call H_p_law_round (by decide) c.hr c.tk (by rfl) (by rfl) (da_cons (de_var (pv 3)) da_nil) (hlen := (alen_cons alen_nil))))
    (ds_cons (ds_for c.po c.calm (di_rng1 (by rfl) T.range (da_cons de_int da_nil)) (dg_name (pg_name (i := 5) sc_p_law_live.nd rfl (Or.inl rfl))) (ds_cons (ds_asg (de_call H_p_law_do (by decide) c.hr c.tk (by rfl) (by rfl) (da_cons (de_var (pv 3)) (da_cons (de_var (pv 4)) da_nil)) (hlen := (alen_cons (alen_cons alen_nil)))) (dg_tup c.calm (dg_cons (dg_name (pg_name (i := 6) sc_p_law_live.nd rfl (Or.inr rfl))) (dg_cons (dg_name (pg_name (i := 7) sc_p_law_live.nd rfl (Or.inr rfl))) dg_nil))))
    (ds_cons (ds_setT (ps_setLc (i := 8) (own := [("k", 9)]) c.calm sc_p_law_live.nd rfl rfl (sw_true rfl rfl rfl (by decide +kernel)) (di_rng1 (by rfl) T.range (da_cons (de_callB jc_len (by rfl) T.len (by decide +kernel) (da_cons (de_var (pv 7)) da_nil)) da_nil)) (blkOk_by (N := N_p_law_live) (sc := defScope st_p_law_live) (by decide +kernel)) (fun _ _ _ _ _ => (dg_name (pg_name (i := 9) sc_p_law_live.nd rfl (Or.inl rfl)))) (fun _ _ _ _ _ => (dts_one (PW.pt (dw_and (dt_cmp jo_lt (de_ix (jo_ix (c.blk _ _ _ _ _).u1) (de_var (pv 6)) (de_ix (jo_ix (c.blk _ _ _ _ _).u1) (de_ix (jo_ix (c.blk _ _ _ _ _).u1) (de_ix (jo_ix (c.blk _ _ _ _ _).u1) (de_var (pv 3)) de_int (fun _ _ => rfl)) (de_var (pv 9)) (fun _ _ => rfl)) de_int (fun _ _ => rfl)) (fun _ _ => rfl)) (de_ix (jo_ix (c.blk _ _ _ _ _).u1) (de_var (pv 4)) (de_ix (jo_ix (c.blk _ _ _ _ _).u1) (de_ix (jo_ix (c.blk _ _ _ _ _).u1) (de_ix (jo_ix (c.blk _ _ _ _ _).u1) (de_var (pv 3)) de_int (fun _ _ => rfl)) (de_var (pv 9)) (fun _ _ => rfl)) de_int (fun _ _ => rfl)) (fun _ _ => rfl)) (nomark _)) (dw_and1 (dt_cmp jo_lt (de_ix (jo_ix (c.blk _ _ _ _ _).u1) (de_var (pv 7)) (de_var (pv 9)) (fun _ _ => rfl)) (de_ix (jo_ix (c.blk _ _ _ _ _).u1) (de_ix (jo_ix (c.blk _ _ _ _ _).u1) (de_ix (jo_ix (c.blk _ _ _ _ _).u1) (de_var (pv 3)) de_int (fun _ _ => rfl)) (de_var (pv 9)) (fun _ _ => rfl)) de_int (fun _ _ => rfl)) (nomark _))))))) (fun _ _ _ _ _ => (de_var (pv 9)))) (lcUse (by decide) (.inl rfl)))
    (ds_one (ds_if (dt_cmp (jo_ne c.u64) (de_var (pv 8)) (de_lst da_nil) (nomark _)) (ds_cons (ds_set (fun te h => ps_set (i := 9) sc_p_law_live.nd rfl (Or.inl rfl) h) (de_call H_p_law_pick (by decide) c.hr c.tk (by rfl) (by rfl) (da_cons (de_var (pv 0)) (da_cons (de_var (pv 8)) da_nil)) (hlen := (alen_cons (alen_cons alen_nil)))))
    (ds_one (ds_set (fun te h => ps_set (i := 3) sc_p_law_live.nd rfl (Or.inr rfl) h) (de_call H_p_law_with (by decide) c.hr c.tk (by rfl) (by rfl) (da_cons (de_var (pv 3)) (da_cons (de_op jo_add (de_op jo_add (de_slice (de_call H_p_law_some (by decide) c.hr c.tk (by rfl) (by rfl) (da_cons (de_var (pv 3)) da_nil) (hlen := (alen_cons alen_nil))) dp_none (dp_some (de_var (pv 9)))) (de_tup (da_cons (de_op jo_add (de_ix (jo_ix c.u1) (de_ix (jo_ix c.u1) (de_ix (jo_ix c.u1) (de_var (pv 3)) de_int (fun _ _ => rfl)) (de_var (pv 9)) (fun _ _ => rfl)) de_int (fun _ _ => rfl)) (de_ix (jo_ix c.u1) (de_ix (jo_ix c.u1) (de_ix (jo_ix c.u1) (de_var (pv 3)) de_int (fun _ _ => rfl)) (de_var (pv 9)) (fun _ _ => rfl)) de_int (fun _ _ => rfl))) da_nil))) (de_slice (de_call H_p_law_some (by decide) c.hr c.tk (by rfl) (by rfl) (da_cons (de_var (pv 3)) da_nil) (hlen := (alen_cons alen_nil))) (dp_some (de_op jo_add (de_var (pv 9)) de_int)) dp_none)) da_nil)) (hlen := (alen_cons (alen_cons alen_nil))))))) ds_nil)))))
    (ds_cons (ds_if (dt_cmp (jo_ne c.u64) (de_ix (jo_ix c.u1) (de_call H_p_law_do (by decide) c.hr c.tk (by rfl) (by rfl) (da_cons (de_var (pv 3)) (da_cons (de_var (pv 4)) da_nil)) (hlen := (alen_cons (alen_cons alen_nil)))) de_int (fun _ _ => rfl)) (de_var (pv 4)) (nomark _)) (ds_one (ds_set (fun te h => ps_set (i := 3) sc_p_law_live.nd rfl (Or.inr rfl) h) (de_call H_p_law_with (by decide) c.hr c.tk (by rfl) (by rfl) (da_cons (de_var (pv 3)) (da_cons (de_callTy jc_tuple (by rfl) T.tuple (by decide +kernel) (da_cons (de_lc (own := [("pipe", 10)]) (by decide) (.inl rfl) (pe_lc (own := [("pipe", 10)]) c.calm sc_p_law_live.nd (di_seq (de_ix (jo_ix c.u1) (de_var (pv 3)) de_int (fun _ _ => rfl))) (blkOk_by (N := N_p_law_live) (sc := defScope st_p_law_live) (by decide +kernel)) (fun _ _ _ _ _ => (dg_name (pg_name (i := 10) sc_p_law_live.nd rfl (Or.inl rfl)))) (fun _ _ _ _ _ => dts_nil) (fun _ _ _ _ _ => (de_op jo_mul (de_ix (jo_ix (c.blk _ _ _ _ _).u1) (de_var (pv 10)) de_int (fun _ _ => rfl)) (de_ix (jo_ix (c.blk _ _ _ _ _).u1) (de_var (pv 4)) (de_ix (jo_ix (c.blk _ _ _ _ _).u1) (de_var (pv 10)) de_int (fun _ _ => rfl)) (fun _ _ => rfl)))))) da_nil)) da_nil)) (hlen := (alen_cons (alen_cons alen_nil)))))) ds_nil)
    (ds_one (ds_ret (de_var (pv 3)))))))))
abbrev st_p_is_whole : Stmt := topS 9
abbrev N_p_is_whole : List Str := ["value"]
theorem sc_p_is_whole : FnScope N_p_is_whole ["value"] (defScope st_p_is_whole) := ⟨rfl, rfl, rfl, by decide +kernel, rfl, by decide +kernel, by decide +kernel⟩
theorem ok_p_is_whole {f : Addr} {fd : FuncData} (F : Fun K "is_whole" "is_whole" st_p_is_whole f fd) (hm : mg "is_whole" = some (.ref f)) (b : Binds K fd ["value"] []) (T : Top K mg)  : Fok P wd ⟨K, mg⟩ base 1 "is_whole" 1 F_p_is_whole :=
  fok_of (N := N_p_is_whole) F sc_p_is_whole hm b (fun cdv A outer s H E c =>
    (ds_one (ds_ret (de_and (jc_isi (x := "isinstance") (by decide) (de_var (pv 0)) (pe_bltn (v := .ty "int") (by rfl) T.int (by decide +kernel) rfl) (by rfl) T.isinstance) (de_one (de_not (jc_isi (x := "isinstance") (by decide) (de_var (pv 0)) (pe_bltn (v := .ty "bool") (by rfl) T.bool (by decide +kernel) rfl) (by rfl) T.isinstance)))))))
abbrev st_p_is_number : Stmt := topS 10
abbrev N_p_is_number : List Str := ["value", "low", "high"]
theorem sc_p_is_number : FnScope N_p_is_number ["value", "low", "high"] (defScope st_p_is_number) := ⟨rfl, rfl, rfl, by decide +kernel, rfl, by decide +kernel, by decide +kernel⟩
theorem ok_p_is_number {f : Addr} {fd : FuncData} (F : Fun K "is_number" "is_number" st_p_is_number f fd) (hm : mg "is_number" = some (.ref f)) (b : Binds K fd ["value", "low", "high"] []) (T : Top K mg) (H_p_is_whole : Fok P wd ⟨K, mg⟩ base 1 "is_whole" 1 F_p_is_whole) : Fok P wd ⟨K, mg⟩ base 2 "is_number" 3 F_p_is_number :=
  fok_of (N := N_p_is_number) F sc_p_is_number hm b (fun cdv A outer s H E c =>
    (ds_one (ds_ret (de_and (de_call H_p_is_whole (by decide) c.hr c.tk (by rfl) (by rfl) (da_cons (de_var (pv 0)) da_nil) (hlen := (alen_cons alen_nil))) (de_one (de_chain jo_le jo_le (de_var (pv 1)) (de_var (pv 0)) (de_var (pv 2))))))))
abbrev st_p_is_box : Stmt := topS 11
abbrev N_p_is_box : List Str := ["value", "boxes"]
theorem sc_p_is_box : FnScope N_p_is_box ["value", "boxes"] (defScope st_p_is_box) := ⟨rfl, rfl, rfl, by decide +kernel, rfl, by decide +kernel, by decide +kernel⟩
theorem ok_p_is_box {f : Addr} {fd : FuncData} (F : Fun K "is_box" "is_box" st_p_is_box f fd) (hm : mg "is_box" = some (.ref f)) (b : Binds K fd ["value", "boxes"] []) (T : Top K mg) (H_p_is_number : Fok P wd ⟨K, mg⟩ base 2 "is_number" 3 F_p_is_number) : Fok P wd ⟨K, mg⟩ base 3 "is_box" 2 F_p_is_box :=
  fok_of (N := N_p_is_box) F sc_p_is_box hm b (fun cdv A outer s H E c =>
    (ds_one (ds_ret (de_call H_p_is_number (by decide) c.hr c.tk (by rfl) (by rfl) (da_cons (de_var (pv 0)) (da_cons de_int (da_cons (de_op jo_sub (de_var (pv 1)) de_int) da_nil))) (hlen := (alen_cons (alen_cons (alen_cons alen_nil))))))))
abbrev st_p_is_row : Stmt := topS 12
abbrev N_p_is_row : List Str := ["value", "many"]
theorem sc_p_is_row : FnScope N_p_is_row ["value", "many"] (defScope st_p_is_row) := ⟨rfl, rfl, rfl, by decide +kernel, rfl, by decide +kernel, by decide +kernel⟩
theorem ok_p_is_row {f : Addr} {fd : FuncData} (F : Fun K "is_row" "is_row" st_p_is_row f fd) (hm : mg "is_row" = some (.ref f)) (b : Binds K fd ["value", "many"] []) (T : Top K mg)  : Fok P wd ⟨K, mg⟩ base 1 "is_row" 2 F_p_is_row :=
  fok_of (N := N_p_is_row) F sc_p_is_row hm b (fun cdv A outer s H E c =>
    (ds_one (ds_ret (de_and (jc_isi (x := "isinstance") (by decide) (de_var (pv 0)) (pe_bltn (v := .ty "tuple") (by rfl) T.tuple (by decide +kernel) rfl) (by rfl) T.isinstance) (de_one (de_cmp (jo_eq c.u64) (de_callB jc_len (by rfl) T.len (by decide +kernel) (da_cons (de_var (pv 0)) da_nil)) (de_var (pv 1)) (nomark _)))))))
abbrev st_p_is_pipe : Stmt := topS 13
abbrev N_p_is_pipe : List Str := ["value", "boxes", "one", "other", "give", "eat", "start"]
theorem sc_p_is_pipe : FnScope N_p_is_pipe ["value", "boxes"] (defScope st_p_is_pipe) := ⟨rfl, rfl, rfl, by decide +kernel, rfl, by decide +kernel, by decide +kernel⟩
theorem ok_p_is_pipe {f : Addr} {fd : FuncData} (F : Fun K "is_pipe" "is_pipe" st_p_is_pipe f fd) (hm : mg "is_pipe" = some (.ref f)) (b : Binds K fd ["value", "boxes"] []) (T : Top K mg) (H_p_is_box : Fok P wd ⟨K, mg⟩ base 3 "is_box" 2 F_p_is_box) (H_p_is_number : Fok P wd ⟨K, mg⟩ base 2 "is_number" 3 F_p_is_number) (H_p_is_row : Fok P wd ⟨K, mg⟩ base 1 "is_row" 2 F_p_is_row) : Fok P wd ⟨K, mg⟩ base 4 "is_pipe" 2 F_p_is_pipe :=
  fok_of (N := N_p_is_pipe) F sc_p_is_pipe hm b (fun cdv A outer s H E c =>
    (ds_cons (ds_if (dt_not (dt_truth (de_call H_p_is_row (by decide) c.hr c.tk (by rfl) (by rfl) (da_cons (de_var (pv 0)) (da_cons de_int da_nil)) (hlen := (alen_cons (alen_cons alen_nil)))))) (ds_one (ds_ret de_bl)) ds_nil)
    (ds_cons (ds_asg (de_var (pv 0)) (dg_tup c.calm (dg_cons (dg_name (pg_name (i := 2) sc_p_is_pipe.nd rfl (Or.inl rfl))) (dg_cons (dg_name (pg_name (i := 3) sc_p_is_pipe.nd rfl (Or.inl rfl))) (dg_cons (dg_name (pg_name (i := 4) sc_p_is_pipe.nd rfl (Or.inl rfl))) (dg_cons (dg_name (pg_name (i := 5) sc_p_is_pipe.nd rfl (Or.inl rfl))) (dg_cons (dg_name (pg_name (i := 6) sc_p_is_pipe.nd rfl (Or.inl rfl))) dg_nil)))))))
    (ds_cons (ds_if (PW.pt (dw_or (dt_not (dt_truth (de_call H_p_is_box (by decide) c.hr c.tk (by rfl) (by rfl) (da_cons (de_var (pv 2)) (da_cons (de_var (pv 1)) da_nil)) (hlen := (alen_cons (alen_cons alen_nil)))))) (dw_or1 (dt_not (dt_truth (de_call H_p_is_box (by decide) c.hr c.tk (by rfl) (by rfl) (da_cons (de_var (pv 3)) (da_cons (de_var (pv 1)) da_nil)) (hlen := (alen_cons (alen_cons alen_nil))))))))) (ds_one (ds_ret de_bl)) ds_nil)
    (ds_cons (ds_if (PW.pt (dw_or (dt_not (dt_truth (de_call H_p_is_number (by decide) c.hr c.tk (by rfl) (by rfl) (da_cons (de_var (pv 4)) (da_cons de_int (da_cons (de_c (pe_glob (v := .int 999) (by rfl) T.c_MOST_RATE.choose_spec ⟨_, rfl⟩) fun _ => rfl) da_nil))) (hlen := (alen_cons (alen_cons (alen_cons alen_nil))))))) (dw_or1 (dt_not (dt_truth (de_call H_p_is_number (by decide) c.hr c.tk (by rfl) (by rfl) (da_cons (de_var (pv 5)) (da_cons de_int (da_cons (de_c (pe_glob (v := .int 999) (by rfl) T.c_MOST_RATE.choose_spec ⟨_, rfl⟩) fun _ => rfl) da_nil))) (hlen := (alen_cons (alen_cons (alen_cons alen_nil)))))))))) (ds_one (ds_ret de_bl)) ds_nil)
    (ds_one (ds_ret (de_call H_p_is_number (by decide) c.hr c.tk (by rfl) (by rfl) (da_cons (de_var (pv 6)) (da_cons de_int (da_cons (de_c (pe_glob (v := .int 99999) (by rfl) T.c_MOST_TOKENS.choose_spec ⟨_, rfl⟩) fun _ => rfl) da_nil))) (hlen := (alen_cons (alen_cons (alen_cons alen_nil))))))))))))
abbrev st_p_check_flow : Stmt := topS 14
abbrev N_p_check_flow : List Str := ["flow", "boxes", "pipes", "index", "pipe"]
theorem sc_p_check_flow : FnScope N_p_check_flow ["flow"] (defScope st_p_check_flow) := ⟨rfl, rfl, rfl, by decide +kernel, rfl, by decide +kernel, by decide +kernel⟩
theorem ok_p_check_flow {f : Addr} {fd : FuncData} (F : Fun K "check_flow" "check_flow" st_p_check_flow f fd) (hm : mg "check_flow" = some (.ref f)) (b : Binds K fd ["flow"] []) (T : Top K mg) (H_p_is_number : Fok P wd ⟨K, mg⟩ base 2 "is_number" 3 F_p_is_number) (H_p_is_pipe : Fok P wd ⟨K, mg⟩ base 4 "is_pipe" 2 F_p_is_pipe) (H_p_is_row : Fok P wd ⟨K, mg⟩ base 1 "is_row" 2 F_p_is_row) : Fok P wd ⟨K, mg⟩ base 5 "check_flow" 1 F_p_check_flow :=
  fok_of (N := N_p_check_flow) F sc_p_check_flow hm b (fun cdv A outer s H E c =>
    (ds_cons (ds_if (dt_not (dt_truth (de_call H_p_is_row (by decide) c.hr c.tk (by rfl) (by rfl) (da_cons (de_var (pv 0)) (da_cons de_int da_nil)) (hlen := (alen_cons (alen_cons alen_nil)))))) (ds_one ds_never) ds_nil)
    (ds_cons (ds_asg (de_var (pv 0)) (dg_tup c.calm (dg_cons (dg_name (pg_name (i := 1) sc_p_check_flow.nd rfl (Or.inl rfl))) (dg_cons (dg_name (pg_name (i := 2) sc_p_check_flow.nd rfl (Or.inl rfl))) dg_nil))))
    (ds_cons (ds_if (PW.pt (dw_or (dt_not (dt_truth (de_call H_p_is_number (by decide) c.hr c.tk (by rfl) (by rfl) (da_cons (de_var (pv 1)) (da_cons de_int (da_cons (de_c (pe_glob (v := .int 8) (by rfl) T.c_MOST_BOXES.choose_spec ⟨_, rfl⟩) fun _ => rfl) da_nil))) (hlen := (alen_cons (alen_cons (alen_cons alen_nil))))))) (dw_or (dt_not (dt_truth (jc_isi (x := "isinstance") (by decide) (de_var (pv 2)) (pe_bltn (v := .ty "tuple") (by rfl) T.tuple (by decide +kernel) rfl) (by rfl) T.isinstance))) (dw_or1 (dt_cmp jo_gt (de_callB jc_len (by rfl) T.len (by decide +kernel) (da_cons (de_var (pv 2)) da_nil)) (de_c (pe_glob (v := .int 16) (by rfl) T.c_MOST_PIPES.choose_spec ⟨_, rfl⟩) fun _ => rfl) (nomark _)))))) (ds_one ds_never) ds_nil)
    (ds_one (ds_for c.po c.calm (di_enum (by rfl) T.enumerate (da_cons (de_var (pv 2)) da_nil)) (dg_tup c.calm (dg_cons (dg_name (pg_name (i := 3) sc_p_check_flow.nd rfl (Or.inl rfl))) (dg_cons (dg_name (pg_name (i := 4) sc_p_check_flow.nd rfl (Or.inl rfl))) dg_nil))) (ds_one (ds_if (dt_not (dt_truth (de_call H_p_is_pipe (by decide) c.hr c.tk (by rfl) (by rfl) (da_cons (de_var (pv 4)) (da_cons (de_var (pv 1)) da_nil)) (hlen := (alen_cons (alen_cons alen_nil)))))) (ds_one ds_never) ds_nil))))))))
abbrev st_p_held_behind : Stmt := topS 19
abbrev N_p_held_behind : List Str := ["pipes", "held", "box", "behind", "place", "one", "other", "give", "eat", "_"]
theorem sc_p_held_behind : FnScope N_p_held_behind ["pipes", "held", "box"] (defScope st_p_held_behind) := ⟨rfl, rfl, rfl, by decide +kernel, rfl, by decide +kernel, by decide +kernel⟩
theorem ok_p_held_behind {f : Addr} {fd : FuncData} (F : Fun K "held_behind" "held_behind" st_p_held_behind f fd) (hm : mg "held_behind" = some (.ref f)) (b : Binds K fd ["pipes", "held", "box"] []) (T : Top K mg)  : Fok P wd ⟨K, mg⟩ base 1 "held_behind" 3 F_p_held_behind :=
  fok_of (N := N_p_held_behind) F sc_p_held_behind hm b (fun cdv A outer s H E c =>
    (ds_cons (ds_set (fun te h => ps_set (i := 3) sc_p_held_behind.nd rfl (Or.inl rfl) h) (de_callTy jc_listL (by rfl) T.list (by decide +kernel) (da_cons (de_var (pv 1)) da_nil)))
    (ds_cons (ds_for c.po c.calm (di_enum (by rfl) T.enumerate (da_cons (de_var (pv 0)) da_nil)) (dg_tup c.calm (dg_cons (dg_name (pg_name (i := 4) sc_p_held_behind.nd rfl (Or.inl rfl))) (dg_cons (dg_tup c.calm (dg_cons (dg_name (pg_name (i := 5) sc_p_held_behind.nd rfl (Or.inl rfl))) (dg_cons (dg_name (pg_name (i := 6) sc_p_held_behind.nd rfl (Or.inl rfl))) (dg_cons (dg_name (pg_name (i := 7) sc_p_held_behind.nd rfl (Or.inl rfl))) (dg_cons (dg_name (pg_name (i := 8) sc_p_held_behind.nd rfl (Or.inl rfl))) (dg_cons (dg_name (pg_name (i := 9) sc_p_held_behind.nd rfl (Or.inl rfl))) dg_nil)))))) dg_nil))) (ds_cons (ds_if (dt_cmp (jo_eq c.u64) (de_var (pv 6)) (de_var (pv 2)) (nomark _)) (ds_one (ds_putAug (de_var (pv 3)) (de_var (pv 4)) (de_var (pv 8)) ji_sub c.u1)) ds_nil)
    (ds_one (ds_if (dt_cmp (jo_eq c.u64) (de_var (pv 5)) (de_var (pv 2)) (nomark _)) (ds_one (ds_putAug (de_var (pv 3)) (de_var (pv 4)) (de_var (pv 7)) ji_add c.u1)) ds_nil))))
    (ds_one (ds_ret (de_callTy jc_tuple (by rfl) T.tuple (by decide +kernel) (da_cons (de_var (pv 3)) da_nil)))))))
abbrev st_p_marks : Stmt := topS 16
abbrev N_p_marks : List Str := ["flow", "pipe"]
theorem sc_p_marks : FnScope N_p_marks ["flow"] (defScope st_p_marks) := ⟨rfl, rfl, rfl, by decide +kernel, rfl, by decide +kernel, by decide +kernel⟩
theorem ok_p_marks {f : Addr} {fd : FuncData} (F : Fun K "marks" "marks" st_p_marks f fd) (hm : mg "marks" = some (.ref f)) (b : Binds K fd ["flow"] []) (T : Top K mg) (H_p_check_flow : Fok P wd ⟨K, mg⟩ base 5 "check_flow" 1 F_p_check_flow) : Fok P wd ⟨K, mg⟩ base 6 "marks" 1 F_p_marks :=
  fok_of (N := N_p_marks) F sc_p_marks hm b (fun cdv A outer s H E c =>
    (ds_cons (ds_expr (de_call H_p_check_flow (by decide) c.hr c.tk (by rfl) (by rfl) (da_cons (de_var (pv 0)) da_nil) (hlen := (alen_cons alen_nil))))
    (ds_one (ds_ret (de_callTy jc_tuple (by rfl) T.tuple (by decide +kernel) (da_cons (de_lc (own := [("pipe", 1)]) (by decide) (.inl rfl) (pe_lc (own := [("pipe", 1)]) c.calm sc_p_marks.nd (di_seq (de_ix (jo_ix c.u1) (de_var (pv 0)) de_int (fun _ _ => rfl))) (blkOk_by (N := N_p_marks) (sc := defScope st_p_marks) (by decide +kernel)) (fun _ _ _ _ _ => (dg_name (pg_name (i := 1) sc_p_marks.nd rfl (Or.inl rfl)))) (fun _ _ _ _ _ => dts_nil) (fun _ _ _ _ _ => (de_ix (jo_ix (c.blk _ _ _ _ _).u1) (de_var (pv 1)) de_int (fun _ _ => rfl))))) da_nil))))))
abbrev st_p_short_pipes : Stmt := topS 18
abbrev N_p_short_pipes : List Str := ["pipes", "held", "box", "place", "pipe"]
theorem sc_p_short_pipes : FnScope N_p_short_pipes ["pipes", "held", "box"] (defScope st_p_short_pipes) := ⟨rfl, rfl, rfl, by decide +kernel, rfl, by decide +kernel, by decide +kernel⟩
theorem ok_p_short_pipes {f : Addr} {fd : FuncData} (F : Fun K "short_pipes" "short_pipes" st_p_short_pipes f fd) (hm : mg "short_pipes" = some (.ref f)) (b : Binds K fd ["pipes", "held", "box"] []) (T : Top K mg)  : Fok P wd ⟨K, mg⟩ base 1 "short_pipes" 3 F_p_short_pipes :=
  fok_of (N := N_p_short_pipes) F sc_p_short_pipes hm b (fun cdv A outer s H E c =>
    (ds_one (ds_ret (de_lc (own := [("place", 3), ("pipe", 4)]) (by decide) (.inl rfl) (pe_lc (own := [("place", 3), ("pipe", 4)]) c.calm sc_p_short_pipes.nd (di_enum (by rfl) T.enumerate (da_cons (de_var (pv 0)) da_nil)) (blkOk_by (N := N_p_short_pipes) (sc := defScope st_p_short_pipes) (by decide +kernel)) (fun _ _ _ _ _ => (dg_tup (c.blk _ _ _ _ _).calm (dg_cons (dg_name (pg_name (i := 3) sc_p_short_pipes.nd rfl (Or.inl rfl))) (dg_cons (dg_name (pg_name (i := 4) sc_p_short_pipes.nd rfl (Or.inl rfl))) dg_nil)))) (fun _ _ _ _ _ => (dts_one (PW.pt (dw_and (dt_cmp (jo_eq (c.blk _ _ _ _ _).u64) (de_ix (jo_ix (c.blk _ _ _ _ _).u1) (de_var (pv 4)) de_int (fun _ _ => rfl)) (de_var (pv 2)) (nomark _)) (dw_and1 (dt_cmp jo_lt (de_ix (jo_ix (c.blk _ _ _ _ _).u1) (de_var (pv 1)) (de_var (pv 3)) (fun _ _ => rfl)) (de_ix (jo_ix (c.blk _ _ _ _ _).u1) (de_var (pv 4)) de_int (fun _ _ => rfl)) (nomark _))))))) (fun _ _ _ _ _ => (de_var (pv 3))))))))
abbrev st_p_all_come : Stmt := topS 22
abbrev N_p_all_come : List Str := ["flow", "boxes", "pipes", "found", "waiting", "held", "box", "behind"]
theorem sc_p_all_come : FnScope N_p_all_come ["flow"] (defScope st_p_all_come) := ⟨rfl, rfl, rfl, by decide +kernel, rfl, by decide +kernel, by decide +kernel⟩
theorem ok_p_all_come {f : Addr} {fd : FuncData} (F : Fun K "all_come" "all_come" st_p_all_come f fd) (hm : mg "all_come" = some (.ref f)) (b : Binds K fd ["flow"] []) (T : Top K mg) (H_p_check_flow : Fok P wd ⟨K, mg⟩ base 5 "check_flow" 1 F_p_check_flow) (H_p_held_behind : Fok P wd ⟨K, mg⟩ base 1 "held_behind" 3 F_p_held_behind) (H_p_marks : Fok P wd ⟨K, mg⟩ base 6 "marks" 1 F_p_marks) (H_p_short_pipes : Fok P wd ⟨K, mg⟩ base 1 "short_pipes" 3 F_p_short_pipes) (H_x_TooMany : XIn P wd ⟨K, mg⟩ base 1 "TooMany" "most") : Fok P wd ⟨K, mg⟩ base 7 "all_come" 1 F_p_all_come :=
  fok_of (N := N_p_all_come) F sc_p_all_come hm b (fun cdv A outer s H E c =>
    (ds_cons (ds_expr (de_call H_p_check_flow (by decide) c.hr c.tk (by rfl) (by rfl) (da_cons (de_var (pv 0)) da_nil) (hlen := (alen_cons alen_nil))))
    (ds_cons (ds_asg (de_var (pv 0)) (dg_tup c.calm (dg_cons (dg_name (pg_name (i := 1) sc_p_all_come.nd rfl (Or.inl rfl))) (dg_cons (dg_name (pg_name (i := 2) sc_p_all_come.nd rfl (Or.inl rfl))) dg_nil))))
    (ds_cons (ds_set (fun te h => ps_set (i := 3) sc_p_all_come.nd rfl (Or.inl rfl) h) (de_disp1TL c.u1 (de_call H_p_marks (by decide) c.hr c.tk (by rfl) (by rfl) (da_cons (de_var (pv 0)) da_nil) (hlen := (alen_cons alen_nil))) de_bl))
    (ds_cons (ds_set (fun te h => ps_set (i := 4) sc_p_all_come.nd rfl (Or.inl rfl) h) (de_lstL (da_cons (de_call H_p_marks (by decide) c.hr c.tk (by rfl) (by rfl) (da_cons (de_var (pv 0)) da_nil) (hlen := (alen_cons alen_nil))) da_nil)))
    (ds_cons (ds_while c.po (dt_truth (de_var (pv 4))) (ds_cons (ds_set (fun te h => ps_set (i := 5) sc_p_all_come.nd rfl (Or.inl rfl) h) (de_meth0 PySem.F.slot_list_pop PySem.F.type_list_pop jm_pop (de_var (pv 4))))
    (ds_one (ds_for c.po c.calm (di_rng1 (by rfl) T.range (da_cons (de_var (pv 1)) da_nil)) (dg_name (pg_name (i := 6) sc_p_all_come.nd rfl (Or.inl rfl))) (ds_cons (ds_if (dt_truth (de_call H_p_short_pipes (by decide) c.hr c.tk (by rfl) (by rfl) (da_cons (de_var (pv 2)) (da_cons (de_var (pv 5)) (da_cons (de_var (pv 6)) da_nil))) (hlen := (alen_cons (alen_cons (alen_cons alen_nil)))))) (ds_one ds_continue) ds_nil)
    (ds_cons (ds_set (fun te h => ps_set (i := 7) sc_p_all_come.nd rfl (Or.inl rfl) h) (de_call H_p_held_behind (by decide) c.hr c.tk (by rfl) (by rfl) (da_cons (de_var (pv 2)) (da_cons (de_var (pv 5)) (da_cons (de_var (pv 6)) da_nil))) (hlen := (alen_cons (alen_cons (alen_cons alen_nil))))))
    (ds_cons (ds_if (dt_cmp (jo_inT c.u65) (de_var (pv 7)) (de_var (pv 3)) (by rfl)) (ds_one ds_continue) ds_nil)
    (ds_cons (ds_if (dt_cmp (jo_eq c.u64) (de_callB jc_lenT (by rfl) T.len (by decide +kernel) (da_cons (de_var (pv 3)) da_nil)) (de_c (pe_glob (v := .int 1000) (by rfl) T.c_MOST_MARKS.choose_spec ⟨_, rfl⟩) fun _ => rfl) (nomark _)) (ds_one (ds_raiseF c H_x_TooMany (by decide) (by rfl) (de_c (pe_glob (v := .int 1000) (by rfl) T.c_MOST_MARKS.choose_spec ⟨_, rfl⟩) fun _ => rfl))) ds_nil)
    (ds_cons (ds_put (de_var (pv 3)) (de_var (pv 7)) de_bl c.u1)
    (ds_one (ds_expr (de_meth PySem.F.slot_list_append PySem.F.type_list_append jm_append (de_var (pv 4)) (da_cons (de_var (pv 7)) da_nil)))))))))))))
    (ds_one (ds_ret (de_callB (jc_sortedD c.u64) (by rfl) T.sorted (by decide +kernel) (da_cons (de_callTy (jc_listT c.calm) (by rfl) T.list (by decide +kernel) (da_cons (de_var (pv 3)) da_nil)) da_nil))))))))))
abbrev st_p_law : Stmt := topS 39
abbrev N_p_law : List Str := ["script", "row", "flow", "found", "rows", "more", "here", "box", "there", "told", "error"]
theorem sc_p_law : FnScope N_p_law ["script"] (defScope st_p_law) := ⟨rfl, rfl, rfl, by decide +kernel, rfl, by decide +kernel, by decide +kernel⟩
theorem ok_p_law {f : Addr} {fd : FuncData} (F : Fun K "law" "law" st_p_law f fd) (T : Top K mg) (H_p_law_alike : Fok P wd ⟨K, mg⟩ base 9 "_law_alike" 2 (F_p_law_alike 8)) (H_p_law_any : Fok P wd ⟨K, mg⟩ base 2 "_law_any" 1 F_p_law_any) (H_p_law_can : Fok P wd ⟨K, mg⟩ base 1 "_law_can" 3 F_p_law_can) (H_p_law_flow : Fok P wd ⟨K, mg⟩ base 3 "_law_flow" 3 F_p_law_flow) (H_p_law_live : Fok P wd ⟨K, mg⟩ base 4 "_law_live" 3 F_p_law_live) (H_p_law_next : Fok P wd ⟨K, mg⟩ base 1 "_law_next" 3 F_p_law_next) (H_p_law_pick : Fok P wd ⟨K, mg⟩ base 2 "_law_pick" 2 F_p_law_pick) (H_p_law_some : Fok P wd ⟨K, mg⟩ base 1 "_law_some" 1 F_p_law_some) (H_p_all_come : Fok P wd ⟨K, mg⟩ base 7 "all_come" 1 F_p_all_come) : FnOk P wd K mg base (L2.CX P wd) 10 f fd ["script"] (spF ⟨K, mg⟩ 1 F_p_law) :=
  fn_ok (N := N_p_law) F sc_p_law (fun cdv A outer s H E c =>
    (ds_cons (ds_set (fun te h => ps_set (i := 1) sc_p_law.nd rfl (Or.inl rfl) h) (de_lstL (da_cons (de_var (pv 0)) (da_cons de_int (da_cons de_int (da_cons de_int da_nil))))))
    (ds_cons (ds_set (fun te h => ps_set (i := 2) sc_p_law.nd rfl (Or.inl rfl) h) (de_call H_p_law_pick (by decide) c.hr c.tk (by rfl) (by rfl) (da_cons (de_var (pv 1)) (da_cons (de_lst (da_cons (de_call H_p_law_any (by decide) c.hr c.tk (by rfl) (by rfl) (da_cons (de_var (pv 1)) da_nil) (hlen := (alen_cons alen_nil))) (da_cons (de_call H_p_law_live (by decide) c.hr c.tk (by rfl) (by rfl) (da_cons (de_var (pv 1)) (da_cons de_int (da_cons de_int da_nil))) (hlen := (alen_cons (alen_cons (alen_cons alen_nil))))) (da_cons (de_call H_p_law_flow (by decide) c.hr c.tk (by rfl) (by rfl) (da_cons (de_var (pv 1)) (da_cons de_int (da_cons de_int da_nil))) (hlen := (alen_cons (alen_cons (alen_cons alen_nil))))) da_nil)))) da_nil)) (hlen := (alen_cons (alen_cons alen_nil)))))
    (ds_cons (ds_par (fun t h => ps_par (i := 3) (j := 4) c.calm sc_p_law.nd rfl rfl (by decide) rfl rfl h (by rfl)) (da_cons (de_disp1TL c.u1 (de_call H_p_law_some (by decide) c.hr c.tk (by rfl) (by rfl) (da_cons (de_var (pv 2)) da_nil) (hlen := (alen_cons alen_nil))) de_bl) (da_cons (de_lst (da_cons (de_call H_p_law_some (by decide) c.hr c.tk (by rfl) (by rfl) (da_cons (de_var (pv 2)) da_nil) (hlen := (alen_cons alen_nil))) da_nil)) da_nil)))
    (ds_cons (ds_whileF c.po (PW.pt (dw_and (dt_cmp (jo_ne c.u64) (de_var (pv 4)) (de_lst da_nil) (nomark _)) (dw_and1 (dt_cmp jo_le (de_callB jc_lenT (by rfl) T.len (by decide +kernel) (da_cons (de_var (pv 3)) da_nil)) de_int (nomark _))))) (ds_cons (ds_set (fun te h => ps_set (i := 5) sc_p_law.nd rfl (Or.inl rfl) h) (de_lstL da_nil))
    (ds_cons (ds_for c.po c.calm (di_seq (de_var (pv 4))) (dg_name (pg_name (i := 6) sc_p_law.nd rfl (Or.inl rfl))) (ds_one (ds_for c.po c.calm (di_rng1 (by rfl) T.range (da_cons (de_ix (jo_ix c.u1) (de_var (pv 2)) de_int (fun _ _ => rfl)) da_nil)) (dg_name (pg_name (i := 7) sc_p_law.nd rfl (Or.inl rfl))) (ds_cons (ds_set (fun te h => ps_set (i := 8) sc_p_law.nd rfl (Or.inl rfl) h) (de_if (dt_truth (de_call H_p_law_can (by decide) c.hr c.tk (by rfl) (by rfl) (da_cons (de_var (pv 2)) (da_cons (de_var (pv 6)) (da_cons (de_var (pv 7)) da_nil))) (hlen := (alen_cons (alen_cons (alen_cons alen_nil)))))) (de_call H_p_law_next (by decide) c.hr c.tk (by rfl) (by rfl) (da_cons (de_var (pv 2)) (da_cons (de_var (pv 6)) (da_cons (de_var (pv 7)) da_nil))) (hlen := (alen_cons (alen_cons (alen_cons alen_nil))))) (de_var (pv 6))))
    (ds_one (ds_if (dt_cmp (jo_ninT c.u65) (de_var (pv 8)) (de_var (pv 3)) (by rfl)) (ds_cons (ds_put (de_var (pv 3)) (de_var (pv 8)) de_bl c.u1)
    (ds_one (ds_expr (de_meth PySem.F.slot_list_append PySem.F.type_list_append jm_append (de_var (pv 5)) (da_cons (de_var (pv 8)) da_nil))))) ds_nil))))))
    (ds_one (ds_set (fun te h => ps_set (i := 4) sc_p_law.nd rfl (Or.inl rfl) h) (de_var (pv 5)))))))
    (ds_cons (ds_set (fun te h => ps_set (i := 9) sc_p_law.nd rfl (Or.inl rfl) h) de_non)
    (ds_cons (ds_tryFld (v := (.str "other")) (kt := (fun c => if c = ("TooMany" : PySem.Str) then some true else none)) (i := 10) (j := 9) c T.tf_FlowError_TooMany rfl rfl sc_p_law.nd rfl rfl (fun B h => ⟨by rfl, by decide, Or.inl h⟩) (by decide) (fun W pn xe c2 => (ds_one (ds_set (fun te h => ps_set (i := 9) sc_p_law.nd rfl (Or.inl rfl) h) (de_call H_p_all_come (by decide) c2.hr c2.tk (by rfl) (by rfl) (da_cons (de_var (pv 2)) da_nil) (hlen := (alen_cons alen_nil)))))) (fun _ _ => pv 10) (fun _ _ => pv 10) (fun C h _ _ => pe_glob (by rfl) h rfl) (fun _ _ => pe_str) (fun _ => rfl) (fun _ _ => pg_name (i := 9) sc_p_law.nd rfl (Or.inl rfl)) (by rfl) T.isinstance)
    (ds_one (ds_ret (de_call H_p_law_alike (by decide) c.hr c.tk (by rfl) (by rfl) (da_cons (de_var (pv 9)) (da_cons (de_if (dt_cmp jo_le (de_callB jc_lenT (by rfl) T.len (by decide +kernel) (da_cons (de_var (pv 3)) da_nil)) de_int (nomark _)) (de_sortT c.calm c.u64 (by rfl) T.sorted (de_var (pv 3))) de_int) da_nil)) (hlen := (alen_cons (alen_cons alen_nil)))))))))))))
end
end K16
set_option Elab.async false
set_option linter.all false
set_option maxRecDepth 100000
set_option maxHeartbeats 4000000
namespace K16
open PySem PySem.Spec PyProof.Rows L2 J
def spLaw (K : PySem.W.Frag) : Sp := fun vs H Q _ => ∃ (a : Addr) (ns : List Int), vs = [.ref a] ∧ SqL K H a (ns.map V.int) ∧ ns.length ≤ 63 ∧ ∀ H', Q (.bl true) H'
theorem ints_rd {g : G} {w : W} : ∀ ns : List Int, RDs g w (ns.map D.int) (ns.map V.int)
  | [] => rfl
  | n :: ns => RDs.cons (show RD g w (.int n) (.int n) from rfl) (ints_rd ns)
theorem law_sp {g : G} (ok : ∀ ns : List Int, ns.length ≤ 63 → ∃ S, F_p_law [.rdl (ns.map D.int)] [] = .ok (.bl true) S) : ∀ vs H Q E, spLaw g.K vs H Q E → spF g 1 F_p_law vs H Q E := fun vs H Q E ⟨a, ns, e, hS, hl, q⟩ => by
  obtain ⟨S, hF⟩ := ok ns hl
  refine ⟨⟨fun _ => False, [], H⟩, [.rdl (ns.map D.int)], [], rfl, ⟨List.nodup_nil, by simp, fun _ z => z.elim, fun _ z => z.elim⟩, ?_, ⟨rfl, by simp⟩, rfl, ?_⟩
  · subst e
    refine RDs.one ⟨a, _, rfl, ?_, ints_rd ns⟩
    exact hS.elim (fun h => .inl ⟨h, fun z => z⟩) .inr
  · rw [hF]
    intro v w' _ _ _ r _
    cases r
    exact q _

theorem all_mk {l : PySem.W.OpenLaw} {w : World} {K : PySem.W.Frag} {h : Heap} {mg : Str → Option Value} {fa : Addr} (X : K.In h) (G : h.Ns mainGlobals mg) (hfa : mg "law" = some (.ref fa))
    (ok : ∀ ns : List Int, ns.length ≤ 63 → ∃ S, F_p_law [.rdl (ns.map D.int)] [] = .ok (.bl true) S)
    {f0 : Addr} {od0 an0 : Option Addr} {sl0 : Array (Option Value)} {oc0 kV0 dc0 pm0 cd0 ct0 : Value}
    {f1 : Addr} {od1 an1 : Option Addr} {sl1 : Array (Option Value)} {oc1 kV1 dc1 pm1 cd1 ct1 : Value}
    {f2 : Addr} {od2 an2 : Option Addr} {sl2 : Array (Option Value)} {oc2 kV2 dc2 pm2 cd2 ct2 : Value}
    {f3 : Addr} {od3 an3 : Option Addr} {sl3 : Array (Option Value)} {oc3 kV3 dc3 pm3 cd3 ct3 : Value}
    {f4 : Addr} {od4 an4 : Option Addr} {sl4 : Array (Option Value)} {oc4 kV4 dc4 pm4 cd4 ct4 : Value}
    {f5 : Addr} {od5 an5 : Option Addr} {sl5 : Array (Option Value)} {oc5 kV5 dc5 pm5 cd5 ct5 : Value}
    {f6 : Addr} {od6 an6 : Option Addr} {sl6 : Array (Option Value)} {oc6 kV6 dc6 pm6 cd6 ct6 : Value}
    {f7 : Addr} {od7 an7 : Option Addr} {sl7 : Array (Option Value)} {oc7 kV7 dc7 pm7 cd7 ct7 : Value}
    {f8 : Addr} {od8 an8 : Option Addr} {sl8 : Array (Option Value)} {oc8 kV8 dc8 pm8 cd8 ct8 : Value}
    {f9 : Addr} {od9 an9 : Option Addr} {sl9 : Array (Option Value)} {oc9 kV9 dc9 pm9 cd9 ct9 : Value}
    {f10 : Addr} {od10 an10 : Option Addr} {sl10 : Array (Option Value)} {oc10 kV10 dc10 pm10 cd10 ct10 : Value}
    {f11 : Addr} {od11 an11 : Option Addr} {sl11 : Array (Option Value)} {oc11 kV11 dc11 pm11 cd11 ct11 : Value}
    {f12 : Addr} {od12 an12 : Option Addr} {sl12 : Array (Option Value)} {oc12 kV12 dc12 pm12 cd12 ct12 : Value}
    {f13 : Addr} {od13 an13 : Option Addr} {sl13 : Array (Option Value)} {oc13 kV13 dc13 pm13 cd13 ct13 : Value}
    {f14 : Addr} {od14 an14 : Option Addr} {sl14 : Array (Option Value)} {oc14 kV14 dc14 pm14 cd14 ct14 : Value}
    {f15 : Addr} {od15 an15 : Option Addr} {sl15 : Array (Option Value)} {oc15 kV15 dc15 pm15 cd15 ct15 : Value}
    {f16 : Addr} {od16 an16 : Option Addr} {sl16 : Array (Option Value)} {oc16 kV16 dc16 pm16 cd16 ct16 : Value}
    {f17 : Addr} {od17 an17 : Option Addr} {sl17 : Array (Option Value)} {oc17 kV17 dc17 pm17 cd17 ct17 : Value}
    {f18 : Addr} {od18 an18 : Option Addr} {sl18 : Array (Option Value)} {oc18 kV18 dc18 pm18 cd18 ct18 : Value}
    {f19 : Addr} {od19 an19 : Option Addr} {sl19 : Array (Option Value)} {oc19 kV19 dc19 pm19 cd19 ct19 : Value}
    {f20 : Addr} {od20 an20 : Option Addr} {sl20 : Array (Option Value)} {oc20 kV20 dc20 pm20 cd20 ct20 : Value}
    {f21 : Addr} {od21 an21 : Option Addr} {sl21 : Array (Option Value)} {oc21 kV21 dc21 pm21 cd21 ct21 : Value}
    {f22 : Addr} {od22 an22 : Option Addr} {sl22 : Array (Option Value)} {oc22 kV22 dc22 pm22 cd22 ct22 : Value}
    {f23 : Addr} {od23 an23 : Option Addr} {sl23 : Array (Option Value)} {oc23 kV23 dc23 pm23 cd23 ct23 : Value}
    {f24 : Addr} {od24 an24 : Option Addr} {sl24 : Array (Option Value)} {oc24 kV24 dc24 pm24 cd24 ct24 : Value}
    {f25 : Addr} {od25 an25 : Option Addr} {sl25 : Array (Option Value)} {oc25 kV25 dc25 pm25 cd25 ct25 : Value}
    {t_MOST_BOXES : Tok}
    {t_MOST_MARKS : Tok}
    {t_MOST_PIPES : Tok}
    {t_MOST_RATE : Tok}
    {t_MOST_TOKENS : Tok}
    {A_FlowError : Addr}
    {A_TooMany : Addr}
    {I_TooMany : Addr} {nm_TooMany q_TooMany : Str} {N_TooMany : Addr} {bs_TooMany : List Value} {sn_TooMany : List Str} {sub_TooMany : List Value} {ab_TooMany : Bool} {col_TooMany : Option Bool} {dd_TooMany : Option Addr} {m0_TooMany m1_TooMany m2_TooMany m3_TooMany m5_TooMany : Option Value} {odi_TooMany ani_TooMany : Option Addr} {sli_TooMany : Array (Option Value)} {oci_TooMany kVi_TooMany dci_TooMany pmi_TooMany cdi_TooMany cti_TooMany : Value}
    (a0 : PySem.W.nsIn K mainGlobals "_law_alike" = some (some (.ref f0))) (l0 : K.lookup f0 = some ⟨oc0, od0, .func (PySem.W.fnOf "_law_alike" "_law_alike" (defArgs st_p_law_alike) (defBody st_p_law_alike) (defScope st_p_law_alike) .none kV0 dc0 pm0 an0 cd0 ct0), sl0⟩) (c0 : PySem.W.codeIn K cd0 "_law_alike" = true) (k0 : PySem.W.keepIn K (.ref f0) = true)
    (a1 : PySem.W.nsIn K mainGlobals "_law_taken" = some (some (.ref f1))) (l1 : K.lookup f1 = some ⟨oc1, od1, .func (PySem.W.fnOf "_law_taken" "_law_taken" (defArgs st_p_law_taken) (defBody st_p_law_taken) (defScope st_p_law_taken) .none kV1 dc1 pm1 an1 cd1 ct1), sl1⟩) (c1 : PySem.W.codeIn K cd1 "_law_taken" = true) (k1 : PySem.W.keepIn K (.ref f1) = true)
    (a2 : PySem.W.nsIn K mainGlobals "_law_any" = some (some (.ref f2))) (l2 : K.lookup f2 = some ⟨oc2, od2, .func (PySem.W.fnOf "_law_any" "_law_any" (defArgs st_p_law_any) (defBody st_p_law_any) (defScope st_p_law_any) .none kV2 dc2 pm2 an2 cd2 ct2), sl2⟩) (c2 : PySem.W.codeIn K cd2 "_law_any" = true) (k2 : PySem.W.keepIn K (.ref f2) = true)
    (a3 : PySem.W.nsIn K mainGlobals "_law_can" = some (some (.ref f3))) (l3 : K.lookup f3 = some ⟨oc3, od3, .func (PySem.W.fnOf "_law_can" "_law_can" (defArgs st_p_law_can) (defBody st_p_law_can) (defScope st_p_law_can) .none kV3 dc3 pm3 an3 cd3 ct3), sl3⟩) (c3 : PySem.W.codeIn K cd3 "_law_can" = true) (k3 : PySem.W.keepIn K (.ref f3) = true)
    (a4 : PySem.W.nsIn K mainGlobals "_law_gcd" = some (some (.ref f4))) (l4 : K.lookup f4 = some ⟨oc4, od4, .func (PySem.W.fnOf "_law_gcd" "_law_gcd" (defArgs st_p_law_gcd) (defBody st_p_law_gcd) (defScope st_p_law_gcd) .none kV4 dc4 pm4 an4 cd4 ct4), sl4⟩) (c4 : PySem.W.codeIn K cd4 "_law_gcd" = true) (k4 : PySem.W.keepIn K (.ref f4) = true)
    (a5 : PySem.W.nsIn K mainGlobals "_law_pick" = some (some (.ref f5))) (l5 : K.lookup f5 = some ⟨oc5, od5, .func (PySem.W.fnOf "_law_pick" "_law_pick" (defArgs st_p_law_pick) (defBody st_p_law_pick) (defScope st_p_law_pick) .none kV5 dc5 pm5 an5 cd5 ct5), sl5⟩) (c5 : PySem.W.codeIn K cd5 "_law_pick" = true) (k5 : PySem.W.keepIn K (.ref f5) = true)
    (a6 : PySem.W.nsIn K mainGlobals "_law_flow" = some (some (.ref f6))) (l6 : K.lookup f6 = some ⟨oc6, od6, .func (PySem.W.fnOf "_law_flow" "_law_flow" (defArgs st_p_law_flow) (defBody st_p_law_flow) (defScope st_p_law_flow) .none kV6 dc6 pm6 an6 cd6 ct6), sl6⟩) (c6 : PySem.W.codeIn K cd6 "_law_flow" = true) (k6 : PySem.W.keepIn K (.ref f6) = true)
    (a7 : PySem.W.nsIn K mainGlobals "_law_next" = some (some (.ref f7))) (l7 : K.lookup f7 = some ⟨oc7, od7, .func (PySem.W.fnOf "_law_next" "_law_next" (defArgs st_p_law_next) (defBody st_p_law_next) (defScope st_p_law_next) .none kV7 dc7 pm7 an7 cd7 ct7), sl7⟩) (c7 : PySem.W.codeIn K cd7 "_law_next" = true) (k7 : PySem.W.keepIn K (.ref f7) = true)
    (a8 : PySem.W.nsIn K mainGlobals "_law_some" = some (some (.ref f8))) (l8 : K.lookup f8 = some ⟨oc8, od8, .func (PySem.W.fnOf "_law_some" "_law_some" (defArgs st_p_law_some) (defBody st_p_law_some) (defScope st_p_law_some) .none kV8 dc8 pm8 an8 cd8 ct8), sl8⟩) (c8 : PySem.W.codeIn K cd8 "_law_some" = true) (k8 : PySem.W.keepIn K (.ref f8) = true)
    (a9 : PySem.W.nsIn K mainGlobals "_law_do" = some (some (.ref f9))) (l9 : K.lookup f9 = some ⟨oc9, od9, .func (PySem.W.fnOf "_law_do" "_law_do" (defArgs st_p_law_do) (defBody st_p_law_do) (defScope st_p_law_do) .none kV9 dc9 pm9 an9 cd9 ct9), sl9⟩) (c9 : PySem.W.codeIn K cd9 "_law_do" = true) (k9 : PySem.W.keepIn K (.ref f9) = true)
    (a10 : PySem.W.nsIn K mainGlobals "_law_joined" = some (some (.ref f10))) (l10 : K.lookup f10 = some ⟨oc10, od10, .func (PySem.W.fnOf "_law_joined" "_law_joined" (defArgs st_p_law_joined) (defBody st_p_law_joined) (defScope st_p_law_joined) .none kV10 dc10 pm10 an10 cd10 ct10), sl10⟩) (c10 : PySem.W.codeIn K cd10 "_law_joined" = true) (k10 : PySem.W.keepIn K (.ref f10) = true)
    (a11 : PySem.W.nsIn K mainGlobals "_law_ratio" = some (some (.ref f11))) (l11 : K.lookup f11 = some ⟨oc11, od11, .func (PySem.W.fnOf "_law_ratio" "_law_ratio" (defArgs st_p_law_ratio) (defBody st_p_law_ratio) (defScope st_p_law_ratio) .none kV11 dc11 pm11 an11 cd11 ct11), sl11⟩) (c11 : PySem.W.codeIn K cd11 "_law_ratio" = true) (k11 : PySem.W.keepIn K (.ref f11) = true)
    (a12 : PySem.W.nsIn K mainGlobals "_law_round" = some (some (.ref f12))) (l12 : K.lookup f12 = some ⟨oc12, od12, .func (PySem.W.fnOf "_law_round" "_law_round" (defArgs st_p_law_round) (defBody st_p_law_round) (defScope st_p_law_round) .none kV12 dc12 pm12 an12 cd12 ct12), sl12⟩) (c12 : PySem.W.codeIn K cd12 "_law_round" = true) (k12 : PySem.W.keepIn K (.ref f12) = true)
    (a13 : PySem.W.nsIn K mainGlobals "_law_with" = some (some (.ref f13))) (l13 : K.lookup f13 = some ⟨oc13, od13, .func (PySem.W.fnOf "_law_with" "_law_with" (defArgs st_p_law_with) (defBody st_p_law_with) (defScope st_p_law_with) .none kV13 dc13 pm13 an13 cd13 ct13), sl13⟩) (c13 : PySem.W.codeIn K cd13 "_law_with" = true) (k13 : PySem.W.keepIn K (.ref f13) = true)
    (a14 : PySem.W.nsIn K mainGlobals "_law_live" = some (some (.ref f14))) (l14 : K.lookup f14 = some ⟨oc14, od14, .func (PySem.W.fnOf "_law_live" "_law_live" (defArgs st_p_law_live) (defBody st_p_law_live) (defScope st_p_law_live) .none kV14 dc14 pm14 an14 cd14 ct14), sl14⟩) (c14 : PySem.W.codeIn K cd14 "_law_live" = true) (k14 : PySem.W.keepIn K (.ref f14) = true)
    (a15 : PySem.W.nsIn K mainGlobals "is_whole" = some (some (.ref f15))) (l15 : K.lookup f15 = some ⟨oc15, od15, .func (PySem.W.fnOf "is_whole" "is_whole" (defArgs st_p_is_whole) (defBody st_p_is_whole) (defScope st_p_is_whole) .none kV15 dc15 pm15 an15 cd15 ct15), sl15⟩) (c15 : PySem.W.codeIn K cd15 "is_whole" = true) (k15 : PySem.W.keepIn K (.ref f15) = true)
    (a16 : PySem.W.nsIn K mainGlobals "is_number" = some (some (.ref f16))) (l16 : K.lookup f16 = some ⟨oc16, od16, .func (PySem.W.fnOf "is_number" "is_number" (defArgs st_p_is_number) (defBody st_p_is_number) (defScope st_p_is_number) .none kV16 dc16 pm16 an16 cd16 ct16), sl16⟩) (c16 : PySem.W.codeIn K cd16 "is_number" = true) (k16 : PySem.W.keepIn K (.ref f16) = true)
    (a17 : PySem.W.nsIn K mainGlobals "is_box" = some (some (.ref f17))) (l17 : K.lookup f17 = some ⟨oc17, od17, .func (PySem.W.fnOf "is_box" "is_box" (defArgs st_p_is_box) (defBody st_p_is_box) (defScope st_p_is_box) .none kV17 dc17 pm17 an17 cd17 ct17), sl17⟩) (c17 : PySem.W.codeIn K cd17 "is_box" = true) (k17 : PySem.W.keepIn K (.ref f17) = true)
    (a18 : PySem.W.nsIn K mainGlobals "is_row" = some (some (.ref f18))) (l18 : K.lookup f18 = some ⟨oc18, od18, .func (PySem.W.fnOf "is_row" "is_row" (defArgs st_p_is_row) (defBody st_p_is_row) (defScope st_p_is_row) .none kV18 dc18 pm18 an18 cd18 ct18), sl18⟩) (c18 : PySem.W.codeIn K cd18 "is_row" = true) (k18 : PySem.W.keepIn K (.ref f18) = true)
    (a19 : PySem.W.nsIn K mainGlobals "is_pipe" = some (some (.ref f19))) (l19 : K.lookup f19 = some ⟨oc19, od19, .func (PySem.W.fnOf "is_pipe" "is_pipe" (defArgs st_p_is_pipe) (defBody st_p_is_pipe) (defScope st_p_is_pipe) .none kV19 dc19 pm19 an19 cd19 ct19), sl19⟩) (c19 : PySem.W.codeIn K cd19 "is_pipe" = true) (k19 : PySem.W.keepIn K (.ref f19) = true)
    (a20 : PySem.W.nsIn K mainGlobals "check_flow" = some (some (.ref f20))) (l20 : K.lookup f20 = some ⟨oc20, od20, .func (PySem.W.fnOf "check_flow" "check_flow" (defArgs st_p_check_flow) (defBody st_p_check_flow) (defScope st_p_check_flow) .none kV20 dc20 pm20 an20 cd20 ct20), sl20⟩) (c20 : PySem.W.codeIn K cd20 "check_flow" = true) (k20 : PySem.W.keepIn K (.ref f20) = true)
    (a21 : PySem.W.nsIn K mainGlobals "held_behind" = some (some (.ref f21))) (l21 : K.lookup f21 = some ⟨oc21, od21, .func (PySem.W.fnOf "held_behind" "held_behind" (defArgs st_p_held_behind) (defBody st_p_held_behind) (defScope st_p_held_behind) .none kV21 dc21 pm21 an21 cd21 ct21), sl21⟩) (c21 : PySem.W.codeIn K cd21 "held_behind" = true) (k21 : PySem.W.keepIn K (.ref f21) = true)
    (a22 : PySem.W.nsIn K mainGlobals "marks" = some (some (.ref f22))) (l22 : K.lookup f22 = some ⟨oc22, od22, .func (PySem.W.fnOf "marks" "marks" (defArgs st_p_marks) (defBody st_p_marks) (defScope st_p_marks) .none kV22 dc22 pm22 an22 cd22 ct22), sl22⟩) (c22 : PySem.W.codeIn K cd22 "marks" = true) (k22 : PySem.W.keepIn K (.ref f22) = true)
    (a23 : PySem.W.nsIn K mainGlobals "short_pipes" = some (some (.ref f23))) (l23 : K.lookup f23 = some ⟨oc23, od23, .func (PySem.W.fnOf "short_pipes" "short_pipes" (defArgs st_p_short_pipes) (defBody st_p_short_pipes) (defScope st_p_short_pipes) .none kV23 dc23 pm23 an23 cd23 ct23), sl23⟩) (c23 : PySem.W.codeIn K cd23 "short_pipes" = true) (k23 : PySem.W.keepIn K (.ref f23) = true)
    (a24 : PySem.W.nsIn K mainGlobals "all_come" = some (some (.ref f24))) (l24 : K.lookup f24 = some ⟨oc24, od24, .func (PySem.W.fnOf "all_come" "all_come" (defArgs st_p_all_come) (defBody st_p_all_come) (defScope st_p_all_come) .none kV24 dc24 pm24 an24 cd24 ct24), sl24⟩) (c24 : PySem.W.codeIn K cd24 "all_come" = true) (k24 : PySem.W.keepIn K (.ref f24) = true)
    (a25 : PySem.W.nsIn K mainGlobals "law" = some (some (.ref f25))) (l25 : K.lookup f25 = some ⟨oc25, od25, .func (PySem.W.fnOf "law" "law" (defArgs st_p_law) (defBody st_p_law) (defScope st_p_law) .none kV25 dc25 pm25 an25 cd25 ct25), sl25⟩) (c25 : PySem.W.codeIn K cd25 "law" = true) (k25 : PySem.W.keepIn K (.ref f25) = true)
    (z_abs : PySem.W.nsIn K mainGlobals "abs" = some none)
    (z_bool : PySem.W.nsIn K mainGlobals "bool" = some none)
    (z_enumerate : PySem.W.nsIn K mainGlobals "enumerate" = some none)
    (z_int : PySem.W.nsIn K mainGlobals "int" = some none)
    (z_isinstance : PySem.W.nsIn K mainGlobals "isinstance" = some none)
    (z_len : PySem.W.nsIn K mainGlobals "len" = some none)
    (z_list : PySem.W.nsIn K mainGlobals "list" = some none)
    (z_range : PySem.W.nsIn K mainGlobals "range" = some none)
    (z_sorted : PySem.W.nsIn K mainGlobals "sorted" = some none)
    (z_str : PySem.W.nsIn K mainGlobals "str" = some none)
    (z_sum : PySem.W.nsIn K mainGlobals "sum" = some none)
    (z_tuple : PySem.W.nsIn K mainGlobals "tuple" = some none)
    (z_MOST_BOXES : PySem.W.nsIn K mainGlobals "MOST_BOXES" = some (some (.int 8 t_MOST_BOXES)))
    (z_MOST_MARKS : PySem.W.nsIn K mainGlobals "MOST_MARKS" = some (some (.int 1000 t_MOST_MARKS)))
    (z_MOST_PIPES : PySem.W.nsIn K mainGlobals "MOST_PIPES" = some (some (.int 16 t_MOST_PIPES)))
    (z_MOST_RATE : PySem.W.nsIn K mainGlobals "MOST_RATE" = some (some (.int 999 t_MOST_RATE)))
    (z_MOST_TOKENS : PySem.W.nsIn K mainGlobals "MOST_TOKENS" = some (some (.int 99999 t_MOST_TOKENS)))
    (xa_FlowError : PySem.W.nsIn K mainGlobals "FlowError" = some (some (.ref A_FlowError)))
    (xb_FlowError : PySem.W.subIn K (.ref A_FlowError) (.type "BaseException") = some true)
    (xt_FlowError : PySem.W.typeIn K (.ref A_FlowError) = some (.type "type"))
    (xa_TooMany : PySem.W.nsIn K mainGlobals "TooMany" = some (some (.ref A_TooMany)))
    (xb_TooMany : PySem.W.subIn K (.ref A_TooMany) (.type "BaseException") = some true)
    (xt_TooMany : PySem.W.typeIn K (.ref A_TooMany) = some (.type "type"))
    (xd_FlowError : PySem.W.hasDictIn K A_FlowError = true)
    (xd_TooMany : PySem.W.hasDictIn K A_TooMany = true)
    (xs_TooMany_FlowError : PySem.W.subIn K (.ref A_TooMany) (.ref A_FlowError) = some true)
    (xg_TooMany : PySem.W.findIn K (.ref A_TooMany) "__getattribute__" = some (some (.builtin "BaseException.__getattribute__")))
    (xh_TooMany : PySem.W.findIn K (.ref A_TooMany) "__getattr__" = some none)
    (xl_TooMany : PySem.W.findIn K (.ref A_TooMany) "__class__" = some (some (.builtin "object.__class__")))
    (xm_TooMany : PySem.W.mroIn K A_TooMany (.type "object") = some true)
    (xn : PySem.W.specialIn K (.builtin "object.__class__") "__get__" = some (some (.builtin "getset_descriptor.__get__")))
    (xq : PySem.W.takesIn K (.builtin "object.__class__") = some true)
    (xo_TooMany : PySem.W.findIn K (.ref A_TooMany) "most" = some none)
    (xk_TooMany : PySem.W.keepIn K (.ref A_TooMany) = true)
    (xS_TooMany : PySem.W.findIn K (.ref A_TooMany) "__setattr__" = some (some (.builtin "object.__setattr__")))
    (xL_TooMany : K.lookup A_TooMany = some (excClassObj nm_TooMany q_TooMany A_TooMany N_TooMany bs_TooMany [.ref A_FlowError, .type "ValueError", .type "Exception", .type "BaseException", .type "object"] true sn_TooMany sub_TooMany ab_TooMany col_TooMany dd_TooMany m0_TooMany m1_TooMany m2_TooMany m3_TooMany m5_TooMany "ValueError.__new__"))
    (xI_TooMany : PySem.W.findIn K (.ref A_TooMany) "__init__" = some (some (.ref I_TooMany)))
    (xT_TooMany : PySem.W.typeIn K (.ref I_TooMany) = some (.type "function"))
    (xl2_TooMany : K.lookup I_TooMany = some ⟨oci_TooMany, odi_TooMany, .func (PySem.W.fnOf "__init__" "TooMany.__init__" (defArgs st_i_TooMany) (defBody st_i_TooMany) (defScope st_i_TooMany) .none kVi_TooMany dci_TooMany pmi_TooMany ani_TooMany cdi_TooMany cti_TooMany), sli_TooMany⟩)
    (xc_TooMany : PySem.W.codeIn K cdi_TooMany "TooMany.__init__" = true)
    (xki_TooMany : PySem.W.keepIn K (.ref I_TooMany) = true)
    (xG_FlowError : PySem.W.specialIn K (.ref A_FlowError) "__getattribute__" = some (some (.builtin "type.__getattribute__")))
    (xR_FlowError : PySem.W.readsIn K A_FlowError (.type "type") = true)
    (xV_FlowError : PySem.W.findCls K (.ref A_FlowError) (.type "type") "__init__" = some (.val (.builtin "ValueError.__init__"))) :
    ∃ fd : FuncData, (∀ (s : Shared) (v : Value), BindsTo s fd ⟨[v], []⟩ [("script", v)]) ∧ ∀ base : Heap, K.In base → base.Ns mainGlobals mg → FnOk l.prog w K mg base (L2.CX l.prog w) 10 fa fd ["script"] (spLaw K) := by
  have e := hfa.symm.trans (PySem.W.mg_of X G a25)
  cases e
  have T : Top K mg := { abs := PySem.W.mg_none_of X G z_abs, bool := PySem.W.mg_none_of X G z_bool, enumerate := PySem.W.mg_none_of X G z_enumerate, int := PySem.W.mg_none_of X G z_int, isinstance := PySem.W.mg_none_of X G z_isinstance, len := PySem.W.mg_none_of X G z_len, list := PySem.W.mg_none_of X G z_list, range := PySem.W.mg_none_of X G z_range, sorted := PySem.W.mg_none_of X G z_sorted, str := PySem.W.mg_none_of X G z_str, sum := PySem.W.mg_none_of X G z_sum, tuple := PySem.W.mg_none_of X G z_tuple, c_MOST_BOXES := ⟨t_MOST_BOXES, PySem.W.mg_of X G z_MOST_BOXES⟩, c_MOST_MARKS := ⟨t_MOST_MARKS, PySem.W.mg_of X G z_MOST_MARKS⟩, c_MOST_PIPES := ⟨t_MOST_PIPES, PySem.W.mg_of X G z_MOST_PIPES⟩, c_MOST_RATE := ⟨t_MOST_RATE, PySem.W.mg_of X G z_MOST_RATE⟩, c_MOST_TOKENS := ⟨t_MOST_TOKENS, PySem.W.mg_of X G z_MOST_TOKENS⟩, tf_FlowError_TooMany := ⟨⟨A_FlowError, A_TooMany, PySem.W.mg_of X G xa_FlowError, PySem.W.mg_of X G xa_TooMany, fun c b h => by
      by_cases e : c = ("TooMany" : Str)
      · subst e
        have e2 : true = b := Option.some.inj ((if_pos rfl).symm.trans h)
        subst e2
        exact ⟨A_TooMany, PySem.W.mg_of X G xa_TooMany, ⟨xg_TooMany, xh_TooMany, xb_TooMany, xd_TooMany, xl_TooMany, xn, xq, xm_TooMany⟩, xo_TooMany, kit_self, PySem.W.exm_ref xb_FlowError xd_FlowError xt_FlowError xs_TooMany_FlowError⟩
      · exact absurd ((if_neg e).symm.trans h) (by simp)⟩⟩ }
  have F0 := fun_mk (st := st_p_law_alike) l0 c0 k0
  have b0 := F0.binds (ps := ["found", "due"]) fun _ _ _ _ _ _ us hl => match us, hl with | [_, _], _ => rfl
  have F1 := fun_mk (st := st_p_law_taken) l1 c1 k1
  have b1 := F1.binds (ps := ["row", "many"]) fun _ _ _ _ _ _ us hl => match us, hl with | [_, _], _ => rfl
  have F2 := fun_mk (st := st_p_law_any) l2 c2 k2
  have b2 := F2.binds (ps := ["row"]) fun _ _ _ _ _ _ us hl => match us, hl with | [_], _ => rfl
  have F3 := fun_mk (st := st_p_law_can) l3 c3 k3
  have b3 := F3.binds (ps := ["flow", "some", "box"]) fun _ _ _ _ _ _ us hl => match us, hl with | [_, _, _], _ => rfl
  have F4 := fun_mk (st := st_p_law_gcd) l4 c4 k4
  have b4 := F4.binds (ps := ["one", "other"]) fun _ _ _ _ _ _ us hl => match us, hl with | [_, _], _ => rfl
  have F5 := fun_mk (st := st_p_law_pick) l5 c5 k5
  have b5 := F5.binds (ps := ["row", "things"]) fun _ _ _ _ _ _ us hl => match us, hl with | [_, _], _ => rfl
  have F6 := fun_mk (st := st_p_law_flow) l6 c6 k6
  have b6 := F6.binds (ps := ["row", "most", "top"]) fun _ _ _ _ _ _ us hl => match us, hl with | [_, _, _], _ => rfl
  have F7 := fun_mk (st := st_p_law_next) l7 c7 k7
  have b7 := F7.binds (ps := ["flow", "some", "box"]) fun _ _ _ _ _ _ us hl => match us, hl with | [_, _, _], _ => rfl
  have F8 := fun_mk (st := st_p_law_some) l8 c8 k8
  have b8 := F8.binds (ps := ["flow"]) fun _ _ _ _ _ _ us hl => match us, hl with | [_], _ => rfl
  have F9 := fun_mk (st := st_p_law_do) l9 c9 k9
  have b9 := F9.binds (ps := ["flow", "counts"]) fun _ _ _ _ _ _ us hl => match us, hl with | [_, _], _ => rfl
  have F10 := fun_mk (st := st_p_law_joined) l10 c10 k10
  have b10 := F10.binds (ps := ["flow", "box", "both"]) fun _ _ _ _ _ _ us hl => match us, hl with | [_, _, _], _ => rfl
  have F11 := fun_mk (st := st_p_law_ratio) l11 c11 k11
  have b11 := F11.binds (ps := ["numerator", "denominator"]) fun _ _ _ _ _ _ us hl => match us, hl with | [_, _], _ => rfl
  have F12 := fun_mk (st := st_p_law_round) l12 c12 k12
  have b12 := F12.binds (ps := ["flow"]) fun _ _ _ _ _ _ us hl => match us, hl with | [_], _ => rfl
  have F13 := fun_mk (st := st_p_law_with) l13 c13 k13
  have b13 := F13.binds (ps := ["flow", "some"]) fun _ _ _ _ _ _ us hl => match us, hl with | [_, _], _ => rfl
  have F14 := fun_mk (st := st_p_law_live) l14 c14 k14
  have b14 := F14.binds (ps := ["row", "most", "top"]) fun _ _ _ _ _ _ us hl => match us, hl with | [_, _, _], _ => rfl
  have F15 := fun_mk (st := st_p_is_whole) l15 c15 k15
  have b15 := F15.binds (ps := ["value"]) fun _ _ _ _ _ _ us hl => match us, hl with | [_], _ => rfl
  have F16 := fun_mk (st := st_p_is_number) l16 c16 k16
  have b16 := F16.binds (ps := ["value", "low", "high"]) fun _ _ _ _ _ _ us hl => match us, hl with | [_, _, _], _ => rfl
  have F17 := fun_mk (st := st_p_is_box) l17 c17 k17
  have b17 := F17.binds (ps := ["value", "boxes"]) fun _ _ _ _ _ _ us hl => match us, hl with | [_, _], _ => rfl
  have F18 := fun_mk (st := st_p_is_row) l18 c18 k18
  have b18 := F18.binds (ps := ["value", "many"]) fun _ _ _ _ _ _ us hl => match us, hl with | [_, _], _ => rfl
  have F19 := fun_mk (st := st_p_is_pipe) l19 c19 k19
  have b19 := F19.binds (ps := ["value", "boxes"]) fun _ _ _ _ _ _ us hl => match us, hl with | [_, _], _ => rfl
  have F20 := fun_mk (st := st_p_check_flow) l20 c20 k20
  have b20 := F20.binds (ps := ["flow"]) fun _ _ _ _ _ _ us hl => match us, hl with | [_], _ => rfl
  have F21 := fun_mk (st := st_p_held_behind) l21 c21 k21
  have b21 := F21.binds (ps := ["pipes", "held", "box"]) fun _ _ _ _ _ _ us hl => match us, hl with | [_, _, _], _ => rfl
  have F22 := fun_mk (st := st_p_marks) l22 c22 k22
  have b22 := F22.binds (ps := ["flow"]) fun _ _ _ _ _ _ us hl => match us, hl with | [_], _ => rfl
  have F23 := fun_mk (st := st_p_short_pipes) l23 c23 k23
  have b23 := F23.binds (ps := ["pipes", "held", "box"]) fun _ _ _ _ _ _ us hl => match us, hl with | [_, _, _], _ => rfl
  have F24 := fun_mk (st := st_p_all_come) l24 c24 k24
  have b24 := F24.binds (ps := ["flow"]) fun _ _ _ _ _ _ us hl => match us, hl with | [_], _ => rfl
  have F25 := fun_mk (st := st_p_law) l25 c25 k25
  have b25 := F25.binds (ps := ["script"]) fun _ _ _ _ _ _ us hl => match us, hl with | [_], _ => rfl
  refine ⟨PySem.W.fnOf "law" "law" (defArgs st_p_law) (defBody st_p_law) (defScope st_p_law) .none kV25 dc25 pm25 an25 cd25 ct25, fun s v => .of_eq rfl, fun base _ _ => ?_⟩
  have Fi_TooMany := fun_mk (st := st_i_TooMany) xl2_TooMany xc_TooMany xki_TooMany
  have bi_TooMany := Fi_TooMany.binds (ps := ["self", "most"]) fun _ _ _ _ _ _ us hl => match us, hl with | [_, _], _ => rfl
  have HX_TooMany : XIn l.prog w ⟨K, mg⟩ base 1 "TooMany" "most" := ⟨A_TooMany, I_TooMany, _, PySem.W.mg_of X G xa_TooMany, ⟨⟨nm_TooMany, q_TooMany, N_TooMany, bs_TooMany, _, sn_TooMany, sub_TooMany, ab_TooMany, col_TooMany, dd_TooMany, m0_TooMany, m1_TooMany, m2_TooMany, m3_TooMany, m5_TooMany, xL_TooMany, by rfl⟩, xS_TooMany, xb_TooMany, xt_TooMany, xk_TooMany⟩, xI_TooMany, xT_TooMany, xo_TooMany, ok_i_TooMany (P := l.prog) (wd := w) (base := base) Fi_TooMany (PySem.W.mg_of X G xa_FlowError) xG_FlowError xR_FlowError xV_FlowError, bi_TooMany⟩
  have H0 := ok_p_law_alike (P := l.prog) (wd := w) (base := base) F0 (PySem.W.mg_of X G a0) b0 T 
  have H1 := ok_p_law_taken (P := l.prog) (wd := w) (base := base) F1 (PySem.W.mg_of X G a1) b1 T 
  have H2 := ok_p_law_any (P := l.prog) (wd := w) (base := base) F2 (PySem.W.mg_of X G a2) b2 T H1
  have H3 := ok_p_law_can (P := l.prog) (wd := w) (base := base) F3 (PySem.W.mg_of X G a3) b3 T 
  have H4 := ok_p_law_gcd (P := l.prog) (wd := w) (base := base) F4 (PySem.W.mg_of X G a4) b4 T 
  have H5 := ok_p_law_pick (P := l.prog) (wd := w) (base := base) F5 (PySem.W.mg_of X G a5) b5 T H1
  have H6 := ok_p_law_flow (P := l.prog) (wd := w) (base := base) F6 (PySem.W.mg_of X G a6) b6 T H4 H5 H1
  have H7 := ok_p_law_next (P := l.prog) (wd := w) (base := base) F7 (PySem.W.mg_of X G a7) b7 T 
  have H8 := ok_p_law_some (P := l.prog) (wd := w) (base := base) F8 (PySem.W.mg_of X G a8) b8 T 
  have H9 := ok_p_law_do (P := l.prog) (wd := w) (base := base) F9 (PySem.W.mg_of X G a9) b9 T H3 H7 H8
  have H10 := ok_p_law_joined (P := l.prog) (wd := w) (base := base) F10 (PySem.W.mg_of X G a10) b10 T 
  have H11 := ok_p_law_ratio (P := l.prog) (wd := w) (base := base) F11 (PySem.W.mg_of X G a11) b11 T H4
  have H12 := ok_p_law_round (P := l.prog) (wd := w) (base := base) F12 (PySem.W.mg_of X G a12) b12 T H4 H10 H11
  have H13 := ok_p_law_with (P := l.prog) (wd := w) (base := base) F13 (PySem.W.mg_of X G a13) b13 T 
  have H14 := ok_p_law_live (P := l.prog) (wd := w) (base := base) F14 (PySem.W.mg_of X G a14) b14 T H9 H6 H5 H12 H8 H13
  have H15 := ok_p_is_whole (P := l.prog) (wd := w) (base := base) F15 (PySem.W.mg_of X G a15) b15 T 
  have H16 := ok_p_is_number (P := l.prog) (wd := w) (base := base) F16 (PySem.W.mg_of X G a16) b16 T H15
  have H17 := ok_p_is_box (P := l.prog) (wd := w) (base := base) F17 (PySem.W.mg_of X G a17) b17 T H16
  have H18 := ok_p_is_row (P := l.prog) (wd := w) (base := base) F18 (PySem.W.mg_of X G a18) b18 T 
  have H19 := ok_p_is_pipe (P := l.prog) (wd := w) (base := base) F19 (PySem.W.mg_of X G a19) b19 T H17 H16 H18
  have H20 := ok_p_check_flow (P := l.prog) (wd := w) (base := base) F20 (PySem.W.mg_of X G a20) b20 T H16 H19 H18
  have H21 := ok_p_held_behind (P := l.prog) (wd := w) (base := base) F21 (PySem.W.mg_of X G a21) b21 T 
  have H22 := ok_p_marks (P := l.prog) (wd := w) (base := base) F22 (PySem.W.mg_of X G a22) b22 T H20
  have H23 := ok_p_short_pipes (P := l.prog) (wd := w) (base := base) F23 (PySem.W.mg_of X G a23) b23 T 
  have H24 := ok_p_all_come (P := l.prog) (wd := w) (base := base) F24 (PySem.W.mg_of X G a24) b24 T H20 H21 H22 H23 HX_TooMany
  exact (ok_p_law (P := l.prog) (wd := w) (base := base) F25 T H0 H2 H3 H6 H14 H7 H5 H8 H24).imp (law_sp (g := ⟨K, mg⟩) ok)
theorem no_exc {P : Program} {w : World} {H : Hp} {s : Shared} {e : Value} {s' : Shared} (h : L2.CX P w [] H s (fun _ _ _ => False) e s') : False := by
  obtain ⟨_, _, _, _, _, _, _, _, _, _, _, _, z⟩ := h
  exact z
end K16
set_option linter.all false
set_option maxRecDepth 100000
/-! Reckoning: each rule fires only when what stands ahead is a value. -/
namespace J
open PySem (Str)
variable {E : Env} {S : List D} {d x y z : D} {ds xs : List D}
@[simp] theorem bind_exc {α β : Type} (c : Str) (fs : List (Str × D)) (S : List D) (k : α → List D → R β) : (R.exc c fs S).bind k = .exc c fs S := id rfl
@[simp] theorem bind_bad {α β : Type} (k : α → List D → R β) : (R.bad : R α).bind k = .bad := id rfl
/-! variables -/
@[simp] theorem ev_var0 : eVar 0 (some d :: E) S = .ok d S := id rfl
@[simp] theorem ev_varS (i : Nat) (o : Option D) : eVar (i + 1) (o :: E) S = eVar i E S := id rfl
theorem ev_var {i : Nat} (h : E[i]? = some (some d)) : eVar i E S = .ok d S := by simp [eVar, h]
@[simp] theorem ev_c : eC d E S = .ok d S := id rfl
/-! expressions -/
def kOp1 (f : D → D → List D → R D) (b : ME) (E : Env) (x : D) (S : List D) : R D := (b E S).bind (fun y S2 => f x y S2)
def kOp2 (f : D → D → List D → R D) (x : D) (y : D) (S : List D) : R D := f x y S
@[simp] theorem ev_op (f : D → D → List D → R D) (a b : ME) : eOp f a b E S = (a E S).bind (kOp1 f b E) := id rfl
@[simp] theorem kop1 (f : D → D → List D → R D) (b : ME) : kOp1 f b E x S = (b E S).bind (kOp2 f x) := id rfl
@[simp] theorem kop2 (f : D → D → List D → R D) : kOp2 f x y S = f x y S := id rfl
@[simp] theorem ev_un (f : D → List D → R D) (a : ME) : eUn f a E S = (a E S).bind f := id rfl
@[simp] theorem ev_nil : aNil E S = .ok [] S := id rfl
def kCons1 (r : MA) (E : Env) (x : D) (S : List D) : R (List D) := (r E S).bind fun xs S2 => .ok (x :: xs) S2
def kCons2 (x : D) (xs : List D) (S : List D) : R (List D) := .ok (x :: xs) S
@[simp] theorem ev_cons (a : ME) (r : MA) : aCons a r E S = (a E S).bind (kCons1 r E) := id rfl
@[simp] theorem kcons1 (r : MA) : kCons1 r E x S = (r E S).bind (kCons2 x) := id rfl
@[simp] theorem kcons2 : kCons2 x xs S = .ok (x :: xs) S := id rfl
@[simp] theorem ev_args (f : List D → List D → R D) (a : MA) : eArgs f a E S = (a E S).bind f := id rfl
def kIf (a b : ME) (E : Env) (c : Bool) (S : List D) : R D := if c = true then a E S else b E S
@[simp] theorem ev_if (t : MT) (a b : ME) : eIf t a b E S = (t E S).bind (kIf a b E) := id rfl
@[simp] theorem kif_t (a b : ME) : kIf a b E true S = a E S := id rfl
@[simp] theorem kif_f (a b : ME) : kIf a b E false S = b E S := id rfl
def kAnd (b : ME) (E : Env) (x : D) (S : List D) : R D := onBl x fun c => if c = true then b E S else .ok (.bl false) S
@[simp] theorem ev_and (a b : ME) : eAnd a b E S = (a E S).bind (kAnd b E) := id rfl
@[simp] theorem kand_t (b : ME) : kAnd b E (.bl true) S = b E S := id rfl
@[simp] theorem kand_f (b : ME) : kAnd b E (.bl false) S = .ok (.bl false) S := id rfl
def kOr (b : ME) (E : Env) (x : D) (S : List D) : R D := onBl x fun c => if c = true then .ok (.bl true) S else b E S
@[simp] theorem ev_or (a b : ME) : eOr a b E S = (a E S).bind (kOr b E) := id rfl
@[simp] theorem kor_t (b : ME) : kOr b E (.bl true) S = .ok (.bl true) S := id rfl
@[simp] theorem kor_f (b : ME) : kOr b E (.bl false) S = b E S := id rfl
def kNot (x : D) (S : List D) : R D := onBl x fun c => .ok (.bl (!c)) S
@[simp] theorem ev_not (a : ME) : eNot a E S = (a E S).bind kNot := id rfl
@[simp] theorem knot_b (c : Bool) : kNot (.bl c) S = .ok (.bl (!c)) S := id rfl
def kCh1 (f h : D → D → List D → R D) (b c : ME) (E : Env) (x : D) (S : List D) : R D := (b E S).bind fun y S2 => (f x y S2).bind fun t S3 => onBl t fun k => if k = true then (c E S3).bind fun z S4 => h y z S4 else .ok (.bl false) S3
def kCh2 (f h : D → D → List D → R D) (c : ME) (E : Env) (x y : D) (S : List D) : R D := (f x y S).bind fun t S3 => onBl t fun k => if k = true then (c E S3).bind fun z S4 => h y z S4 else .ok (.bl false) S3
def kCh3 (h : D → D → List D → R D) (c : ME) (E : Env) (y t : D) (S : List D) : R D := onBl t fun k => if k = true then (c E S).bind fun z S4 => h y z S4 else .ok (.bl false) S
@[simp] theorem ev_chain (f h : D → D → List D → R D) (a b c : ME) : eChain f h a b c E S = (a E S).bind (kCh1 f h b c E) := id rfl
@[simp] theorem kch1 (f h : D → D → List D → R D) (b c : ME) : kCh1 f h b c E x S = (b E S).bind (kCh2 f h c E x) := id rfl
@[simp] theorem kch2 (f h : D → D → List D → R D) (c : ME) : kCh2 f h c E x y S = (f x y S).bind (kCh3 h c E y) := id rfl
@[simp] theorem kch3_t (h : D → D → List D → R D) (c : ME) : kCh3 h c E y (.bl true) S = (c E S).bind (kOp2 h y) := id rfl
@[simp] theorem kch3_f (h : D → D → List D → R D) (c : ME) : kCh3 h c E y (.bl false) S = .ok (.bl false) S := id rfl
/-! tests -/
def kTV (x : D) (S : List D) : R Bool := onBl x fun c => .ok c S
@[simp] theorem ev_tv (a : ME) : tV a E S = (a E S).bind kTV := id rfl
@[simp] theorem ktv (c : Bool) : kTV (.bl c) S = .ok c S := id rfl
def kTT (x : D) (S : List D) : R Bool := match truth S x with
  | some c => .ok c S
  | none => .bad
@[simp] theorem ev_tr (a : ME) : tTr a E S = (a E S).bind kTT := id rfl
theorem ktt {c : Bool} (h : truth S x = some c) : kTT x S = .ok c S := by simp [kTT, h]
@[simp] theorem ktt_bl (c : Bool) : kTT (.bl c) S = .ok c S := id rfl
@[simp] theorem ktt_int (i : Int) : kTT (.int i) S = .ok (!decide (i = 0)) S := id rfl
@[simp] theorem ktt_tup : kTT (.tup ds) S = .ok (!ds.isEmpty) S := id rfl
@[simp] theorem ktt_lst : kTT (.lst ds) S = .ok (!ds.isEmpty) S := id rfl
@[simp] theorem ktt_non : kTT .non S = .ok false S := id rfl
def kTAnd (b : MT) (E : Env) (c : Bool) (S : List D) : R Bool := if c = true then b E S else .ok false S
@[simp] theorem ev_tand (a b : MT) : tAnd a b E S = (a E S).bind (kTAnd b E) := id rfl
@[simp] theorem ktand_t (b : MT) : kTAnd b E true S = b E S := id rfl
@[simp] theorem ktand_f (b : MT) : kTAnd b E false S = .ok false S := id rfl
def kTOr (b : MT) (E : Env) (c : Bool) (S : List D) : R Bool := if c = true then .ok true S else b E S
@[simp] theorem ev_tor (a b : MT) : tOr a b E S = (a E S).bind (kTOr b E) := id rfl
@[simp] theorem ktor_t (b : MT) : kTOr b E true S = .ok true S := id rfl
@[simp] theorem ktor_f (b : MT) : kTOr b E false S = b E S := id rfl
def kTNot (c : Bool) (S : List D) : R Bool := .ok (!c) S
@[simp] theorem ev_tnot (a : MT) : tNot a E S = (a E S).bind kTNot := id rfl
@[simp] theorem ktnot (c : Bool) : kTNot c S = .ok (!c) S := id rfl
@[simp] theorem ev_tyes : tYes E S = .ok true S := id rfl
/-! statements -/
def kSeq (b : MS) : O → O
  | .nx E1 S1 => b E1 S1
  | o => o
@[simp] theorem ev_seq (a b : MS) : sSeq a b E S = kSeq b (a E S) := by
  unfold sSeq kSeq
  cases a E S <;> rfl
@[simp] theorem kseq_nx (b : MS) : kSeq b (.nx E S) = b E S := id rfl
@[simp] theorem kseq_rt (b : MS) : kSeq b (.rt d S) = .rt d S := id rfl
@[simp] theorem kseq_bk (b : MS) : kSeq b (.bk E S) = .bk E S := id rfl
@[simp] theorem kseq_ct (b : MS) : kSeq b (.ct E S) = .ct E S := id rfl
@[simp] theorem kseq_bad (b : MS) : kSeq b .bad = .bad := id rfl
@[simp] theorem kseq_exc (b : MS) (c : Str) (fs : List (Str × D)) : kSeq b (.exc c fs E S) = .exc c fs E S := id rfl
@[simp] theorem ev_next : sNext E S = .nx E S := id rfl
@[simp] theorem ev_break : sBreak E S = .bk E S := id rfl
@[simp] theorem ev_cont : sCont E S = .ct E S := id rfl
@[simp] theorem ev_never : sNever E S = .bad := id rfl
@[simp] theorem ev_retN : sRetN E S = .rt .non S := id rfl
def kExpr (E : Env) (_ : D) (S : List D) : O := .nx E S
@[simp] theorem ev_expr (a : ME) : sExpr a E S = (a E S).toO E (kExpr E) := id rfl
@[simp] theorem kexpr : kExpr E d S = .nx E S := id rfl
def kRet (d : D) (S : List D) : O := .rt d S
@[simp] theorem ev_ret (a : ME) : sRet a E S = (a E S).toO E kRet := id rfl
@[simp] theorem kret : kRet d S = .rt d S := id rfl
def kSIf (a b : MS) (E : Env) (c : Bool) (S : List D) : O := if c = true then a E S else b E S
@[simp] theorem ev_sif (t : MT) (a b : MS) : sIf t a b E S = (t E S).tO E (kSIf a b E) := id rfl
@[simp] theorem ksif_t (a b : MS) : kSIf a b E true S = a E S := id rfl
@[simp] theorem ksif_f (a b : MS) : kSIf a b E false S = b E S := id rfl
def kSet (i : Nat) (E : Env) (d : D) (S : List D) : O := .nx (E.set i (some d)) S
@[simp] theorem ev_set (i : Nat) (a : ME) : sSet i a E S = (a E S).toO E (kSet i E) := id rfl
@[simp] theorem kset (i : Nat) : kSet i E d S = .nx (E.set i (some d)) S := id rfl
def kAug1 (f : D → D → List D → R D) (i : Nat) (x : D) (E : Env) (y : D) (S : List D) : O := (f x y S).toO E (kSet i E)
def kAug0 (f : D → D → List D → R D) (i : Nat) (a : ME) (E : Env) (x : D) (S : List D) : O := (a E S).toO E (kAug1 f i x E)
@[simp] theorem ev_aug (i : Nat) (f : D → D → List D → R D) (a : ME) : sAug i f a E S = (eVar i E S).toO E (kAug0 f i a E) := by
  unfold sAug eVar
  split <;> rfl
@[simp] theorem kaug0 (f : D → D → List D → R D) (i : Nat) (a : ME) : kAug0 f i a E x S = (a E S).toO E (kAug1 f i x E) := id rfl
@[simp] theorem kaug1 (f : D → D → List D → R D) (i : Nat) : kAug1 f i x E y S = (f x y S).toO E (kSet i E) := id rfl
def kAsg (t : Tg) (E : Env) (d : D) (S : List D) : O := match t.bind d E with
  | some E1 => .nx E1 S
  | none => .bad
@[simp] theorem ev_asg (t : Tg) (a : ME) : sAsg t a E S = (a E S).toO E (kAsg t E) := id rfl
def kA (o : Option Env) (S : List D) : O := match o with
  | some E1 => .nx E1 S
  | none => .bad
@[simp] theorem kA_s : kA (some E) S = .nx E S := id rfl
@[simp] theorem kasg' (t : Tg) : kAsg t E d S = kA (t.bind d E) S := by
  unfold kAsg kA
  cases t.bind d E <;> rfl
theorem kasg {t : Tg} {E1 : Env} (h : t.bind d E = some E1) : kAsg t E d S = .nx E1 S := by simp [kAsg, h]
def kPar (is_ : List Nat) (E : Env) : R (List D) → O
  | .ok ds S1 => match Tg.binds (is_.map .nm) ds E with
    | some E1 => .nx E1 S1
    | none => .bad
  | .exc c fs S1 => .exc c fs E S1
  | .bad => .bad
@[simp] theorem ev_par (is_ : List Nat) (a : MA) : sPar is_ a E S = kPar is_ E (a E S) := by
  unfold sPar kPar
  cases a E S <;> rfl
@[simp] theorem kpar2 (i j : Nat) (a b : D) : kPar [i, j] E (.ok [a, b] S) = .nx ((E.set i (some a)).set j (some b)) S := id rfl
@[simp] theorem kpar3 (i j k : Nat) (a b c : D) : kPar [i, j, k] E (.ok [a, b, c] S) = .nx (((E.set i (some a)).set j (some b)).set k (some c)) S := id rfl
@[simp] theorem bind_nm (i : Nat) : (Tg.nm i).bind d E = some (E.set i (some d)) := id rfl
@[simp] theorem bind_tp (ts : List Tg) : (Tg.tp ts).bind (.tup ds) E = Tg.binds ts ds E := id rfl
@[simp] theorem binds_nil : Tg.binds [] [] E = some E := id rfl
@[simp] theorem binds_cons (i : Nat) (ts : List Tg) : Tg.binds (.nm i :: ts) (d :: ds) E = Tg.binds ts ds (E.set i (some d)) := id rfl
@[simp] theorem binds_tp (us ts : List Tg) : Tg.binds (.tp us :: ts) (.tup xs :: ds) E = (Tg.binds us xs E).bind fun E1 => Tg.binds ts ds E1 := by
  simp only [Tg.binds, Tg.bind]
  cases Tg.binds us xs E <;> rfl
/-! o[i] = e -/
def kPut2 (x v : D) (E : Env) (k : D) (S : List D) : O := match putAt x k v S with
  | some S4 => .nx E S4
  | none => .bad
def kPut1 (i : ME) (v : D) (E : Env) (x : D) (S : List D) : O := (i E S).toO E (kPut2 x v E)
def kPut0 (o i : ME) (E : Env) (v : D) (S : List D) : O := (o E S).toO E (kPut1 i v E)
@[simp] theorem ev_put (o i e : ME) : sPut o i e E S = (e E S).toO E (kPut0 o i E) := id rfl
@[simp] theorem kput0 (o i : ME) : kPut0 o i E d S = (o E S).toO E (kPut1 i d E) := id rfl
@[simp] theorem kput1 (i : ME) (v : D) : kPut1 i v E x S = (i E S).toO E (kPut2 x v E) := id rfl
theorem kput2 {v k : D} {S' : List D} (h : putAt x k v S = some S') : kPut2 x v E k S = .nx E S' := by simp [kPut2, h]
def kPA4 (x k : D) (E : Env) (v : D) (S : List D) : O := kPut2 x v E k S
def kPA3 (f : D → D → List D → R D) (x k y : D) (E : Env) (z : D) (S : List D) : O := (f y z S).toO E (kPA4 x k E)
def kPA2 (f : D → D → List D → R D) (e : ME) (x k : D) (E : Env) (y : D) (S : List D) : O := (e E S).toO E (kPA3 f x k y E)
def kPA1 (f : D → D → List D → R D) (e : ME) (x : D) (E : Env) (k : D) (S : List D) : O := (oIx x k S).toO E (kPA2 f e x k E)
def kPA0 (f : D → D → List D → R D) (i e : ME) (E : Env) (x : D) (S : List D) : O := (i E S).toO E (kPA1 f e x E)
@[simp] theorem ev_putAug (f : D → D → List D → R D) (o i e : ME) : sPutAug f o i e E S = (o E S).toO E (kPA0 f i e E) := id rfl
@[simp] theorem kpa0 (f : D → D → List D → R D) (i e : ME) : kPA0 f i e E x S = (i E S).toO E (kPA1 f e x E) := id rfl
@[simp] theorem kpa1 (f : D → D → List D → R D) (e : ME) : kPA1 f e x E y S = (oIx x y S).toO E (kPA2 f e x y E) := id rfl
@[simp] theorem kpa2 (f : D → D → List D → R D) (e : ME) : kPA2 f e x y E z S = (e E S).toO E (kPA3 f x y z E) := id rfl
@[simp] theorem kpa3 (f : D → D → List D → R D) (k v : D) : kPA3 f x y k E v S = (f k v S).toO E (kPA4 x y E) := id rfl
@[simp] theorem kpa4 (v : D) : kPA4 x y E v S = kPut2 x v E y S := id rfl
/-! operators by values -/
@[simp] theorem o_add (i j : Int) : oAdd (.int i) (.int j) S = .ok (.int (i + j)) S := id rfl
@[simp] theorem i_add (i j : Int) : iAdd (.int i) (.int j) S = .ok (.int (i + j)) S := id rfl
theorem o_addT (h : xs.length + ds.length ≤ SL) : oAdd (.tup xs) (.tup ds) S = .ok (.tup (xs ++ ds)) S := by simp [oAdd, h]
theorem o_addL {x y : D} (h1 : lstOf S x = some xs) (h2 : lstOf S y = some ds) (h : xs.length + ds.length ≤ SL) : oAdd x y S = .ok (.lst (xs ++ ds)) S := by
  unfold oAdd
  split
  · simp [lstOf] at h1
  · simp [lstOf] at h1
  · rw [h1, h2]; simp [h]
@[simp] theorem o_sub (i j : Int) : oSub (.int i) (.int j) S = .ok (.int (i - j)) S := id rfl
theorem o_mul {i j : Int} (h : smallI i = true ∨ smallI j = true) : oMul (.int i) (.int j) S = .ok (.int (i * j)) S := by simp [oMul, h]
theorem o_div {i j : Int} (h : 0 < j) (h2 : j < 1073741824) : oDiv (.int i) (.int j) S = .ok (.int (i / j)) S := by
  have : j ≠ 0 ∧ j.natAbs < 1073741824 := ⟨by omega, by omega⟩
  simp only [oDiv, if_pos this, Int.fdiv_eq_ediv_of_nonneg _ (Int.le_of_lt h)]
theorem o_mod {i j : Int} (h : 0 < j) : oMod (.int i) (.int j) S = .ok (.int (i % j)) S := by
  have : j ≠ 0 := by omega
  simp only [oMod, if_pos this, Int.fmod_eq_emod_of_nonneg _ (Int.le_of_lt h)]
@[simp] theorem o_lt (i j : Int) : oLt (.int i) (.int j) S = .ok (.bl (decide (i < j))) S := id rfl
@[simp] theorem o_le (i j : Int) : oLe (.int i) (.int j) S = .ok (.bl (decide (i ≤ j))) S := id rfl
@[simp] theorem o_gt (i j : Int) : oGt (.int i) (.int j) S = .ok (.bl (decide (j < i))) S := id rfl
@[simp] theorem o_ge (i j : Int) : oGe (.int i) (.int j) S = .ok (.bl (decide (j ≤ i))) S := id rfl
@[simp] theorem o_neg (i : Int) : oNeg (.int i) S = .ok (.int (-i)) S := id rfl
@[simp] theorem o_isN : oIsN x S = .ok (.bl x.isNon) S := id rfl
@[simp] theorem o_notN : oNotN x S = .ok (.bl (!x.isNon)) S := id rfl
theorem cmpOk_int (i : Int) : cmpOk (.int i) = true := rfl
@[simp] theorem o_eqI (i j : Int) : oEq (.int i) (.int j) S = .ok (.bl (decide (i = j))) S := id rfl
@[simp] theorem o_neI (i j : Int) : oNe (.int i) (.int j) S = .ok (.bl (!decide (i = j))) S := id rfl
theorem o_eq (h1 : cmpOk (seen S x) = true) (h2 : cmpOk (seen S y) = true) : oEq x y S = .ok (.bl (D.eqB (seen S x) (seen S y))) S := by simp [oEq, h1, h2]
theorem o_ne (h1 : cmpOk (seen S x) = true) (h2 : cmpOk (seen S y) = true) : oNe x y S = .ok (.bl (!D.eqB (seen S x) (seen S y))) S := by simp [oNe, h1, h2]
/-! subscripts -/
theorem atOf_nat {xs : List D} {i : Nat} {d : D} (h : xs[i]? = some d) : atOf xs (i : Int) = some d := by
  have hl := (List.getElem?_eq_some_iff.mp h).1
  have : ixOf xs.length (i : Int) = some i := by
    unfold ixOf
    rw [if_pos (by omega), if_pos (by omega)]
    simp
  simp [atOf, this, h]
@[simp] theorem atOf_nat' (xs : List D) (i : Nat) : atOf xs (i : Int) = xs[i]? := by
  cases h : xs[i]? with
  | some d => exact atOf_nat h
  | none =>
    have hl := List.getElem?_eq_none_iff.mp h
    have h2 : ixOf xs.length (i : Int) = none := by
      unfold ixOf
      rw [if_pos (by omega), if_neg (by omega)]
    unfold atOf
    rw [h2]
    rfl
@[simp] theorem at0 : atOf xs 0 = xs[0]? := atOf_nat' xs 0
@[simp] theorem at1 : atOf xs 1 = xs[1]? := atOf_nat' xs 1
@[simp] theorem at2 : atOf xs 2 = xs[2]? := atOf_nat' xs 2
@[simp] theorem at3 : atOf xs 3 = xs[3]? := atOf_nat' xs 3
@[simp] theorem at4 : atOf xs 4 = xs[4]? := atOf_nat' xs 4
theorem at_int {k : Int} (h : 0 ≤ k) : atOf xs k = xs[k.toNat]? := by
  obtain ⟨n, rfl⟩ := Int.eq_ofNat_of_zero_le h
  simp
@[simp] theorem at_last : atOf xs (-1) = xs.getLast? := by
  cases xs with
  | nil => rfl
  | cons d ds =>
    rw [List.getLast?_eq_getElem?]
    have : ixOf (d :: ds).length (-1) = some ((d :: ds).length - 1) := by
      unfold ixOf
      rw [if_neg (by omega), if_pos (by simp; omega)]
      congr 1
      simp
      omega
    unfold atOf
    rw [this]
    rfl
def okO (o : Option D) (S : List D) : R D := match o with
  | some d => .ok d S
  | none => .bad
@[simp] theorem okO_s : okO (some d) S = .ok d S := id rfl
theorem okO_g {xs : List D} {i : Nat} (h : i < xs.length) : okO xs[i]? S = .ok xs[i] S := by simp [h]
def ixL (o : Option D) (k : Int) (S : List D) : R D := match o with
  | some (.lst xs) => okO (atOf xs k) S
  | some (.dct ks ds) => okO (getK ks ds (.inl k)) S
  | _ => .bad
@[simp] theorem ixL_l (k : Int) : ixL (some (.lst xs)) k S = okO (atOf xs k) S := id rfl
@[simp] theorem ixL_d (ks : List Ky) (k : Int) : ixL (some (.dct ks ds)) k S = okO (getK ks ds (.inl k)) S := id rfl
@[simp] theorem o_ixT (k : Int) : oIx (.tup xs) (.int k) S = okO (atOf xs k) S := by
  unfold oIx okO
  simp only [seqOf]
  all_goals (cases atOf xs k <;> rfl)
@[simp] theorem o_ixLs (k : Int) : oIx (.lst xs) (.int k) S = okO (atOf xs k) S := by
  unfold oIx okO
  simp only [seqOf]
  all_goals (cases atOf xs k <;> rfl)
@[simp] theorem o_ixR (k : Int) : oIx (.rdl xs) (.int k) S = okO (atOf xs k) S := by
  unfold oIx okO
  simp only [seqOf]
  all_goals (cases atOf xs k <;> rfl)
@[simp] theorem o_ixO (n : Nat) (k : Int) : oIx (.loc n) (.int k) S = ixL S[n]? k S := by
  unfold oIx ixL okO
  cases h : S[n]? with
  | none => simp only [seqOf, dctOf, h]
  | some v =>
    cases v with
    | lst xs =>
      simp only [seqOf, h]
      all_goals (cases atOf xs k <;> rfl)
    | dct ks ds =>
      simp only [seqOf, dctOf, keyOf, h]
      all_goals (cases getK ks ds (.inl k) <;> rfl)
    | _ => simp only [seqOf, dctOf, h]
/-! built-ins -/
@[simp] theorem b_int (i : Int) : bInt [.int i] S = .ok (.int i) S := id rfl
@[simp] theorem b_abs (i : Int) : bAbs [.int i] S = .ok (.int (if i < 0 then -i else i)) S := id rfl
theorem b_tup (h : xs.length ≤ SL) : bTup xs S = .ok (.tup xs) S := by simp [bTup, h]
theorem b_lst (h : xs.length ≤ SL) : bLst xs S = .ok (.lst xs) S := by simp [bLst, h]
theorem b_lstL (h : xs.length ≤ SL) : bLstL xs S = .ok (.loc S.length) (S ++ [.lst xs]) := by simp [bLstL, h]
@[simp] theorem b_tup2 (a b : D) : bTup [a, b] S = .ok (.tup [a, b]) S := id rfl
@[simp] theorem b_tup1 (a : D) : bTup [a] S = .ok (.tup [a]) S := id rfl
@[simp] theorem b_tup0 : bTup [] S = .ok (.tup []) S := id rfl
@[simp] theorem b_tup5 (a b c d e : D) : bTup [a, b, c, d, e] S = .ok (.tup [a, b, c, d, e]) S := id rfl
@[simp] theorem b_lst0 : bLst [] S = .ok (.lst []) S := id rfl
@[simp] theorem b_lst1 (a : D) : bLst [a] S = .ok (.lst [a]) S := id rfl
@[simp] theorem b_lst2 (a b : D) : bLst [a, b] S = .ok (.lst [a, b]) S := id rfl
@[simp] theorem b_lst3 (a b c : D) : bLst [a, b, c] S = .ok (.lst [a, b, c]) S := id rfl
@[simp] theorem b_lstL0 : bLstL [] S = .ok (.loc S.length) (S ++ [.lst []]) := id rfl
@[simp] theorem b_lstL1 (a : D) : bLstL [a] S = .ok (.loc S.length) (S ++ [.lst [a]]) := id rfl
@[simp] theorem b_lstL2 (a b : D) : bLstL [a, b] S = .ok (.loc S.length) (S ++ [.lst [a, b]]) := id rfl
@[simp] theorem b_lstL3 (a b c : D) : bLstL [a, b, c] S = .ok (.loc S.length) (S ++ [.lst [a, b, c]]) := id rfl
@[simp] theorem b_lstL4 (a b c d : D) : bLstL [a, b, c, d] S = .ok (.loc S.length) (S ++ [.lst [a, b, c, d]]) := id rfl
theorem b_len (h : seqOf S x = some xs) : bLen [x] S = .ok (.int xs.length) S := by simp [bLen, h]
@[simp] theorem b_lenT : bLen [.tup xs] S = .ok (.int xs.length) S := id rfl
@[simp] theorem b_lenL : bLen [.lst xs] S = .ok (.int xs.length) S := id rfl
@[simp] theorem b_lenR : bLen [.rdl xs] S = .ok (.int xs.length) S := id rfl
@[simp] theorem b_lenO (n : Nat) (h : S[n]? = some (.lst xs)) : bLen [.loc n] S = .ok (.int xs.length) S := by simp [bLen, seqOf, h]
@[simp] theorem b_tupleT : bTuple [.tup xs] S = .ok (.tup xs) S := id rfl
@[simp] theorem b_tupleL : bTuple [.lst xs] S = .ok (.tup xs) S := id rfl
def tupL (o : Option D) (S : List D) : R D := match o with
  | some (.lst xs) => .ok (.tup xs) S
  | _ => .bad
@[simp] theorem tupL_l : tupL (some (.lst xs)) S = .ok (.tup xs) S := id rfl
@[simp] theorem b_tupleO (n : Nat) : bTuple [.loc n] S = tupL S[n]? S := by
  unfold bTuple tupL
  cases h : S[n]? with
  | none => simp only [seqOf, h]
  | some v => cases v <;> simp only [seqOf, h]
@[simp] theorem b_listL : bListL [.tup xs] S = .ok (.loc S.length) (S ++ [.lst xs]) := id rfl
@[simp] theorem b_listL2 : bListL [.lst xs] S = .ok (.loc S.length) (S ++ [.lst xs]) := id rfl
theorem m_append {n : Nat} (h : S[n]? = some (.lst xs)) (hl : xs.length < SL) : mAppend (.loc n) [y] S = .ok .non (S.set n (.lst (xs ++ [y]))) := by simp [mAppend, h, hl]
def apL (o : Option D) (n : Nat) (y : D) (S : List D) : R D := match o with
  | some (.lst xs) => if xs.length < SL then .ok .non (S.set n (.lst (xs ++ [y]))) else .bad
  | _ => .bad
@[simp] theorem m_app (n : Nat) : mAppend (.loc n) [y] S = apL S[n]? n y S := by
  unfold apL
  cases h : S[n]? with
  | none => simp only [mAppend, h]
  | some v => cases v <;> simp only [mAppend, h]
@[simp] theorem apL_l (n : Nat) (hl : xs.length < SL) : apL (some (.lst xs)) n y S = .ok .non (S.set n (.lst (xs ++ [y]))) := by simp [apL, hl]
def kM1 (f : D → List D → List D → R D) (a : MA) (E : Env) (x : D) (S : List D) : R D := if (lstOf S x).isSome = true then (a E S).bind fun xs S2 => f x xs S2 else .bad
def kM2 (f : D → List D → List D → R D) (x : D) (xs : List D) (S : List D) : R D := f x xs S
@[simp] theorem ev_meth (f : D → List D → List D → R D) (o : ME) (a : MA) : eMeth f o a E S = (o E S).bind (kM1 f a E) := id rfl
def isL (o : Option D) : Bool := match o with
  | some (.lst _) => true
  | _ => false
@[simp] theorem isL_l : isL (some (.lst xs)) = true := id rfl
@[simp] theorem km1o {f : D → List D → List D → R D} {a : MA} {n : Nat} (h : isL S[n]? = true) : kM1 f a E (.loc n) S = (a E S).bind (fun xs S2 => f (.loc n) xs S2) := by
  unfold kM1
  rw [if_pos]
  cases h2 : S[n]? with
  | none => rw [h2] at h; cases h
  | some v => cases v <;> first | (rw [h2] at h; cases h; done) | simp only [lstOf, h2, Option.isSome]
theorem km1 {f : D → List D → List D → R D} {a : MA} (h : (lstOf S x).isSome = true) : kM1 f a E x S = (a E S).bind (kM2 f x) := by
  unfold kM1
  rw [if_pos h]; rfl
@[simp] theorem km2 (f : D → List D → List D → R D) : kM2 f x xs S = f x xs S := id rfl
/-! slices -/
def kSl3 (x : D) (l h : Option Int) (S : List D) : R D := oSl x l h S
def kSl2 (hi : Option ME) (E : Env) (x : D) (l : Option Int) (S : List D) : R D := (ePart hi E S).bind fun h S3 => oSl x l h S3
def kSl1 (lo hi : Option ME) (E : Env) (x : D) (S : List D) : R D := (ePart lo E S).bind fun l S2 => (ePart hi E S2).bind fun h S3 => oSl x l h S3
@[simp] theorem ev_sl (a : ME) (lo hi : Option ME) : eSl a lo hi E S = (a E S).bind (kSl1 lo hi E) := id rfl
@[simp] theorem ksl1 (lo hi : Option ME) : kSl1 lo hi E x S = (ePart lo E S).bind (kSl2 hi E x) := id rfl
@[simp] theorem ksl2 (hi : Option ME) (l : Option Int) : kSl2 hi E x l S = (ePart hi E S).bind (kSl3 x l) := id rfl
@[simp] theorem ksl3 (l h : Option Int) : kSl3 x l h S = oSl x l h S := id rfl
@[simp] theorem part_none : ePart none E S = .ok none S := id rfl
def kPart (x : D) (S : List D) : R (Option Int) := match x with
  | .int i => .ok (some i) S
  | _ => .bad
@[simp] theorem part_some (m : ME) : ePart (some m) E S = (m E S).bind kPart := id rfl
@[simp] theorem kpart (i : Int) : kPart (.int i) S = .ok (some i) S := id rfl
@[simp] theorem o_slT (l h : Option Int) : oSl (.tup xs) l h S = .ok (.tup (cutOf xs l h)) S := id rfl
theorem cut_to {xs : List D} (k : Nat) : cutOf xs none (some (k : Int)) = xs.take k := by
  unfold cutOf sIxOf
  simp only [List.drop_zero, Nat.sub_zero]
  rw [if_neg (show ¬ ((k : Int) < 0) by omega), Int.toNat_natCast]
  by_cases h : k ≤ xs.length
  · rw [Nat.min_eq_left h]
  · rw [Nat.min_eq_right (by omega), List.take_of_length_le (Nat.le_refl _), List.take_of_length_le (by omega)]
theorem cut_from {xs : List D} (k : Nat) : cutOf xs (some (k : Int)) none = xs.drop k := by
  unfold cutOf sIxOf
  simp only
  rw [if_neg (show ¬ ((k : Int) < 0) by omega), Int.toNat_natCast]
  by_cases h : k ≤ xs.length
  · rw [Nat.min_eq_left h, List.take_of_length_le (by simp)]
  · rw [Nat.min_eq_right (by omega)]
    rw [List.drop_of_length_le (Nat.le_refl _), List.drop_of_length_le (by omega)]
    simp
/-! o[i] = v -/
def putL (o : Option D) (n : Nat) (k : Int) (v : D) (S : List D) : Option (List D) := match o with
  | some (.lst xs) => (ixOf xs.length k).map fun j => S.set n (.lst (xs.set j v))
  | some (.dct ks ds) => if ks.length < SL then some (S.set n (putAt.putK ks ds (.inl k) v)) else none
  | _ => none
@[simp] theorem put_loc (n : Nat) (k : Int) (v : D) : putAt (.loc n) (.int k) v S = putL S[n]? n k v S := by
  unfold putAt putL keyOf
  simp only
  cases h : S[n]? with
  | none => rfl
  | some w =>
    cases w with
    | lst xs =>
      simp only
      cases ixOf xs.length k <;> rfl
    | _ => rfl
@[simp] theorem putL_l (n : Nat) (k : Int) (v : D) : putL (some (.lst xs)) n k v S = (ixOf xs.length k).map fun j => S.set n (.lst (xs.set j v)) := id rfl
theorem ix_nat {n i : Nat} (h : i < n) : ixOf n (i : Int) = some i := by
  unfold ixOf
  rw [if_pos (by omega), if_pos (by omega)]
  simp
theorem ix_int {n : Nat} {i : Int} (h0 : 0 ≤ i) (h : i < n) : ixOf n i = some i.toNat := by
  unfold ixOf
  rw [if_pos h0, if_pos h]
def kP (E : Env) (o : Option (List D)) : O := match o with
  | some S => .nx E S
  | none => .bad
@[simp] theorem kP_s : kP E (some S) = .nx E S := id rfl
@[simp] theorem kput2' {v k : D} : kPut2 x v E k S = kP E (putAt x k v S) := by
  unfold kPut2 kP
  cases putAt x k v S <;> rfl
@[simp] theorem toO_bad (k : D → List D → O) : (R.bad : R D).toO E k = .bad := id rfl
@[simp] theorem tO_bad (k : Bool → List D → O) : (R.bad : R Bool).tO E k = .bad := id rfl
@[simp] theorem wipe_nil : wipeE E [] = E := id rfl
@[simp] theorem wipe_cons (v : Nat) (vs : List Nat) : wipeE E (v :: vs) = (wipeE E vs).set v none := id rfl
/-! defs and calls -/
def kFn (n : Nat) : O → R D
  | .nx _ S1 => retF n .non S1
  | .rt d S1 => retF n d S1
  | .exc c fs _ S1 => excF n c fs S1
  | _ => .bad
theorem fn_ev (np nn : Nat) (b : MS) (h : ds.length = np) : fnF np nn b ds S = kFn S.length (b (ds.map some ++ List.replicate (nn - np) none) S) := by
  unfold fnF
  rw [if_pos h]
  cases b (ds.map some ++ List.replicate (nn - np) none) S <;> rfl
@[simp] theorem kfn_nx (n : Nat) : kFn n (.nx E S) = retF n .non S := id rfl
@[simp] theorem kfn_rt (n : Nat) : kFn n (.rt d S) = retF n d S := id rfl
theorem flats_all : ∀ ds : List D, D.flats ds = ds.all D.flat
  | [] => rfl
  | d :: ds => by simp [D.flats, flats_all ds]
theorem retF_flat (n : Nat) (h1 : n ≤ S.length) (h2 : (S.take n).all D.flat = true) (h3 : d.flat = true) : retF n d S = .ok d (S.take n) := by
  unfold retF
  rw [if_pos ⟨h1, h2⟩]
  simp [fz, h3]
@[simp] theorem retF_0 (h3 : d.flat = true) : retF 0 d S = .ok d [] := by
  rw [retF_flat 0 (Nat.zero_le _) rfl h3]
  rfl
@[simp] theorem retF_1 {s : D} (h3 : d.flat = true) (hs : s.flat = true) : retF 1 d (s :: S) = .ok d [s] := by
  rw [retF_flat 1 (by simp) (by simp [hs]) h3]
  rfl
theorem byRef_flat : ∀ (xs : List D) (k : Nat), D.flats xs = true → byRef xs k = some (xs, [])
  | [], _, _ => rfl
  | d :: r, k, h => by
    simp only [D.flats, Bool.and_eq_true] at h
    cases d with
    | loc n => simp [D.flat] at h
    | _ =>
      unfold byRef
      rw [if_pos h.1, byRef_flat r k h.2]
      rfl
def kC0 (S : List D) (r : R D) : R D := match r with
  | .ok d S' => if d.flat = true ∧ S'.length = 0 ∧ S'.all D.flat = true then .ok d S else .bad
  | .exc c fs S' => if S'.length = 0 ∧ S'.all D.flat = true ∧ fs.all (fun p => p.2.flat) = true then .exc c fs S else .bad
  | .bad => .bad
@[simp] theorem kc0 (h : d.flat = true) : kC0 S (.ok d []) = .ok d S := by simp [kC0, h]
theorem call0 (F : MF) (h : D.flats xs = true) : callF F xs S = kC0 S (F xs []) := by
  unfold callF kC0
  rw [byRef_flat xs 0 h]
  simp
  cases F xs [] with
  | ok d S' =>
    simp only
    by_cases hc : d.flat = true ∧ S' = [] ∧ ∀ x ∈ S', D.flat x = true
    · rw [if_pos hc]; simp [hc, setAll]
    · rw [if_neg hc]; simp at hc ⊢; intro a b; exact absurd (hc a b) (by subst b; simp)
  | exc c fs S' => 
    simp only
    cases S' <;> simp [setAll]
  | bad => rfl
def kC1 (n : Nat) (S : List D) (r : R D) : R D := match r with
  | .ok d S' => if d.flat = true ∧ S'.length = 1 ∧ S'.all D.flat = true then .ok d (setAll S [n] S') else .bad
  | .exc c fs S' => if S'.length = 1 ∧ S'.all D.flat = true ∧ fs.all (fun p => p.2.flat) = true then .exc c fs (setAll S [n] S') else .bad
  | .bad => .bad
@[simp] theorem kc1 {s : D} {n : Nat} (h : d.flat = true) (hs : s.flat = true) : kC1 n S (.ok d [s]) = .ok d (S.set n s) := by simp [kC1, h, hs, setAll]
theorem call1 (F : MF) {s : D} {n : Nat} (hS : S[n]? = some s) (hs : s.flat = true) (h : D.flats xs = true) : callF F (.loc n :: xs) S = kC1 n S (F (.loc 0 :: xs) [s]) := by
  have hb : byRef (.loc n :: xs) 0 = some (.loc 0 :: xs, [n]) := by
    unfold byRef
    rw [byRef_flat xs _ h]
    rfl
  unfold callF kC1
  rw [hb]
  simp only [List.mapM_cons, List.mapM_nil, hS]
  simp [hs]
  all_goals (cases F (.loc 0 :: xs) [s] <;> rfl)
@[simp] theorem call1' (F : MF) {s : D} (hs : s.flat = true) (h : D.flats xs = true) : callF F (.loc 0 :: xs) (s :: S) = kC1 0 (s :: S) (F (.loc 0 :: xs) [s]) := call1 F rfl hs h
theorem call00 (F : MF) : callF F [] S = kC0 S (F [] []) := call0 F rfl
@[simp] theorem callI (F : MF) (i : Int) (h : D.flats xs = true) : callF F (.int i :: xs) S = kC0 S (F (.int i :: xs) []) := call0 F (by simp [D.flats, D.flat, h])
@[simp] theorem callB (F : MF) (i : Bool) (h : D.flats xs = true) : callF F (.bl i :: xs) S = kC0 S (F (.bl i :: xs) []) := call0 F (by simp [D.flats, D.flat, h])
@[simp] theorem callT (F : MF) (h2 : D.flats ds = true) (h : D.flats xs = true) : callF F (.tup ds :: xs) S = kC0 S (F (.tup ds :: xs) []) := call0 F (by simp [D.flats, D.flat, h, h2])
@[simp] theorem callL (F : MF) (h2 : D.flats ds = true) (h : D.flats xs = true) : callF F (.lst ds :: xs) S = kC0 S (F (.lst ds :: xs) []) := call0 F (by simp [D.flats, D.flat, h, h2])
@[simp] theorem isNon_non : D.isNon .non = true := id rfl
@[simp] theorem isNon_int (i : Int) : D.isNon (.int i) = false := id rfl
@[simp] theorem isNon_tup (ds : List D) : D.isNon (.tup ds) = false := id rfl
@[simp] theorem isNon_lst (ds : List D) : D.isNon (.lst ds) = false := id rfl
@[simp] theorem fl_non : D.flat .non = true := id rfl
@[simp] theorem fl_bl (b : Bool) : D.flat (.bl b) = true := id rfl
@[simp] theorem fl_int (i : Int) : D.flat (.int i) = true := id rfl
@[simp] theorem fl_str (i : Str) : D.flat (.str i) = true := id rfl
@[simp] theorem fl_ty (i : String) : D.flat (.ty i) = true := id rfl
@[simp] theorem fl_tup (ds : List D) : D.flat (.tup ds) = D.flats ds := id rfl
@[simp] theorem fl_lst (ds : List D) : D.flat (.lst ds) = D.flats ds := id rfl
@[simp] theorem fl_rdl (ds : List D) : D.flat (.rdl ds) = D.flats ds := id rfl
@[simp] theorem fl_dct (ks : List Ky) (ds : List D) : D.flat (.dct ks ds) = D.flats ds := id rfl
@[simp] theorem fl_loc (n : Nat) : D.flat (.loc n) = false := id rfl
@[simp] theorem fls_nil : D.flats [] = true := id rfl
@[simp] theorem fls_cons (d : D) (ds : List D) : D.flats (d :: ds) = (d.flat && D.flats ds) := id rfl
@[simp] theorem flats_app : ∀ xs ys : List D, D.flats (xs ++ ys) = (D.flats xs && D.flats ys)
  | [], ys => by simp
  | x :: xs, ys => by simp [flats_app xs ys, Bool.and_assoc]
theorem flats_map {α : Type} (e : α → D) (h : ∀ a, (e a).flat = true) : ∀ xs : List α, D.flats (xs.map e) = true
  | [] => rfl
  | x :: xs => by simp [h, flats_map e h xs]
@[simp] theorem flats_ints (ns : List Int) : D.flats (ns.map D.int) = true := flats_map _ (fun _ => rfl) ns
/-! no steps within what stands behind -/
theorem bind_cg {α β : Type} {r r' : R α} {k : α → List D → R β} (h : r = r') : r.bind k = r'.bind k := by rw [h]
theorem toO_cg {r r' : R D} {k : D → List D → O} (h : r = r') : r.toO E k = r'.toO E k := by rw [h]
theorem tO_cg {r r' : R Bool} {k : Bool → List D → O} (h : r = r') : r.tO E k = r'.tO E k := by rw [h]
theorem kseq_cg {b : MS} {o o' : O} (h : o = o') : kSeq b o = kSeq b o' := by rw [h]
end J
set_option linter.all false
set_option maxRecDepth 100000
/-! Loops, comprehensions: by what is gone over. -/
namespace J
open PySem (Str)
variable {E : Env} {S : List D} {d x y z : D} {ds xs : List D}
structure Src.Is (src : Src) (S : List D) (ds : List D) : Prop where
  len : src.len = ds.length
  at_ : ∀ i, i < ds.length → src.at_ S i = ds[i]?
  alive : src.alive S = true
theorem is_its (ds S : List D) : (Src.its ds).Is S ds := ⟨rfl, fun _ _ => rfl, rfl⟩
theorem is_rng (lo : Int) (n : Nat) (S : List D) : (Src.rng lo n).Is S ((List.range n).map fun i => .int (lo + (i : Nat))) := ⟨by simp [Src.rng], fun i h => by simp at h; simp [Src.rng, h], rfl⟩
theorem is_enum {src : Src} (h : src.Is S ds) : src.enum.Is S (ds.mapIdx fun i d => .tup [.int (i : Nat), d]) := by
  refine ⟨by simp [Src.enum, h.len], fun i hi => ?_, h.alive⟩
  simp at hi
  simp [Src.enum, h.at_ i hi, hi]
theorem is_zip {s t : Src} {as bs : List D} (h : s.Is S as) (h2 : t.Is S bs) : (s.zip t).Is S (List.zipWith (fun a b => .tup [a, b]) as bs) := by
  refine ⟨by simp [Src.zip, h.len, h2.len], fun i hi => ?_, by simp [Src.zip, h.alive, h2.alive]⟩
  simp at hi
  obtain ⟨h3, h4⟩ : i < as.length ∧ i < bs.length := by omega
  simp [Src.zip, h.at_ i h3, h2.at_ i h4, h3, h4, List.getElem?_zipWith]
theorem is_live {n : Nat} (h : S[n]? = some (.lst ds)) : (Src.live n ds.length).Is S ds := ⟨rfl, fun i _ => by simp [Src.live, h], by simp [Src.live, h]⟩
/-! steps to a loop -/
@[simp] theorem src_tup : srcOf S (.tup ds) = some (.its ds) := id rfl
@[simp] theorem src_lst : srcOf S (.lst ds) = some (.its ds) := id rfl
@[simp] theorem src_rdl : srcOf S (.rdl ds) = some (.its ds) := id rfl
theorem src_loc {n : Nat} (h : S[n]? = some (.lst ds)) : srcOf S (.loc n) = some (.live n ds.length) := by simp [srcOf, h]
def kSrc (o : Option Src) (S : List D) : R Src := match o with
  | some s => .ok s S
  | none => .bad
@[simp] theorem kSrc_s (s : Src) : kSrc (some s) S = .ok s S := id rfl
def kSeqI (x : D) (S : List D) : R Src := kSrc (srcOf S x) S
@[simp] theorem ev_iseq (a : ME) : iSeq a E S = (a E S).bind kSeqI := by
  unfold iSeq kSeqI kSrc
  cases a E S <;> rfl
@[simp] theorem kseqi : kSeqI x S = kSrc (srcOf S x) S := id rfl
def kEnum1 (o : Option Src) (S : List D) : R Src := match o with
  | some s => .ok s.enum S
  | none => .bad
@[simp] theorem kEnum_s (s : Src) : kEnum1 (some s) S = .ok s.enum S := id rfl
def kEnum (x : D) (S : List D) : R Src := kEnum1 (srcOf S x) S
@[simp] theorem ev_ienum (a : ME) : iEnum a E S = (a E S).bind kEnum := by
  unfold iEnum kEnum kEnum1
  cases a E S <;> rfl
@[simp] theorem kenum : kEnum x S = kEnum1 (srcOf S x) S := id rfl
def kZip2 (x y : D) (S : List D) : R Src := match srcOf S x, srcOf S y with
  | some s, some t => .ok (s.zip t) S
  | _, _ => .bad
def kZip1 (b : ME) (E : Env) (x : D) (S : List D) : R Src := (b E S).bind (kZip2 x)
@[simp] theorem ev_izip (a b : ME) : iZip a b E S = (a E S).bind (kZip1 b E) := id rfl
@[simp] theorem kzip1 (b : ME) : kZip1 b E x S = (b E S).bind (kZip2 x) := id rfl
@[simp] theorem kzip2 : kZip2 (.tup ds) (.tup xs) S = .ok ((Src.its ds).zip (.its xs)) S := id rfl
def kRng1 (x : D) (S : List D) : R Src := match x with
  | .int j => if okR j = true then .ok (.rng 0 j.toNat) S else .bad
  | _ => .bad
@[simp] theorem ev_rng1 (a : ME) : iRng1 a E S = (a E S).bind kRng1 := id rfl
theorem krng1 {j : Int} (h : 0 ≤ j) (h2 : j < 4611686018427387904) : kRng1 (.int j) S = .ok (.rng 0 j.toNat) S := by
  have : okR j = true := by simp [okR]; omega
  simp [kRng1, this]
theorem krng1n {j : Nat} (h2 : j < 1000000) : kRng1 (.int (j : Int)) S = .ok (.rng 0 j) S := by
  rw [krng1 (by omega) (by omega)]
  simp
def kRng3 (x y : D) (S : List D) : R Src := match x, y with
  | .int i, .int j => if okR i = true ∧ okR j = true then .ok (.rng i (j - i).toNat) S else .bad
  | _, _ => .bad
def kRng2 (b : ME) (E : Env) (x : D) (S : List D) : R Src := (b E S).bind (kRng3 x)
@[simp] theorem ev_rng2 (a b : ME) : iRng2 a b E S = (a E S).bind (kRng2 b E) := id rfl
@[simp] theorem krng2 (b : ME) : kRng2 b E x S = (b E S).bind (kRng3 x) := id rfl
theorem krng3 {i j : Int} (h : okR i = true) (h2 : okR j = true) : kRng3 (.int i) (.int j) S = .ok (.rng i (j - i).toNat) S := by simp [kRng3, h, h2]
def kFor (t : Tg) (b : MS) (E : Env) : R Src → O
  | .ok src S1 => forGo src t b S1.length src.len 0 E S1
  | .exc c fs S1 => .exc c fs E S1
  | .bad => .bad
@[simp] theorem ev_for (t : Tg) (m : MI) (b : MS) : sFor t m b E S = kFor t b E (m E S) := by
  unfold sFor kFor
  cases m E S <;> rfl
def forS (src : Src) (t : Tg) (b : MS) (E : Env) (S : List D) : O := forGo src t b S.length src.len 0 E S
@[simp] theorem kfor (t : Tg) (b : MS) (src : Src) : kFor t b E (.ok src S) = forS src t b E S := id rfl
/-- one turn leads on to a state -/
def Turn (t : Tg) (b : MS) (n : Nat) (d : D) (E : Env) (S : List D) (Q : Env → List D → Prop) : Prop :=
  ∃ E1 E2 S2 E3 S3, t.bind d E = some E1 ∧ (b E1 S = .nx E2 S2 ∨ b E1 S = .ct E2 S2) ∧ gcE n E2 S2 = some (E3, S3) ∧ Q E3 S3
theorem forGo_inv {src : Src} {t : Tg} {b : MS} {n : Nat} (ds : List D) (I : Nat → Env → List D → Prop)
    (hi : ∀ i E S, I i E S → src.Is S ds)
    (hs : ∀ i d E S, I i E S → ds[i]? = some d → Turn t b n d E S (I (i + 1))) :
    ∀ (k i : Nat) (E : Env) (S : List D), i + k = ds.length → I i E S → ∃ E' S', forGo src t b n k i E S = .nx E' S' ∧ I ds.length E' S' := by
  intro k
  induction k with
  | zero =>
    intro i E S hk h
    have hik : i = ds.length := by omega
    subst hik
    refine ⟨E, S, ?_, h⟩
    unfold forGo
    rw [if_pos (hi _ _ _ h).alive]
  | succ k ih =>
    intro i E S hk h
    have hlt : i < ds.length := by omega
    obtain ⟨E1, E2, S2, E3, S3, h1, h2, h3, h4⟩ := hs i ds[i] E S h (by simp [hlt])
    obtain ⟨E', S', h5, h6⟩ := ih (i + 1) E3 S3 (by omega) h4
    refine ⟨E', S', ?_, h6⟩
    unfold forGo
    rw [if_pos (hi _ _ _ h).alive, (hi _ _ _ h).at_ i hlt]
    simp only [hlt, List.getElem?_eq_getElem, h1]
    rcases h2 with h2 | h2 <;> simp only [h2, h3, h5]
theorem for_inv {src : Src} {t : Tg} {b : MS} {E : Env} {S : List D} (ds : List D) (I : Nat → Env → List D → Prop)
    (h0 : I 0 E S) (hi : ∀ i E S, I i E S → src.Is S ds)
    (hs : ∀ i d E S' , I i E S' → ds[i]? = some d → Turn t b S.length d E S' (I (i + 1))) :
    ∃ E' S', forS src t b E S = .nx E' S' ∧ I ds.length E' S' := by
  unfold forS
  rw [(hi 0 E S h0).len]
  exact forGo_inv ds I hi hs ds.length 0 E S (by omega) h0
/-- a turn leads on, or out with a value -/
def TurnR (t : Tg) (b : MS) (n : Nat) (d : D) (E : Env) (S : List D) (Q : Env → List D → Prop) (Rq : D → List D → Prop) : Prop :=
  Turn t b n d E S Q ∨ ∃ E1 v S2, t.bind d E = some E1 ∧ b E1 S = .rt v S2 ∧ Rq v S2
theorem forGo_ret {src : Src} {t : Tg} {b : MS} {n : Nat} (ds : List D) (I : Nat → Env → List D → Prop) (Rq : D → List D → Prop)
    (hi : ∀ i E S, I i E S → src.Is S ds)
    (hs : ∀ i d E S, I i E S → ds[i]? = some d → TurnR t b n d E S (I (i + 1)) Rq) :
    ∀ (k i : Nat) (E : Env) (S : List D), i + k = ds.length → I i E S → (∃ E' S', forGo src t b n k i E S = .nx E' S' ∧ I ds.length E' S') ∨ ∃ v S', forGo src t b n k i E S = .rt v S' ∧ Rq v S' := by
  intro k
  induction k with
  | zero =>
    intro i E S hk h
    have hik : i = ds.length := by omega
    subst hik
    refine .inl ⟨E, S, ?_, h⟩
    unfold forGo
    rw [if_pos (hi _ _ _ h).alive]
  | succ k ih =>
    intro i E S hk h
    have hlt : i < ds.length := by omega
    unfold forGo
    rw [if_pos (hi _ _ _ h).alive, (hi _ _ _ h).at_ i hlt]
    rcases hs i ds[i] E S h (by simp [hlt]) with ⟨E1, E2, S2, E3, S3, h1, h2, h3, h4⟩ | ⟨E1, v, S2, h1, h2, h3⟩
    · have h5 := ih (i + 1) E3 S3 (by omega) h4
      simp only [hlt, List.getElem?_eq_getElem, h1]
      rcases h2 with h2 | h2 <;> simp only [h2, h3] <;> exact h5
    · right
      exact ⟨v, S2, by simp only [hlt, List.getElem?_eq_getElem, h1, h2], h3⟩
theorem rng_ret {lo : Int} {n : Nat} {t : Tg} {b : MS} {E : Env} {S : List D} (I : Nat → Env → List D → Prop) (Rq : D → List D → Prop) (h0 : I 0 E S)
    (hs : ∀ i E S', i < n → I i E S' → TurnR t b S.length (.int (lo + (i : Nat))) E S' (I (i + 1)) Rq) : (∃ E' S', forS (Src.rng lo n) t b E S = .nx E' S' ∧ I n E' S') ∨ ∃ v S', forS (Src.rng lo n) t b E S = .rt v S' ∧ Rq v S' := by
  have := forGo_ret (src := Src.rng lo n) (t := t) (b := b) (n := S.length) ((List.range n).map fun i => D.int (lo + (i : Nat))) I Rq (fun _ _ S _ => is_rng lo n S) (fun i d E S' h hd => by
    obtain ⟨hi, rfl⟩ := List.getElem?_eq_some_iff.mp hd
    simp only [List.getElem_map, List.getElem_range]
    exact hs i E S' (by simpa using hi) h) n 0 E S (by simp) h0
  rw [show ((List.range n).map fun i => D.int (lo + (i : Nat))).length = n by simp] at this
  exact this
theorem for_rng {lo : Int} {n : Nat} {t : Tg} {b : MS} {E : Env} {S : List D} (I : Nat → Env → List D → Prop) (h0 : I 0 E S)
    (hs : ∀ i E S', i < n → I i E S' → Turn t b S.length (.int (lo + (i : Nat))) E S' (I (i + 1))) : ∃ E' S', forS (Src.rng lo n) t b E S = .nx E' S' ∧ I n E' S' := by
  obtain ⟨E', S', h1, h2⟩ := for_inv ((List.range n).map fun i => D.int (lo + (i : Nat))) I h0 (fun _ _ S _ => is_rng lo n S) (fun i d E S' h hd => by
    obtain ⟨hi, rfl⟩ := List.getElem?_eq_some_iff.mp hd
    simp only [List.getElem_map, List.getElem_range]
    exact hs i E S' (by simpa using hi) h)
  exact ⟨E', S', h1, by simpa using h2⟩
theorem for_its {α : Type} (xs : List α) (enc : α → D) {t : Tg} {b : MS} {E : Env} {S : List D} (I : Nat → Env → List D → Prop) (h0 : I 0 E S)
    (hs : ∀ i E S' (h : i < xs.length), I i E S' → Turn t b S.length (enc xs[i]) E S' (I (i + 1))) : ∃ E' S', forS (Src.its (xs.map enc)) t b E S = .nx E' S' ∧ I xs.length E' S' := by
  obtain ⟨E', S', h1, h2⟩ := for_inv (xs.map enc) I h0 (fun _ _ S _ => is_its _ S) (fun i d E S' h hd => by
    obtain ⟨hi, rfl⟩ := List.getElem?_eq_some_iff.mp hd
    simp only [List.getElem_map]
    exact hs i E S' (by simpa using hi) h)
  exact ⟨E', S', h1, by simpa using h2⟩
theorem for_live {α : Type} (xs : List α) (enc : α → D) {n : Nat} {t : Tg} {b : MS} {E : Env} {S : List D} (I : Nat → Env → List D → Prop) (h0 : I 0 E S)
    (hi : ∀ i E S, I i E S → S[n]? = some (.lst (xs.map enc)))
    (hs : ∀ i E S' (h : i < xs.length), I i E S' → Turn t b S.length (enc xs[i]) E S' (I (i + 1))) : ∃ E' S', forS (Src.live n xs.length) t b E S = .nx E' S' ∧ I xs.length E' S' := by
  obtain ⟨E', S', h1, h2⟩ := for_inv (src := Src.live n xs.length) (xs.map enc) I h0 (fun i E S h => by have := is_live (hi i E S h); simpa using this) (fun i d E S' h hd => by
    obtain ⟨hi, rfl⟩ := List.getElem?_eq_some_iff.mp hd
    simp only [List.getElem_map]
    exact hs i E S' (by simpa using hi) h)
  exact ⟨E', S', h1, by simpa using h2⟩
theorem for_enum {α : Type} (xs : List α) (enc : α → D) {t : Tg} {b : MS} {E : Env} {S : List D} (I : Nat → Env → List D → Prop) (h0 : I 0 E S)
    (hs : ∀ i E S' (h : i < xs.length), I i E S' → Turn t b S.length (.tup [.int (i : Nat), enc xs[i]]) E S' (I (i + 1))) : ∃ E' S', forS (Src.enum (Src.its (xs.map enc))) t b E S = .nx E' S' ∧ I xs.length E' S' := by
  obtain ⟨E', S', h1, h2⟩ := for_inv ((xs.map enc).mapIdx fun i d => D.tup [.int (i : Nat), d]) I h0 (fun _ _ S _ => is_enum (is_its _ S)) (fun i d E S' h hd => by
    obtain ⟨hi, rfl⟩ := List.getElem?_eq_some_iff.mp hd
    simp only [List.getElem_mapIdx, List.getElem_map]
    exact hs i E S' (by simpa using hi) h)
  exact ⟨E', S', h1, by simpa using h2⟩
/-! a turn at which nothing new is left -/
theorem gc_same {n : Nat} (h : S.length = n) : gcE n E S = some (E, S) := by
  unfold gcE
  rw [if_pos h]
theorem turn_nx {t : Tg} {b : MS} {n : Nat} {E1 E2 : Env} {S2 : List D} {Q : Env → List D → Prop} (h1 : t.bind d E = some E1) (h2 : b E1 S = .nx E2 S2) (h3 : S2.length = n) (h4 : Q E2 S2) : Turn t b n d E S Q :=
  ⟨E1, E2, S2, E2, S2, h1, .inl h2, gc_same h3, h4⟩
/-! comprehensions -/
def kLc (w : Bool) (own : List Nat) (t : Tg) (c : MT) (e : ME) (E : Env) : R Src → R D
  | .ok src S1 => if src.len ≤ SL then (lcGo src t c e (wipeE E own) S1.length src.len 0 [] S1).bind fun acc S1 => if w = true then .ok (.loc S1.length) (S1 ++ [.lst acc]) else .ok (.lst acc) S1 else .bad
  | .exc c fs S1 => .exc c fs S1
  | .bad => .bad
def lcS (w : Bool) (src : Src) (own : List Nat) (t : Tg) (c : MT) (e : ME) (E : Env) (S : List D) : R D := kLc w own t c e E (.ok src S)
@[simp] theorem klc (w : Bool) (src : Src) (own : List Nat) (t : Tg) (c : MT) (e : ME) : kLc w own t c e E (.ok src S) = lcS w src own t c e E S := id rfl
@[simp] theorem ev_lc (own : List Nat) (t : Tg) (m : MI) (c : MT) (e : ME) : eLc own t m c e E S = kLc false own t c e E (m E S) := by
  unfold eLc kLc lcRun
  cases m E S with
  | ok src S1 =>
    simp only
    by_cases h : src.len ≤ SL
    · rw [if_pos h, if_pos h]; rfl
    · rw [if_neg h, if_neg h]; rfl
  | exc c fs S1 => rfl
  | bad => rfl
@[simp] theorem ev_lcL (own : List Nat) (t : Tg) (m : MI) (c : MT) (e : ME) : eLcL own t m c e E S = kLc true own t c e E (m E S) := by
  unfold eLcL kLc lcRun
  cases m E S with
  | ok src S1 =>
    simp only
    by_cases h : src.len ≤ SL
    · rw [if_pos h, if_pos h]; rfl
    · rw [if_neg h, if_neg h]; rfl
  | exc c fs S1 => rfl
  | bad => rfl
theorem kfor_cg {t : Tg} {b : MS} {r r' : R Src} (h : r = r') : kFor t b E r = kFor t b E r' := by rw [h]
theorem klc_cg {w : Bool} {own : List Nat} {t : Tg} {c : MT} {e : ME} {r r' : R Src} (h : r = r') : kLc w own t c e E r = kLc w own t c e E r' := by rw [h]
/-- with a store that may grow -/
theorem lcGo_invN {src : Src} {t : Tg} {c : MT} {e : ME} {n : Nat} (ds : List D) (I : Nat → List D → List D → Prop)
    (hi : ∀ i acc S, I i acc S → src.Is S ds)
    (hs : ∀ i d acc S, I i acc S → ds[i]? = some d → ∃ E1, t.bind d E = some E1 ∧ ((∃ S1, c E1 S = .ok false S1 ∧ n ≤ S1.length ∧ I (i + 1) acc S1) ∨ ∃ S1 x S2, c E1 S = .ok true S1 ∧ e E1 S1 = .ok x S2 ∧ n ≤ S2.length ∧ I (i + 1) (acc ++ [x]) S2)) :
    ∀ (k i : Nat) (acc : List D) (S : List D), i + k = ds.length → I i acc S → ∃ acc' S', lcGo src t c e E n k i acc S = .ok acc' S' ∧ I ds.length acc' S' := by
  intro k
  induction k with
  | zero =>
    intro i acc S hk h
    have hik : i = ds.length := by omega
    subst hik
    refine ⟨acc, S, ?_, h⟩
    unfold lcGo
    rw [if_pos (hi _ _ _ h).alive]
  | succ k ih =>
    intro i acc S hk h
    have hlt : i < ds.length := by omega
    obtain ⟨E1, h1, h2⟩ := hs i ds[i] acc S h (by simp [hlt])
    unfold lcGo
    rw [if_pos (hi _ _ _ h).alive, (hi _ _ _ h).at_ i hlt]
    simp only [hlt, List.getElem?_eq_getElem, h1]
    rcases h2 with ⟨S1, h2, h3, h4⟩ | ⟨S1, x, S2, h2, h3, h4, h5⟩
    · simp only [h2, if_pos h3]
      exact ih (i + 1) acc S1 (by omega) h4
    · simp only [h2, h3, if_pos h4]
      exact ih (i + 1) (acc ++ [x]) S2 (by omega) h5
theorem lc_invN {src : Src} {own : List Nat} {t : Tg} {c : MT} {e : ME} (ds : List D) (I : Nat → List D → List D → Prop) (hl : ds.length ≤ SL) (h0 : I 0 [] S)
    (hi : ∀ i acc S, I i acc S → src.Is S ds)
    (hs : ∀ i d acc S', I i acc S' → ds[i]? = some d → ∃ E1, t.bind d (wipeE E own) = some E1 ∧ ((∃ S1, c E1 S' = .ok false S1 ∧ S.length ≤ S1.length ∧ I (i + 1) acc S1) ∨ ∃ S1 x S2, c E1 S' = .ok true S1 ∧ e E1 S1 = .ok x S2 ∧ S.length ≤ S2.length ∧ I (i + 1) (acc ++ [x]) S2)) :
    ∃ acc S', lcS false src own t c e E S = .ok (.lst acc) S' ∧ I ds.length acc S' := by
  obtain ⟨acc, S', h1, h2⟩ := lcGo_invN ds I hi hs ds.length 0 [] S (by omega) h0
  refine ⟨acc, S', ?_, h2⟩
  unfold lcS kLc
  simp only [(hi _ _ _ h0).len, if_pos hl, h1]
  rfl
/-- with a store that may change -/
theorem lcGo_inv {src : Src} {t : Tg} {c : MT} {e : ME} {n : Nat} (ds : List D) (I : Nat → List D → List D → Prop)
    (hi : ∀ i acc S, I i acc S → src.Is S ds)
    (hs : ∀ i d acc S, I i acc S → ds[i]? = some d → ∃ E1, t.bind d E = some E1 ∧ ((∃ S1, c E1 S = .ok false S1 ∧ S1.length = n ∧ I (i + 1) acc S1) ∨ ∃ S1 x S2, c E1 S = .ok true S1 ∧ e E1 S1 = .ok x S2 ∧ S2.length = n ∧ I (i + 1) (acc ++ [x]) S2)) :
    ∀ (k i : Nat) (acc : List D) (S : List D), i + k = ds.length → I i acc S → ∃ acc' S', lcGo src t c e E n k i acc S = .ok acc' S' ∧ I ds.length acc' S' :=
  lcGo_invN ds I hi fun i d acc S h e => by
    obtain ⟨E1, h1, h2⟩ := hs i d acc S h e
    refine ⟨E1, h1, h2.imp (fun ⟨S1, a, b, c⟩ => ⟨S1, a, Nat.le_of_eq b.symm, c⟩) fun ⟨S1, x, S2, a, b, c, d⟩ => ⟨S1, x, S2, a, b, Nat.le_of_eq c.symm, d⟩⟩
theorem lc_inv {src : Src} {own : List Nat} {t : Tg} {c : MT} {e : ME} (ds : List D) (I : Nat → List D → List D → Prop) (hl : ds.length ≤ SL) (h0 : I 0 [] S)
    (hi : ∀ i acc S, I i acc S → src.Is S ds)
    (hs : ∀ i d acc S', I i acc S' → ds[i]? = some d → ∃ E1, t.bind d (wipeE E own) = some E1 ∧ ((∃ S1, c E1 S' = .ok false S1 ∧ S1.length = S.length ∧ I (i + 1) acc S1) ∨ ∃ S1 x S2, c E1 S' = .ok true S1 ∧ e E1 S1 = .ok x S2 ∧ S2.length = S.length ∧ I (i + 1) (acc ++ [x]) S2)) :
    ∃ acc S', lcS false src own t c e E S = .ok (.lst acc) S' ∧ I ds.length acc S' := by
  obtain ⟨acc, S', h1, h2⟩ := lcGo_inv ds I hi hs ds.length 0 [] S (by omega) h0
  refine ⟨acc, S', ?_, h2⟩
  unfold lcS kLc
  simp only [(hi _ _ _ h0).len, if_pos hl, h1]
  rfl
/-- with a store that stays: filter and map -/
theorem lcGo_eq {α : Type} {src : Src} {t : Tg} {c : MT} {e : ME} (xs : List α) (enc : α → D) (p : α → Bool) (f : α → D) (hi : src.Is S (xs.map enc))
    (hs : ∀ a, a ∈ xs → ∃ E1, t.bind (enc a) E = some E1 ∧ c E1 S = .ok (p a) S ∧ (p a = true → e E1 S = .ok (f a) S)) :
    ∀ (k i : Nat) (acc : List D), i + k = xs.length → lcGo src t c e E S.length k i acc S = .ok (acc ++ ((xs.drop i).filter p).map f) S := by
  intro k
  induction k with
  | zero =>
    intro i acc hk
    unfold lcGo
    rw [if_pos hi.alive, List.drop_of_length_le (by omega)]
    simp
  | succ k ih =>
    intro i acc hk
    have hlt : i < xs.length := by omega
    obtain ⟨E1, h1, h2, h3⟩ := hs xs[i] (List.getElem_mem hlt)
    unfold lcGo
    rw [if_pos hi.alive, hi.at_ i (by simpa using hlt)]
    simp only [List.getElem?_map, hlt, List.getElem?_eq_getElem, Option.map_some, h1, h2]
    rw [List.drop_eq_getElem_cons hlt]
    cases hp : p xs[i] with
    | true =>
      simp only [if_true, h3 hp, ih (i + 1) _ (by omega)]
      rw [if_pos (Nat.le_refl _), List.filter_cons_of_pos hp, List.map_cons, List.append_assoc]
      rfl
    | false =>
      simp only [ih (i + 1) _ (by omega)]
      rw [if_neg Bool.false_ne_true, if_pos (Nat.le_refl _), List.filter_cons_of_neg (by simp [hp])]
theorem lc_eq {α : Type} {w : Bool} {src : Src} {own : List Nat} {t : Tg} {c : MT} {e : ME} (xs : List α) (enc : α → D) (p : α → Bool) (f : α → D) (hl : xs.length ≤ SL) (hi : src.Is S (xs.map enc))
    (hs : ∀ a, a ∈ xs → ∃ E1, t.bind (enc a) (wipeE E own) = some E1 ∧ c E1 S = .ok (p a) S ∧ (p a = true → e E1 S = .ok (f a) S)) :
    lcS w src own t c e E S = if w = true then .ok (.loc S.length) (S ++ [.lst ((xs.filter p).map f)]) else .ok (.lst ((xs.filter p).map f)) S := by
  unfold lcS kLc
  have hn : src.len = xs.length := by rw [hi.len]; simp
  simp only [hn, if_pos hl]
  rw [lcGo_eq xs enc p f hi hs xs.length 0 [] (by omega)]
  simp
/-! while -/
def kWh (t : MT) (b : MS) (n k : Nat) : O → O
  | .nx E2 S2 => match gcE n E2 S2 with
    | some (E3, S3) => whileGo t b n k E3 S3
    | none => .bad
  | .ct E2 S2 => match gcE n E2 S2 with
    | some (E3, S3) => whileGo t b n k E3 S3
    | none => .bad
  | .bk E2 S2 => .nx E2 S2
  | o => o
def whS (fuel : Nat) (t : MT) (b : MS) (E : Env) (S : List D) : O := whileGo t b S.length fuel E S
@[simp] theorem ev_while (fuel : Nat) (t : MT) (b : MS) : sWhile fuel t b E S = whS fuel t b E S := id rfl
theorem whileGo_inv {t : MT} {b : MS} {n : Nat} (I : Nat → Env → List D → Prop) (Q : Env → List D → Prop)
    (hs : ∀ m E S, I m E S → (t E S = .ok false S ∧ Q E S) ∨ (t E S = .ok true S ∧ ∃ E2 S2 E3 S3 m', (b E S = .nx E2 S2 ∨ b E S = .ct E2 S2) ∧ gcE n E2 S2 = some (E3, S3) ∧ m' < m ∧ I m' E3 S3)) :
    ∀ (k m : Nat) (E : Env) (S : List D), m < k → I m E S → ∃ E' S', whileGo t b n k E S = .nx E' S' ∧ Q E' S' := by
  intro k
  induction k with
  | zero => intro m E S h; omega
  | succ k ih =>
    intro m E S hm h
    rcases hs m E S h with ⟨h1, h2⟩ | ⟨h1, E2, S2, E3, S3, m', h2, h3, h4, h5⟩
    · refine ⟨E, S, ?_, h2⟩
      unfold whileGo
      simp [h1]
    · obtain ⟨E', S', h6, h7⟩ := ih m' E3 S3 (by omega) h5
      refine ⟨E', S', ?_, h7⟩
      unfold whileGo
      simp only [h1, tO_ok, if_true]
      rcases h2 with h2 | h2 <;> simp only [h2, h3, h6]
end J
set_option linter.all false
set_option maxRecDepth 100000
namespace J
theorem its_ret {α : Type} (xs : List α) (enc : α → D) {t : Tg} {b : MS} {E : Env} {S : List D} (I : Nat → Env → List D → Prop) (Rq : D → List D → Prop) (h0 : I 0 E S)
    (hs : ∀ i E S' (h : i < xs.length), I i E S' → TurnR t b S.length (enc xs[i]) E S' (I (i + 1)) Rq) : (∃ E' S', forS (Src.its (xs.map enc)) t b E S = .nx E' S' ∧ I xs.length E' S') ∨ ∃ v S', forS (Src.its (xs.map enc)) t b E S = .rt v S' ∧ Rq v S' := by
  have := forGo_ret (src := Src.its (xs.map enc)) (t := t) (b := b) (n := S.length) (xs.map enc) I Rq (fun _ _ S _ => is_its _ S) (fun i d E S' h hd => by
    obtain ⟨hi, rfl⟩ := List.getElem?_eq_some_iff.mp hd
    simp only [List.getElem_map]
    exact hs i E S' (by simpa using hi) h) xs.length 0 E S (by simp) h0
  rw [show (xs.map enc).length = xs.length by simp] at this
  unfold forS
  rw [show (Src.its (xs.map enc)).len = xs.length from by simp [Src.its]]
  exact this
@[simp] theorem b_max2 (i j : Int) (S : List D) : bMax2 [.int i, .int j] S = .ok (.int (if j > i then j else i)) S := id rfl
@[simp] theorem b_min2 (i j : Int) (S : List D) : bMin2 [.int i, .int j] S = .ok (.int (if j < i then j else i)) S := id rfl
@[simp] theorem b_max3 (i j k : Int) (S : List D) : bMax3 [.int i, .int j, .int k] S = .ok (.int (if k > (if j > i then j else i) then k else (if j > i then j else i))) S := id rfl
def popL (o : Option D) (n : Nat) (S : List D) : R D := match o with
  | some (.lst xs) => match xs[xs.length - 1]? with
    | some y => .ok y (S.set n (.lst xs.dropLast))
    | none => .bad
  | _ => .bad
@[simp] theorem m_pop (n : Nat) (S : List D) : mPop (.loc n) [] S = popL S[n]? n S := by
  unfold popL
  cases h : S[n]? with
  | none => simp only [mPop, h]
  | some d => cases d <;> (simp only [mPop, h]; try rfl)
@[simp] theorem popL_l (n : Nat) (xs : List D) (y : D) (S : List D) : popL (some (.lst (xs ++ [y]))) n S = .ok y (S.set n (.lst xs)) := by simp [popL]
def kLstRg (x : D) (S1 : List D) : R D := match x with
  | .int n => if 0 ≤ n ∧ n ≤ SL then .ok (.loc S1.length) (S1 ++ [.lst ((List.range n.toNat).map fun i : Nat => .int (i : Int))]) else .bad
  | _ => .bad
@[simp] theorem ev_lstRgL (a : ME) (E : Env) (S : List D) : eLstRgL a E S = (a E S).bind kLstRg := id rfl
theorem klstRg {n : Nat} (h : n ≤ SL) (S : List D) : kLstRg (.int (n : Nat)) S = .ok (.loc S.length) (S ++ [.lst ((List.range n).map fun i : Nat => .int (i : Int))]) := by
  unfold kLstRg
  simp only
  rw [if_pos ⟨by omega, by omega⟩]
  simp
@[simp] theorem b_listT (xs S : List D) : bList [.tup xs] S = .ok (.lst xs) S := id rfl
@[simp] theorem b_listLs (xs S : List D) : bList [.lst xs] S = .ok (.lst xs) S := id rfl
theorem call2 (F : MF) {x s : D} {n : Nat} {xs S : List D} (hx : x.flat = true) (hS : S[n]? = some s) (hs : s.flat = true) (h : D.flats xs = true) : callF F (x :: .loc n :: xs) S = kC1 n S (F (x :: .loc 0 :: xs) [s]) := by
  have hb : byRef (x :: .loc n :: xs) 0 = some (x :: .loc 0 :: xs, [n]) := by
    have h1 : byRef (.loc n :: xs) 0 = some (.loc 0 :: xs, [n]) := by
      unfold byRef
      rw [byRef_flat xs _ h]
      simp
    cases x with
    | loc m => simp [D.flat] at hx
    | _ =>
      unfold byRef
      simp only
      rw [if_pos hx, h1]
      rfl
  unfold callF kC1
  rw [hb]
  simp [hS, hs]
  all_goals rfl
theorem ktt_loc {n : Nat} {S xs : List D} (h : S[n]? = some (.lst xs)) : kTT (.loc n) S = .ok (!xs.isEmpty) S := by
  unfold kTT
  simp [truth, h]
end J
set_option linter.all false
set_option maxRecDepth 100000
namespace J
open PySem (Str)
variable {E : Env} {S : List D} {d x y z : D} {ds xs : List D}
@[simp] theorem fl_tuk (ds : List D) : D.flat (.tuk ds) = D.flats ds := id rfl
@[simp] theorem src_tuk : srcOf S (.tuk ds) = some (.its ds) := id rfl
@[simp] theorem toO_exc (c : Str) (fs : List (Str × D)) (S : List D) (k : D → List D → O) : (R.exc c fs S : R D).toO E k = .exc c fs E S := id rfl
@[simp] theorem tO_exc (c : Str) (fs : List (Str × D)) (S : List D) (k : Bool → List D → O) : (R.exc c fs S : R Bool).tO E k = .exc c fs E S := id rfl
@[simp] theorem kfn_exc (n : Nat) (c : Str) (fs : List (Str × D)) : kFn n (.exc c fs E S) = excF n c fs S := id rfl
@[simp] theorem excF_0 (c : Str) : excF 0 c [] S = .exc c [] [] := by simp [excF]
@[simp] theorem kc0_exc (c : Str) : kC0 S (.exc c [] []) = .exc c [] S := by simp [kC0]
@[simp] theorem ev_raise (c : Str) : sRaise c E S = .exc c [] E S := id rfl
def kTryIs (kt : Str → Option Bool) (i j : Nat) (u v : D) : O → O
  | .exc c fs E1 S1 => if (fs.isEmpty && decide (i < E1.length)) = true then (match kt c with
    | some b => .nx ((E1.set j (some (if b = true then u else v))).set i none) S1
    | none => .bad) else .bad
  | o => o
@[simp] theorem ev_tryIs (kt : Str → Option Bool) (i j : Nat) (u v : D) (mb : MS) : sTryIs kt i j u v mb E S = kTryIs kt i j u v (mb E S) := by
  unfold sTryIs kTryIs
  cases mb E S <;> rfl
@[simp] theorem ktry_nx (kt : Str → Option Bool) (i j : Nat) (u v : D) : kTryIs kt i j u v (.nx E S) = .nx E S := id rfl
@[simp] theorem ktry_rt (kt : Str → Option Bool) (i j : Nat) (u v : D) : kTryIs kt i j u v (.rt d S) = .rt d S := id rfl
theorem ktry_exc {kt : Str → Option Bool} {i j : Nat} {u v : D} {c : Str} {b : Bool} (hi : i < E.length) (hk : kt c = some b) : kTryIs kt i j u v (.exc c [] E S) = .nx ((E.set j (some (if b = true then u else v))).set i none) S := by
  simp [kTryIs, hi, hk]
def kMK1 (f : D → List D → List D → R D) (a : MA) (E : Env) (x : D) (S : List D) : R D := if isTuk x = true then (a E S).bind fun xs S2 => f x xs S2 else .bad
def kMK2 (f : D → List D → List D → R D) (x : D) (xs : List D) (S : List D) : R D := f x xs S
@[simp] theorem ev_methK (f : D → List D → List D → R D) (o : ME) (a : MA) : eMethK f o a E S = (o E S).bind (kMK1 f a E) := id rfl
@[simp] theorem kmk1 (f : D → List D → List D → R D) (a : MA) : kMK1 f a E (.tuk ds) S = (a E S).bind (kMK2 f (.tuk ds)) := id rfl
@[simp] theorem kmk2 (f : D → List D → List D → R D) : kMK2 f x xs S = f x xs S := id rfl
@[simp] theorem tupK1 (a : D) (ds : List D) : bTupK [.loc 1] [a, .lst ds] = .ok (.tuk ds) [a, .lst ds] := rfl
@[simp] theorem isi_tuk : oIsi ["tuple"] (.tuk ds) S = .ok (.bl true) S := by simp [oIsi, tyOf, isiB]
end J
set_option linter.all false
set_option maxRecDepth 100000
/-! laws that ask nothing of the script -/
namespace J
def isRt : O → Bool
  | .rt (.bl true) [] => true
  | _ => false
theorem isRt_eq {o : O} (h : isRt o = true) : o = .rt (.bl true) [] := by
  unfold isRt at h
  split at h
  · rfl
  · cases h
theorem closed_law {n : Nat} {A R : MS} {d : D} (h1 : A (some d :: List.replicate n none) [] = .nx (List.replicate (n + 1) none) []) (h2 : isRt (R (List.replicate (n + 1) none) []) = true) : fnF 1 (n + 1) (sSeq A R) [d] [] = .ok (.bl true) [] := by
  unfold fnF
  rw [if_pos (show [d].length = 1 from rfl)]
  have e : ([d].map some ++ List.replicate (n + 1 - 1) none : Env) = some d :: List.replicate n none := by simp
  rw [e]
  unfold sSeq
  rw [h1]
  simp only
  rw [isRt_eq h2]
  rfl
end J
set_option linter.all false
set_option maxRecDepth 100000
/-! exceptions with a field; a loop that ends in an exception -/
namespace J
open PySem (Str)
variable {E : Env} {S : List D} {d x y z : D} {ds xs : List D}
def kRaiseF (c f : Str) (E : Env) (d : D) (S : List D) : O := match d with
  | .int i => if i.natAbs.log2 < 1920 then .exc c [(f, .int i)] E S else .bad
  | _ => .bad
@[simp] theorem ev_raiseF (c f : Str) (a : ME) : sRaiseF c f a E S = (a E S).toO E (kRaiseF c f E) := id rfl
theorem kraiseF {c f : Str} {i : Int} (h : i.natAbs.log2 < 1920) : kRaiseF c f E (.int i) S = .exc c [(f, .int i)] E S := by simp [kRaiseF, h]
theorem log_small {i : Int} (h0 : 0 ≤ i) (h : i < 1000000) : i.natAbs.log2 < 1920 := by
  rcases Nat.eq_zero_or_pos i.natAbs with z | z
  · rw [z]; decide
  · have : i.natAbs < 2 ^ 1920 := Nat.lt_of_lt_of_le (show i.natAbs < 2 ^ 20 by omega) (Nat.pow_le_pow_right (by omega) (by omega))
    exact (Nat.log2_lt (by omega)).mpr this
@[simp] theorem excF_0f (c f : Str) (i : Int) : excF 0 c [(f, .int i)] S = .exc c [(f, .int i)] [] := by simp [excF]
@[simp] theorem kc0_excf (c f : Str) (i : Int) : kC0 S (.exc c [(f, .int i)] []) = .exc c [(f, .int i)] S := by simp [kC0]
def kTryFld (kt : Str → Option Bool) (f : Str) (i j : Nat) (v : D) : O → O
  | .exc c fs E1 S1 => if i < E1.length then (match kt c with
    | some true => (match fs with
      | [(g, d)] => if g = f then .nx ((E1.set j (some d)).set i none) S1 else .bad
      | _ => .bad)
    | some false => .nx ((E1.set j (some v)).set i none) S1
    | none => .bad) else .bad
  | o => o
@[simp] theorem ev_tryFld (kt : Str → Option Bool) (f : Str) (i j : Nat) (v : D) (mb : MS) : sTryFld kt f i j v mb E S = kTryFld kt f i j v (mb E S) := by
  unfold sTryFld kTryFld
  cases mb E S <;> rfl
@[simp] theorem ktryf_nx (kt : Str → Option Bool) (f : Str) (i j : Nat) (v : D) : kTryFld kt f i j v (.nx E S) = .nx E S := id rfl
theorem ktryf_exc {kt : Str → Option Bool} {f : Str} {i j : Nat} {v : D} {c : Str} (hi : i < E.length) (hk : kt c = some true) : kTryFld kt f i j v (.exc c [(f, d)] E S) = .nx ((E.set j (some d)).set i none) S := by
  simp [kTryFld, hi, hk]
theorem forGo_exc {src : Src} {t : Tg} {b : MS} {n : Nat} (ds : List D) (I : Nat → Env → List D → Prop) (m : Nat) (hm : m < ds.length) (X : Str → List (Str × D) → List D → Prop)
    (hi : ∀ i E S, I i E S → src.Is S ds)
    (hs : ∀ i d E S, i < m → I i E S → ds[i]? = some d → Turn t b n d E S (I (i + 1)))
    (he : ∀ d E S, I m E S → ds[m]? = some d → ∃ E1 c fs E2 S2, t.bind d E = some E1 ∧ b E1 S = .exc c fs E2 S2 ∧ X c fs S2) :
    ∀ (k i : Nat) (E : Env) (S : List D), i + k = ds.length → i ≤ m → I i E S → ∃ c fs E' S', forGo src t b n k i E S = .exc c fs E' S' ∧ X c fs S' := by
  intro k
  induction k with
  | zero => intro i E S hk hle h; omega
  | succ k ih =>
    intro i E S hk hle h
    have hlt : i < ds.length := by omega
    by_cases hmi : i = m
    · subst hmi
      obtain ⟨E1, c, fs, E2, S2, h1, h2, h3⟩ := he ds[i] E S h (by simp [hlt])
      refine ⟨c, fs, E2, S2, ?_, h3⟩
      unfold forGo
      rw [if_pos (hi _ _ _ h).alive, (hi _ _ _ h).at_ i hlt]
      simp only [hlt, List.getElem?_eq_getElem, h1, h2]
    · obtain ⟨E1, E2, S2, E3, S3, h1, h2, h3, h4⟩ := hs i ds[i] E S (by omega) h (by simp [hlt])
      obtain ⟨c, fs, E', S', h5, h6⟩ := ih (i + 1) E3 S3 (by omega) (by omega) h4
      refine ⟨c, fs, E', S', ?_, h6⟩
      unfold forGo
      rw [if_pos (hi _ _ _ h).alive, (hi _ _ _ h).at_ i hlt]
      simp only [hlt, List.getElem?_eq_getElem, h1]
      rcases h2 with h2 | h2 <;> simp only [h2, h3, h5]
theorem enum_exc {α : Type} (xs : List α) (enc : α → D) (m : Nat) (hm : m < xs.length) (X : Str → List (Str × D) → List D → Prop) {t : Tg} {b : MS} {E : Env} {S : List D} (I : Nat → Env → List D → Prop) (h0 : I 0 E S)
    (hs : ∀ i E S' (h : i < xs.length), i < m → I i E S' → Turn t b S.length (.tup [.int (i : Nat), enc xs[i]]) E S' (I (i + 1)))
    (he : ∀ E S', I m E S' → ∃ E1 c fs E2 S2, t.bind (.tup [.int (m : Nat), enc xs[m]]) E = some E1 ∧ b E1 S' = .exc c fs E2 S2 ∧ X c fs S2) :
    ∃ c fs E' S', forS (Src.enum (Src.its (xs.map enc))) t b E S = .exc c fs E' S' ∧ X c fs S' := by
  have hl : ((xs.map enc).mapIdx fun i d => D.tup [.int (i : Nat), d]).length = xs.length := by simp
  have := forGo_exc (src := Src.enum (Src.its (xs.map enc))) (t := t) (b := b) (n := S.length) ((xs.map enc).mapIdx fun i d => D.tup [.int (i : Nat), d]) I m (by rw [hl]; exact hm) X (fun _ _ S _ => is_enum (is_its _ S)) (fun i d E S' hlt h hd => by
    obtain ⟨hi, rfl⟩ := List.getElem?_eq_some_iff.mp hd
    simp only [List.getElem_mapIdx, List.getElem_map]
    exact hs i E S' (by simpa using hi) hlt h) (fun d E S' h hd => by
    obtain ⟨hi, rfl⟩ := List.getElem?_eq_some_iff.mp hd
    simp only [List.getElem_mapIdx, List.getElem_map]
    exact he E S' h) xs.length 0 E S (by rw [hl]; omega) (by omega) h0
  unfold forS
  rw [show (Src.enum (Src.its (xs.map enc))).len = xs.length by simp [Src.enum, Src.its]]
  exact this
end J
set_option linter.all false
set_option maxRecDepth 100000
/-! len, in, index of tuples of known make -/
namespace J
open PySem (Str)
variable {E : Env} {S : List D} {d x y z : D} {ds xs : List D}
@[simp] theorem lenK_tuk : bLenK [.tuk ds] S = .ok (.int ds.length) S := id rfl
@[simp] theorem lenK_tup : bLenK [.tup ds] S = .ok (.int ds.length) S := id rfl
@[simp] theorem lenK_lst : bLenK [.lst ds] S = bLen [.lst ds] S := id rfl
theorem inK_ints {v : Int} {xs : List Int} (h : (xs.map D.int).all cmpOk = true) : oInK (.int v) (.tuk (xs.map D.int)) S = .ok (.bl (inD (.int v) (xs.map D.int))) S := by
  show (if cmpOk (seen S (.int v)) = true ∧ (xs.map D.int).all cmpOk = true then _ else _) = _
  rw [if_pos ⟨rfl, h⟩]
  rfl
theorem idxK {ns : List Int} {k : Int} (h : intsOf xs = some ns) (hk : k ∈ ns) : mIndexK (.tuk xs) [.int k] S = .ok (.int (ns.idxOf k : Nat)) S := by
  unfold mIndexK
  simp only [h]
  rw [if_pos hk]
@[simp] theorem ev_lstRg (a : ME) : eLstRg a E S = (a E S).bind fun x S1 => match x with
  | .int n => if 0 ≤ n ∧ n ≤ SL then .ok (.lst ((List.range n.toNat).map fun i : Nat => .int (i : Int))) S1 else .bad
  | _ => .bad := id rfl
end J
set_option linter.all false
set_option maxRecDepth 100000
/-! comprehensions with two fors, run: no tests, a store that stays -/
namespace J
variable {E : Env} {S : List D} {d x y z : D} {ds xs : List D}
theorem lcIn_eq {β : Type} {src : Src} {t : Tg} {e : ME} {p : Nat} (bs : List β) (enc : β → D) (f : β → D) (hp : p = S.length) (hsl : ∀ acc, src.Is (S ++ [.lst acc]) (bs.map enc))
    (hs : ∀ b, b ∈ bs → ∀ acc : List D, ∃ E1, t.bind (enc b) E = some E1 ∧ e E1 (S ++ [.lst acc]) = .ok (f b) (S ++ [.lst acc])) :
    ∀ (k i : Nat) (acc : List D), i + k = bs.length → acc.length + k ≤ SL → lcIn src t tYes e E p k i (S ++ [.lst acc]) = some (S ++ [.lst (acc ++ (bs.drop i).map f)]) := by
  intro k
  induction k with
  | zero =>
    intro i acc hk hl
    unfold lcIn
    rw [if_pos (hsl acc).alive, List.drop_of_length_le (by omega)]
    simp
  | succ k ih =>
    intro i acc hk hl
    have hlt : i < bs.length := by omega
    obtain ⟨E1, h1, h2⟩ := hs bs[i] (List.getElem_mem hlt) acc
    unfold lcIn
    rw [if_pos (hsl acc).alive, (hsl acc).at_ i (by simpa using hlt)]
    simp only [List.getElem?_map, hlt, List.getElem?_eq_getElem, Option.map_some, h1, tYes, if_true, h2]
    have hg : (S ++ [D.lst acc])[p]? = some (.lst acc) := by rw [hp]; simp
    simp only [hg]
    rw [if_pos ⟨by simp [hp], by omega⟩]
    have hset : (S ++ [D.lst acc]).set p (.lst (acc ++ [f bs[i]])) = S ++ [.lst (acc ++ [f bs[i]])] := by
      rw [hp, List.set_append_right _ _ (Nat.le_refl _)]
      simp
    have hd : (bs.drop i).map f = f bs[i] :: (bs.drop (i + 1)).map f := by rw [List.drop_eq_getElem_cons hlt]; rfl
    rw [hset, ih (i + 1) _ (by omega) (by simp; omega), hd, List.append_assoc]
    rfl
theorem lcGo2_eq {α β : Type} {src : Src} {t t1 : Tg} {m1 : MI} {e : ME} {own1 : List Nat} (as : List α) (bs : List β) (enc : α → D) (enc1 : β → D) (f : α → β → D) (hi : src.Is S (as.map enc)) (hS : S.all D.flat = true)
    (hf : ∀ a b, (f a b).flat = true) (hl : as.length * bs.length ≤ SL)
    (hs : ∀ a, a ∈ as → ∃ E1, t.bind (enc a) E = some E1 ∧ (∀ acc : List D, ∃ src1, m1 E1 (S ++ [.lst acc]) = .ok src1 (S ++ [.lst acc]) ∧ ∀ acc, src1.Is (S ++ [.lst acc]) (bs.map enc1)) ∧
      ∀ b, b ∈ bs → ∀ acc : List D, ∃ E2, t1.bind (enc1 b) (wipeE E1 own1) = some E2 ∧ e E2 (S ++ [.lst acc]) = .ok (f a b) (S ++ [.lst acc])) :
    ∀ (k i : Nat) (acc : List D), i + k = as.length → acc.length = i * bs.length → D.flats acc = true → lcGo2 src t tYes own1 m1 t1 tYes e E k i acc S = .ok (acc ++ (as.drop i).flatMap fun a => bs.map (f a)) S := by
  intro k
  induction k with
  | zero =>
    intro i acc hk ha hfl
    unfold lcGo2
    rw [if_pos hi.alive, List.drop_of_length_le (by omega)]
    simp
  | succ k ih =>
    intro i acc hk ha hfl
    have hlt : i < as.length := by omega
    obtain ⟨E1, h1, h2, h3⟩ := hs as[i] (List.getElem_mem hlt)
    obtain ⟨src1, h4, h5⟩ := h2 acc
    have hle : acc.length + bs.length ≤ SL := by
      rw [ha]
      have : (i + 1) * bs.length ≤ as.length * bs.length := Nat.mul_le_mul_right _ hlt
      rw [Nat.add_mul, Nat.one_mul] at this
      omega
    have hin := lcIn_eq (S := S) (E := wipeE E1 own1) (p := S.length) (e := e) (t := t1) (src := src1) bs enc1 (f as[i]) rfl h5 h3 bs.length 0 acc (by omega) hle
    have hlen : src1.len = bs.length := by rw [(h5 []).len]; simp
    have hfl2 : D.flats (acc ++ bs.map (f as[i])) = true := by
      have : ∀ (xs ys : List D), D.flats xs = true → D.flats ys = true → D.flats (xs ++ ys) = true := by
        intro xs ys
        induction xs with
        | nil => intro _ h; exact h
        | cons x xs ih =>
          intro h1 h2
          simp only [D.flats, Bool.and_eq_true, List.cons_append] at h1 ⊢
          exact ⟨h1.1, ih h1.2 h2⟩
      refine this _ _ hfl ?_
      have : ∀ l : List β, D.flats (l.map (f as[i])) = true := by
        intro l
        induction l with
        | nil => rfl
        | cons b l ih => simp only [List.map_cons, D.flats, hf, ih, Bool.and_self]
      exact this bs
    unfold lcGo2
    rw [if_pos hi.alive, hi.at_ i (by simpa using hlt)]
    simp only [List.getElem?_map, hlt, List.getElem?_eq_getElem, Option.map_some, h1, tYes, if_true]
    simp only [h4, hlen]
    simp only [List.drop_zero] at hin
    rw [hin]
    have hall : (S ++ [D.lst (acc ++ bs.map (f as[i]))]).all D.flat = true := by
      rw [List.all_append, hS]
      simp [D.flat, hfl2]
    simp only [List.length_append, List.length_singleton, hall, and_self, if_true]
    have hg : (S ++ [D.lst (acc ++ bs.map (f as[i]))])[S.length]? = some (.lst (acc ++ bs.map (f as[i]))) := by simp
    simp only [hg, List.take_left]
    have := ih (i + 1) (acc ++ bs.map (f as[i])) (by omega) (by simp [ha, Nat.add_mul]) hfl2
    have hd : (as.drop i).flatMap (fun a => bs.map (f a)) = bs.map (f as[i]) ++ (as.drop (i + 1)).flatMap (fun a => bs.map (f a)) := by rw [List.drop_eq_getElem_cons hlt]; rfl
    rw [this, hd, List.append_assoc]
theorem lc2_eq {α β : Type} {own : List Nat} {src : Src} {t t1 : Tg} {m m1 : MI} {e : ME} {own1 : List Nat} (as : List α) (bs : List β) (enc : α → D) (enc1 : β → D) (f : α → β → D) (hm : m E S = .ok src S) (hi : src.Is S (as.map enc)) (hS : S.all D.flat = true)
    (hf : ∀ a b, (f a b).flat = true) (hl : as.length * bs.length ≤ SL)
    (hs : ∀ a, a ∈ as → ∃ E1, t.bind (enc a) (wipeE E own) = some E1 ∧ (∀ acc : List D, ∃ src1, m1 E1 (S ++ [.lst acc]) = .ok src1 (S ++ [.lst acc]) ∧ ∀ acc, src1.Is (S ++ [.lst acc]) (bs.map enc1)) ∧
      ∀ b, b ∈ bs → ∀ acc : List D, ∃ E2, t1.bind (enc1 b) (wipeE E1 own1) = some E2 ∧ e E2 (S ++ [.lst acc]) = .ok (f a b) (S ++ [.lst acc])) :
    eLc2 own t m tYes own1 m1 t1 tYes e E S = .ok (.lst (as.flatMap fun a => bs.map (f a))) S := by
  unfold eLc2 lcRun2
  simp only [hm]
  have hn : src.len = as.length := by rw [hi.len]; simp
  rw [hn, lcGo2_eq as bs enc enc1 f hi hS hf hl hs as.length 0 [] (by omega) (by simp) rfl]
  simp
end J
set_option linter.all false
set_option maxRecDepth 100000
/-! loops that leave objects behind, run -/
namespace J
def forNS (src : Src) (t : Tg) (b : MS) (E : Env) (S : List D) : O := forGoN src t b src.len 0 E S
def kForN (t : Tg) (b : MS) (E : Env) : R Src → O
  | .ok src S1 => forNS src t b E S1
  | .exc c fs S1 => .exc c fs E S1
  | .bad => .bad
@[simp] theorem ev_forN (t : Tg) (m : MI) (b : MS) : sForN t m b E S = kForN t b E (m E S) := by
  unfold sForN kForN
  cases m E S <;> rfl
@[simp] theorem kforN_ok (t : Tg) (b : MS) (src : Src) (S1 : List D) : kForN t b E (.ok src S1) = forNS src t b E S1 := id rfl
theorem forGoN_inv {src : Src} {t : Tg} {b : MS} (ds : List D) (I : Nat → Env → List D → Prop) (hi : ∀ i E S, I i E S → src.Is S ds)
    (hs : ∀ i d E S, I i E S → ds[i]? = some d → ∃ E1 E2 S2, t.bind d E = some E1 ∧ b E1 S = .nx E2 S2 ∧ I (i + 1) E2 S2) :
    ∀ (k i : Nat) (E : Env) (S : List D), i + k = ds.length → I i E S → ∃ E' S', forGoN src t b k i E S = .nx E' S' ∧ I ds.length E' S' := by
  intro k
  induction k with
  | zero =>
    intro i E S hk h
    have hik : i = ds.length := by omega
    subst hik
    refine ⟨E, S, ?_, h⟩
    unfold forGoN
    rw [if_pos (hi _ _ _ h).alive]
  | succ k ih =>
    intro i E S hk h
    have hlt : i < ds.length := by omega
    obtain ⟨E1, E2, S2, h1, h2, h4⟩ := hs i ds[i] E S h (by simp [hlt])
    obtain ⟨E', S', h5, h6⟩ := ih (i + 1) E2 S2 (by omega) h4
    refine ⟨E', S', ?_, h6⟩
    unfold forGoN
    rw [if_pos (hi _ _ _ h).alive, (hi _ _ _ h).at_ i hlt]
    simp only [hlt, List.getElem?_eq_getElem, h1, h2, h5]
theorem forN_inv {src : Src} {t : Tg} {b : MS} {E : Env} {S : List D} (ds : List D) (I : Nat → Env → List D → Prop)
    (h0 : I 0 E S) (hi : ∀ i E S, I i E S → src.Is S ds)
    (hs : ∀ i d E S, I i E S → ds[i]? = some d → ∃ E1 E2 S2, t.bind d E = some E1 ∧ b E1 S = .nx E2 S2 ∧ I (i + 1) E2 S2) :
    ∃ E' S', forNS src t b E S = .nx E' S' ∧ I ds.length E' S' := by
  unfold forNS
  rw [(hi 0 E S h0).len]
  exact forGoN_inv ds I hi hs ds.length 0 E S (by omega) h0
end J
set_option linter.all false
set_option maxRecDepth 100000
/-! loops that end in an exception; loops whose new objects stay as they are; dicts with tuple keys as lists -/
namespace J
open PySem (Str)
variable {E : Env} {S : List D} {d x y z : D} {ds xs : List D}
/-- an end that is no next turn -/
def O.out : O → Bool
  | .rt _ _ => true
  | .exc _ _ _ _ => true
  | _ => false
/-- a turn leads on, or out -/
def TurnO (t : Tg) (b : MS) (n : Nat) (d : D) (E : Env) (S : List D) (Q : Env → List D → Prop) (P : O → Prop) : Prop :=
  Turn t b n d E S Q ∨ ∃ E1, t.bind d E = some E1 ∧ (b E1 S).out = true ∧ P (b E1 S)
theorem forGo_out {src : Src} {t : Tg} {b : MS} {n : Nat} (ds : List D) (I : Nat → Env → List D → Prop) (P : O → Prop)
    (hi : ∀ i E S, I i E S → src.Is S ds)
    (hs : ∀ i d E S, I i E S → ds[i]? = some d → TurnO t b n d E S (I (i + 1)) P) :
    ∀ (k i : Nat) (E : Env) (S : List D), i + k = ds.length → I i E S → (∃ E' S', forGo src t b n k i E S = .nx E' S' ∧ I ds.length E' S') ∨ ((forGo src t b n k i E S).out = true ∧ P (forGo src t b n k i E S)) := by
  intro k
  induction k with
  | zero =>
    intro i E S hk h
    have hik : i = ds.length := by omega
    subst hik
    refine .inl ⟨E, S, ?_, h⟩
    unfold forGo
    rw [if_pos (hi _ _ _ h).alive]
  | succ k ih =>
    intro i E S hk h
    have hlt : i < ds.length := by omega
    unfold forGo
    rw [if_pos (hi _ _ _ h).alive, (hi _ _ _ h).at_ i hlt]
    rcases hs i ds[i] E S h (by simp [hlt]) with ⟨E1, E2, S2, E3, S3, h1, h2, h3, h4⟩ | ⟨E1, h1, h2, h3⟩
    · have h5 := ih (i + 1) E3 S3 (by omega) h4
      simp only [hlt, List.getElem?_eq_getElem, h1]
      rcases h2 with h2 | h2 <;> simp only [h2, h3] <;> exact h5
    · right
      simp only [hlt, List.getElem?_eq_getElem, h1]
      cases hb : b E1 S with
      | rt v S2 => rw [hb] at h2 h3; exact ⟨rfl, h3⟩
      | exc c fs E2 S2 => rw [hb] at h2 h3; exact ⟨rfl, h3⟩
      | nx E2 S2 => rw [hb] at h2; cases h2
      | ct E2 S2 => rw [hb] at h2; cases h2
      | bk E2 S2 => rw [hb] at h2; cases h2
      | bad => rw [hb] at h2; cases h2
theorem rng_out {lo : Int} {n : Nat} {t : Tg} {b : MS} {E : Env} {S : List D} (I : Nat → Env → List D → Prop) (P : O → Prop) (h0 : I 0 E S)
    (hs : ∀ i E S', i < n → I i E S' → TurnO t b S.length (.int (lo + (i : Nat))) E S' (I (i + 1)) P) : (∃ E' S', forS (Src.rng lo n) t b E S = .nx E' S' ∧ I n E' S') ∨ ((forS (Src.rng lo n) t b E S).out = true ∧ P (forS (Src.rng lo n) t b E S)) := by
  have := forGo_out (src := Src.rng lo n) (t := t) (b := b) (n := S.length) ((List.range n).map fun i => D.int (lo + (i : Nat))) I P (fun _ _ S _ => is_rng lo n S) (fun i d E S' h hd => by
    obtain ⟨hi, rfl⟩ := List.getElem?_eq_some_iff.mp hd
    simp only [List.getElem_map, List.getElem_range]
    exact hs i E S' (by simpa using hi) h) n 0 E S (by simp) h0
  rw [show ((List.range n).map fun i => D.int (lo + (i : Nat))).length = n by simp] at this
  exact this
theorem whileGo_out {t : MT} {b : MS} {n : Nat} (I : Nat → Env → List D → Prop) (Q : Env → List D → Prop) (P : O → Prop)
    (hs : ∀ m E S, I m E S → (t E S = .ok false S ∧ Q E S) ∨ (t E S = .ok true S ∧ ((∃ E2 S2 E3 S3 m', (b E S = .nx E2 S2 ∨ b E S = .ct E2 S2) ∧ gcE n E2 S2 = some (E3, S3) ∧ m' < m ∧ I m' E3 S3) ∨ ((b E S).out = true ∧ P (b E S))))) :
    ∀ (k m : Nat) (E : Env) (S : List D), m < k → I m E S → (∃ E' S', whileGo t b n k E S = .nx E' S' ∧ Q E' S') ∨ ((whileGo t b n k E S).out = true ∧ P (whileGo t b n k E S)) := by
  intro k
  induction k with
  | zero => intro m E S h; omega
  | succ k ih =>
    intro m E S hm h
    rcases hs m E S h with ⟨h1, h2⟩ | ⟨h1, ⟨E2, S2, E3, S3, m', h2, h3, h4, h5⟩ | ⟨h2, h3⟩⟩
    · refine .inl ⟨E, S, ?_, h2⟩
      unfold whileGo
      simp [h1]
    · have h6 := ih m' E3 S3 (by omega) h5
      unfold whileGo
      simp only [h1, tO_ok, if_true]
      rcases h2 with h2 | h2 <;> simp only [h2, h3] <;> exact h6
    · right
      unfold whileGo
      simp only [h1, tO_ok, if_true]
      cases hb : b E S with
      | rt v S2 => rw [hb] at h2 h3; exact ⟨rfl, h3⟩
      | exc c fs E2 S2 => rw [hb] at h2 h3; exact ⟨rfl, h3⟩
      | nx E2 S2 => rw [hb] at h2; cases h2
      | ct E2 S2 => rw [hb] at h2; cases h2
      | bk E2 S2 => rw [hb] at h2; cases h2
      | bad => rw [hb] at h2; cases h2
/-! new objects that stay -/
def kForF (t : Tg) (b : MS) (E : Env) : R Src → O
  | .ok src S1 => forGoF src t b S1.length src.len 0 E S1
  | .exc c fs S1 => .exc c fs E S1
  | .bad => .bad
@[simp] theorem ev_forF (t : Tg) (m : MI) (b : MS) : sForF t m b E S = kForF t b E (m E S) := by
  unfold sForF kForF
  cases m E S <;> rfl
def forSF (src : Src) (t : Tg) (b : MS) (E : Env) (S : List D) : O := forGoF src t b S.length src.len 0 E S
@[simp] theorem kforF (t : Tg) (b : MS) (src : Src) : kForF t b E (.ok src S) = forSF src t b E S := id rfl
def TurnF (t : Tg) (b : MS) (n : Nat) (d : D) (E : Env) (S : List D) (Q : Env → List D → Prop) : Prop :=
  ∃ E1 E2 S2 E3 S3, t.bind d E = some E1 ∧ (b E1 S = .nx E2 S2 ∨ b E1 S = .ct E2 S2) ∧ gcF n E2 S2 = some (E3, S3) ∧ Q E3 S3
theorem forGoF_inv {src : Src} {t : Tg} {b : MS} {n : Nat} (ds : List D) (I : Nat → Env → List D → Prop)
    (hi : ∀ i E S, I i E S → src.Is S ds)
    (hs : ∀ i d E S, I i E S → ds[i]? = some d → TurnF t b n d E S (I (i + 1))) :
    ∀ (k i : Nat) (E : Env) (S : List D), i + k = ds.length → I i E S → ∃ E' S', forGoF src t b n k i E S = .nx E' S' ∧ I ds.length E' S' := by
  intro k
  induction k with
  | zero =>
    intro i E S hk h
    have hik : i = ds.length := by omega
    subst hik
    refine ⟨E, S, ?_, h⟩
    unfold forGoF
    rw [if_pos (hi _ _ _ h).alive]
  | succ k ih =>
    intro i E S hk h
    have hlt : i < ds.length := by omega
    obtain ⟨E1, E2, S2, E3, S3, h1, h2, h3, h4⟩ := hs i ds[i] E S h (by simp [hlt])
    obtain ⟨E', S', h5, h6⟩ := ih (i + 1) E3 S3 (by omega) h4
    refine ⟨E', S', ?_, h6⟩
    unfold forGoF
    rw [if_pos (hi _ _ _ h).alive, (hi _ _ _ h).at_ i hlt]
    simp only [hlt, List.getElem?_eq_getElem, h1]
    rcases h2 with h2 | h2 <;> simp only [h2, h3, h5]
theorem rng_F {lo : Int} {n : Nat} {t : Tg} {b : MS} {E : Env} {S : List D} (I : Nat → Env → List D → Prop) (h0 : I 0 E S)
    (hs : ∀ i E S', i < n → I i E S' → TurnF t b S.length (.int (lo + (i : Nat))) E S' (I (i + 1))) : ∃ E' S', forSF (Src.rng lo n) t b E S = .nx E' S' ∧ I n E' S' := by
  unfold forSF
  obtain ⟨E', S', h1, h2⟩ := forGoF_inv (src := Src.rng lo n) (t := t) (b := b) (n := S.length) ((List.range n).map fun i => D.int (lo + (i : Nat))) I (fun _ _ S _ => is_rng lo n S) (fun i d E S' h hd => by
    obtain ⟨hi, rfl⟩ := List.getElem?_eq_some_iff.mp hd
    simp only [List.getElem_map, List.getElem_range]
    exact hs i E S' (by simpa using hi) h) n 0 E S (by simp) h0
  exact ⟨E', S', h1, by simpa using h2⟩
theorem whileGoF_inv {t : MT} {b : MS} {n : Nat} (I : Nat → Env → List D → Prop) (Q : Env → List D → Prop)
    (hs : ∀ m E S, I m E S → (t E S = .ok false S ∧ Q E S) ∨ (t E S = .ok true S ∧ ∃ E2 S2 E3 S3 m', (b E S = .nx E2 S2 ∨ b E S = .ct E2 S2) ∧ gcF n E2 S2 = some (E3, S3) ∧ m' < m ∧ I m' E3 S3)) :
    ∀ (k m : Nat) (E : Env) (S : List D), m < k → I m E S → ∃ E' S', whileGoF t b n k E S = .nx E' S' ∧ Q E' S' := by
  intro k
  induction k with
  | zero => intro m E S h; omega
  | succ k ih =>
    intro m E S hm h
    rcases hs m E S h with ⟨h1, h2⟩ | ⟨h1, E2, S2, E3, S3, m', h2, h3, h4, h5⟩
    · refine ⟨E, S, ?_, h2⟩
      unfold whileGoF
      simp [h1]
    · obtain ⟨E', S', h6, h7⟩ := ih m' E3 S3 (by omega) h5
      refine ⟨E', S', ?_, h7⟩
      unfold whileGoF
      simp only [h1, tO_ok, if_true]
      rcases h2 with h2 | h2 <;> simp only [h2, h3, h6]
/-! lists of dicts with tuple keys -/
@[simp] theorem ev_sortT (a : ME) : eSortT a E S = (a E S).bind kSortT := id rfl
theorem ksortT {n : Nat} {ks : List (List Ky)} {ds : List D} (h : S[n]? = some (.dcT ks ds)) (ok : okSort (ks.map tupK) = true) : kSortT (.loc n) S = .ok (.lst (sortD (ks.map tupK))) S := by
  simp [kSortT, dctT, h, ok]
theorem b_listDT {n : Nat} {ks : List (List Ky)} {ds : List D} (h : S[n]? = some (.dcT ks ds)) (hl : ks.length ≤ SL) : bListT [.loc n] S = .ok (.lst (ks.map tupK)) S := by
  simp [bListT, dctT, h, hl]
theorem b_lenDT {n : Nat} {ks : List (List Ky)} {ds : List D} (h : S[n]? = some (.dcT ks ds)) : bLenT [.loc n] S = .ok (.int ks.length) S := by
  simp [bLenT, h]
theorem goneF_flat {n : Nat} {S : List D} {d : D} (h : d.flat = true) : goneF n S (some d) = some d := by
  simp only [goneF, h, if_true]
theorem goneF_lt {n k : Nat} {S : List D} (h : k < n) : goneF n S (some (.loc k)) = some (.loc k) := by
  simp [goneF, h]
theorem goneF_new {n k : Nat} {S : List D} {o : D} (h : n ≤ k) (ho : S[k]? = some o) (hf : o.flat = true) : goneF n S (some (.loc k)) = some o := by
  have : ¬ k < n := by omega
  simp [goneF, this, ho, hf]
@[simp] theorem goneF_none {n : Nat} {S : List D} : goneF n S none = none := rfl
end J
set_option linter.all false
set_option maxRecDepth 100000
namespace K16
open J
structure Row where
  sc : List Int
  pos : Int
  seed : Int
  rest : Int
def encRow (r : Row) : D := .lst [.rdl (r.sc.map D.int), .int r.pos, .int r.seed, .int r.rest]
@[simp] theorem encRow_flat (r : Row) : (encRow r).flat = true := by simp [encRow]
theorem mulR (i : Int) (S : List D) : oMul (.int i) (.int 48271) S = .ok (.int (i * 48271)) S := o_mul (Or.inr (by decide))
theorem pow18 (S : List D) : oPow (.int 10) (.int 18) S = .ok (.int 1000000000000000000) S := rfl
theorem modM (i : Int) (S : List D) : oMod (.int i) (.int 2147483647) S = .ok (.int (i % 2147483647)) S := o_mod (by decide)
theorem div7 (i : Int) (S : List D) : oDiv (.int i) (.int 7) S = .ok (.int (i / 7)) S := o_div (by decide) (by decide)
set_option maxHeartbeats 1000000 in
theorem taken_ok (r : Row) (many : Int) (hp : 0 ≤ r.pos) (h : 0 < many) (h2 : many < 1073741824) : ∃ v r', F_p_law_taken [.loc 0, .int many] [encRow r] = .ok (.int v) [encRow r'] ∧ 0 ≤ v ∧ v < many ∧ 0 ≤ r'.pos := by
  obtain ⟨sc, pos, seed, rest⟩ := r
  simp only at hp
  have e1 : ∀ (i : Int) (S : List D), oMod (.int i) (.int many) S = .ok (.int (i % many)) S := fun i S => o_mod h
  have e2 : ∀ (i : Int) (S : List D), oDiv (.int i) (.int many) S = .ok (.int (i / many)) S := fun i S => o_div h h2
  have b1 : ∀ i : Int, 0 ≤ i % many ∧ i % many < many := fun i => ⟨Int.emod_nonneg _ (by omega), Int.emod_lt_of_pos _ h⟩
  unfold F_p_law_taken S_p_law_taken
  rw [fn_ev 2 4 _ rfl]
  by_cases hr : 0 < rest
  · refine ⟨rest % many, ⟨sc, pos, seed, rest / many⟩, ?_, (b1 _).1, (b1 _).2, hp⟩
    simp [encRow, hr, e1, e2, ixOf]
  · by_cases hl : (sc.length : Int) < pos + 1
    · refine ⟨(seed * 48271 + 11) % 2147483647 / 7 % many, ⟨sc, pos + 1, (seed * 48271 + 11) % 2147483647, rest⟩, ?_, (b1 _).1, (b1 _).2, by simp only; omega⟩
      simp [encRow, hr, e1, e2, ixOf, hl, mulR, modM, div7]
    · have hi : pos.toNat < sc.length := by omega
      by_cases hb : (1000000000000000000 : Int) ≤ sc[pos.toNat]
      · refine ⟨sc[pos.toNat] % many, ⟨sc, pos + 1, (seed * 48271 + sc[pos.toNat] + 11) % 2147483647, sc[pos.toNat] / many⟩, ?_, (b1 _).1, (b1 _).2, by simp only; omega⟩
        simp [encRow, hr, e1, e2, ixOf, hl, mulR, modM, div7, pow18, at_int hp, hi, hb]
      · refine ⟨sc[pos.toNat] % many, ⟨sc, pos + 1, (seed * 48271 + sc[pos.toNat] + 11) % 2147483647, rest⟩, ?_, (b1 _).1, (b1 _).2, by simp only; omega⟩
        simp [encRow, hr, e1, e2, ixOf, hl, mulR, modM, div7, pow18, at_int hp, hi, hb]
structure Pipe where
  s : Int
  t : Int
  g : Int
  e : Int
  m : Int
def encP (p : Pipe) : D := .tup [.int p.s, .int p.t, .int p.g, .int p.e, .int p.m]
@[simp] theorem fl_encP (p : Pipe) : (encP p).flat = true := id rfl
@[simp] theorem ixP0 (p : Pipe) (S : List D) : oIx (encP p) (.int 0) S = .ok (.int p.s) S := id rfl
@[simp] theorem ixP1 (p : Pipe) (S : List D) : oIx (encP p) (.int 1) S = .ok (.int p.t) S := id rfl
@[simp] theorem ixP2 (p : Pipe) (S : List D) : oIx (encP p) (.int 2) S = .ok (.int p.g) S := id rfl
@[simp] theorem ixP3 (p : Pipe) (S : List D) : oIx (encP p) (.int 3) S = .ok (.int p.e) S := id rfl
@[simp] theorem ixP4 (p : Pipe) (S : List D) : oIx (encP p) (.int 4) S = .ok (.int p.m) S := id rfl
@[simp] theorem bindP (ts : List Tg) (p : Pipe) (E : Env) : (Tg.tp ts).bind (encP p) E = Tg.binds ts [.int p.s, .int p.t, .int p.g, .int p.e, .int p.m] E := id rfl
@[simp] theorem bindPs (us ts : List Tg) (p : Pipe) (xs : List D) (E : Env) : Tg.binds (.tp us :: ts) (encP p :: xs) E = (Tg.binds us [.int p.s, .int p.t, .int p.g, .int p.e, .int p.m] E).bind fun E1 => Tg.binds ts xs E1 := binds_tp us ts
def encF (n : Int) (ps : List Pipe) : D := .tup [.int n, .tup (ps.map encP)]
@[simp] theorem flats_pipes (ps : List Pipe) : D.flats (ps.map encP) = true := flats_map _ fl_encP ps
@[simp] theorem encF_flat (n : Int) (ps : List Pipe) : (encF n ps).flat = true := by simp [encF]
@[simp] theorem callP (F : MF) (p : Pipe) (xs S : List D) (h : D.flats xs = true) : callF F (encP p :: xs) S = kC0 S (F (encP p :: xs) []) := call0 F (by simp [h])
@[simp] theorem call_encF (F : MF) (n : Int) (ps : List Pipe) (xs S : List D) (h : D.flats xs = true) : callF F (encF n ps :: xs) S = kC0 S (F (encF n ps :: xs) []) := call0 F (by simp [h])
structure POk (n r m : Int) (p : Pipe) : Prop where
  s0 : 0 ≤ p.s
  s1 : p.s < n
  t0 : 0 ≤ p.t
  t1 : p.t < n
  g0 : 1 ≤ p.g
  g1 : p.g ≤ r
  e0 : 1 ≤ p.e
  e1 : p.e ≤ r
  m0 : 0 ≤ p.m
  m1 : p.m ≤ m
theorem any_ok (r : Row) (hp : 0 ≤ r.pos) : ∃ n ps r', F_p_law_any [.loc 0] [encRow r] = .ok (encF n ps) [encRow r'] ∧ 1 ≤ n ∧ n ≤ 5 ∧ ps.length ≤ 6 ∧ (∀ p ∈ ps, POk n 3 5 p) ∧ 0 ≤ r'.pos := by
  unfold F_p_law_any S_p_law_any
  rw [fn_ev 1 4 _ rfl]
  obtain ⟨v1, r1, h1, b1, b2, p1⟩ := taken_ok r 5 hp (by omega) (by omega)
  obtain ⟨v2, r2, h2, b3, b4, p2⟩ := taken_ok r1 7 p1 (by omega) (by omega)
  simp [h1, h2, krng1 b3 (by omega)]
  obtain ⟨E', S', e, r', x, ps, rfl, rfl, hl, hp', hk⟩ := for_rng (lo := 0) (n := v2.toNat) (t := Tg.nm 3) (b := B1_p_law_any) (E := [some (D.loc 0), some (D.int (1 + v1)), some (D.loc 1), none]) (S := [encRow r2, D.lst []])
    (fun i E S => ∃ r x ps, E = [some (D.loc 0), some (D.int (1 + v1)), some (D.loc 1), x] ∧ S = [encRow r, D.lst (ps.map encP)] ∧ ps.length = i ∧ 0 ≤ r.pos ∧ ∀ p ∈ ps, POk (1 + v1) 3 5 p)
    ⟨r2, none, [], rfl, rfl, rfl, p2, by simp⟩ (by
      rintro i E S hi ⟨r, x, ps, rfl, rfl, hl, hp', hk⟩
      obtain ⟨w1, s1, g1, c1, c2, q1⟩ := taken_ok r (1 + v1) hp' (by omega) (by omega)
      obtain ⟨w2, s2, g2, c3, c4, q2⟩ := taken_ok s1 (1 + v1) q1 (by omega) (by omega)
      obtain ⟨w3, s3, g3, c5, c6, q3⟩ := taken_ok s2 3 q2 (by omega) (by omega)
      obtain ⟨w4, s4, g4, c7, c8, q4⟩ := taken_ok s3 3 q3 (by omega) (by omega)
      obtain ⟨w5, s5, g5, c9, c10, q5⟩ := taken_ok s4 6 q4 (by omega) (by omega)
      refine turn_nx (E2 := [some (D.loc 0), some (D.int (1 + v1)), some (D.loc 1), some (.int (0 + (i : Nat)))]) (S2 := [encRow s5, D.lst ((ps ++ [(⟨w1, w2, 1 + w3, 1 + w4, w5⟩ : Pipe)]).map encP)]) rfl ?_ rfl ?_
      rotate_left
      · refine ⟨s5, _, ps ++ [(⟨w1, w2, 1 + w3, 1 + w4, w5⟩ : Pipe)], rfl, rfl, by simp [hl], q5, ?_⟩
        intro p hp
        simp at hp
        rcases hp with hp | rfl
        · exact hk p hp
        · exact ⟨c1, c2, c3, c4, by simp only; omega, by simp only; omega, by simp only; omega, by simp only; omega, c9, by simp only; omega⟩
      · unfold B1_p_law_any
        have hs : ps.length < SL := by unfold SL; omega
        simp [g1, g2, g3, g4, g5, hs, encP])
  refine ⟨1 + v1, ps, r', ?_, by omega, by omega, by omega, hk, hp'⟩
  rw [e]
  simp [encF]
theorem isi_int (ns : List String) (i : Int) (S : List D) : oIsi ns (.int i) S = .ok (.bl (ns.any (isiB "int"))) S := rfl
theorem isi_tup (ns : List String) (ds : List D) (S : List D) : oIsi ns (.tup ds) S = .ok (.bl (ns.any (isiB "tuple"))) S := rfl
theorem b1 : isiB "int" "bool" = false := by decide
theorem b2 : isiB "int" "int" = true := by decide
theorem b3 : isiB "tuple" "tuple" = true := by decide
theorem iswhole_eq (v : Int) : F_p_is_whole [.int v] [] = .ok (.bl true) [] := by
  unfold F_p_is_whole S_p_is_whole
  rw [fn_ev 1 1 _ rfl]
  simp [isi_int, b1, b2]
theorem isnum_eq (v a b : Int) : F_p_is_number [.int v, .int a, .int b] [] = .ok (.bl (decide (a ≤ v) && decide (v ≤ b))) [] := by
  unfold F_p_is_number S_p_is_number
  rw [fn_ev 3 3 _ rfl]
  simp [iswhole_eq]
  by_cases h : a ≤ v <;> simp [h]
theorem isbox_eq (v n : Int) : F_p_is_box [.int v, .int n] [] = .ok (.bl (decide (0 ≤ v) && decide (v ≤ n - 1))) [] := by
  unfold F_p_is_box S_p_is_box
  rw [fn_ev 2 2 _ rfl]
  simp [isnum_eq]
theorem isrow_eq (ds : List D) (n : Int) (h : D.flats ds = true) : F_p_is_row [.tup ds, .int n] [] = .ok (.bl (decide ((ds.length : Int) = n))) [] := by
  unfold F_p_is_row S_p_is_row
  rw [fn_ev 2 2 _ rfl]
  simp [isi_tup, b3]
theorem ispipe_ok {n : Int} {p : Pipe} (h : POk n 999 99999 p) : F_p_is_pipe [encP p, .int n] [] = .ok (.bl true) [] := by
  obtain ⟨h1, h2, h3, h4, h5, h6, h7, h8, h9, h10⟩ := h
  unfold F_p_is_pipe S_p_is_pipe encP
  rw [fn_ev 2 7 _ rfl]
  have h2' : p.s ≤ n - 1 := by omega
  have h4' : p.t ≤ n - 1 := by omega
  simp [isrow_eq, isbox_eq, isnum_eq, kasg, h1, h2', h3, h4', h5, h6, h7, h8, h9, h10]
structure FOk (n : Int) (ps : List Pipe) : Prop where
  n1 : 1 ≤ n
  n8 : n ≤ 8
  l : ps.length ≤ 16
  ok : ∀ p ∈ ps, POk n 999 99999 p
theorem check_ok {n : Int} {ps : List Pipe} (h : FOk n ps) : F_p_check_flow [encF n ps] [] = .ok .non [] := by
  unfold F_p_check_flow S_p_check_flow
  rw [fn_ev 1 5 _ rfl]
  have l16 : ¬ (16 : Int) < ps.length := by have := h.l; omega
  simp [encF, isrow_eq, isnum_eq, kasg, h.n1, h.n8, isi_tup, b3, l16]
  obtain ⟨E', S', e, x, y, rfl, rfl⟩ := for_enum ps encP (t := Tg.tp [Tg.nm 3, Tg.nm 4]) (b := B1_p_check_flow) (E := [some (encF n ps), some (D.int n), some (.tup (ps.map encP)), none, none]) (S := [])
    (fun i E S => ∃ x y, E = [some (encF n ps), some (D.int n), some (.tup (ps.map encP)), x, y] ∧ S = []) ⟨none, none, rfl, rfl⟩ (by
      rintro i E S hi ⟨x, y, rfl, rfl⟩
      refine turn_nx (E2 := [some (encF n ps), some (D.int n), some (.tup (ps.map encP)), some (.int i), some (encP ps[i])]) (S2 := []) rfl ?_ rfl ?_
      · unfold B1_p_check_flow
        have := ispipe_ok (h.ok ps[i] (List.getElem_mem hi))
        simp [this]
      · exact ⟨_, _, rfl, rfl⟩)
  simp [encF] at e
  simp [e]
instance : Inhabited Pipe := ⟨⟨0, 0, 0, 0, 0⟩⟩
def pk (ps : List Pipe) (k : Nat) : Pipe := ps.getD k ⟨0, 0, 0, 0, 0⟩
def ik (xs : List Int) (k : Nat) : Int := xs.getD k 0
def dI (xs : List Int) : List D := xs.map D.int
def dN (ks : List Nat) : List D := ks.map fun k : Nat => D.int (k : Int)
@[simp] theorem flats_dI (ns : List Int) : D.flats (dI ns) = true := flats_ints ns
@[simp] theorem flats_dN (ns : List Nat) : D.flats (dN ns) = true := flats_map _ (fun _ => rfl) ns
@[simp] theorem ixF0 (n : Int) (ps : List Pipe) (S : List D) : oIx (encF n ps) (.int 0) S = .ok (.int n) S := id rfl
@[simp] theorem ixF1 (n : Int) (ps : List Pipe) (S : List D) : oIx (encF n ps) (.int 1) S = .ok (.tup (ps.map encP)) S := id rfl
@[simp] theorem bindF (ts : List Tg) (n : Int) (ps : List Pipe) (E : Env) : (Tg.tp ts).bind (encF n ps) E = Tg.binds ts [.int n, .tup (ps.map encP)] E := id rfl
theorem enum_range (ps : List Pipe) : ((ps.map encP).mapIdx fun i d => D.tup [.int (i : Nat), d]) = (List.range ps.length).map fun k : Nat => D.tup [.int (k : Int), encP (pk ps k)] := by
  apply List.ext_getElem
  · simp
  · intro i h1 h2
    simp at h1
    simp [h1, pk]
theorem is_enumR (ps : List Pipe) (S : List D) : (Src.enum (.its (ps.map encP))).Is S ((List.range ps.length).map fun k : Nat => D.tup [.int (k : Int), encP (pk ps k)]) := by
  rw [← enum_range]
  exact is_enum (is_its _ S)
theorem lc_true {src : Src} {own : List Nat} {t : Tg} {c : MT} {e : ME} {α : Type} {E : Env} {S : List D} (xs : List α) (enc : α → D) (f : α → D) (hl : xs.length ≤ SL) (hi : src.Is S (xs.map enc))
    (hs : ∀ a, a ∈ xs → ∃ E1, t.bind (enc a) (wipeE E own) = some E1 ∧ c E1 S = .ok true S ∧ e E1 S = .ok (f a) S) :
    lcS false src own t c e E S = .ok (.lst (xs.map f)) S := by
  rw [lc_eq xs enc (fun _ => true) f hl hi (fun a ha => by obtain ⟨E1, h1, h2, h3⟩ := hs a ha; exact ⟨E1, h1, h2, fun _ => h3⟩)]
  simp [List.filter_eq_self.mpr]
theorem lc_filt {src : Src} {own : List Nat} {t : Tg} {c : MT} {e : ME} {α : Type} {E : Env} {S : List D} (xs : List α) (enc : α → D) (p : α → Bool) (f : α → D) (hl : xs.length ≤ SL) (hi : src.Is S (xs.map enc))
    (hs : ∀ a, a ∈ xs → ∃ E1, t.bind (enc a) (wipeE E own) = some E1 ∧ c E1 S = .ok (p a) S ∧ (p a = true → e E1 S = .ok (f a) S)) :
    lcS false src own t c e E S = .ok (.lst ((xs.filter p).map f)) S := by
  rw [lc_eq xs enc p f hl hi hs]
  simp
def marksT (ps : List Pipe) : List Int := ps.map (·.m)
theorem smallL {ps : List Pipe} (h : ps.length ≤ 16) : ps.length ≤ SL := by unfold SL; omega
theorem marks_eq {n : Int} {ps : List Pipe} (h : FOk n ps) : F_p_marks [encF n ps] [] = .ok (.tup (dI (marksT ps))) [] := by
  unfold F_p_marks S_p_marks
  rw [fn_ev 1 2 _ rfl]
  simp [check_ok h]
  rw [lc_true ps encP (fun p => D.int p.m) (smallL h.l) (is_its _ _) (fun p _ => ⟨_, rfl, rfl, by unfold V1_p_marks; simp⟩)]
  simp [dI, marksT, flats_map (fun p : Pipe => D.int p.m) (fun _ => rfl)]
def shortT (ps : List Pipe) (held : List Int) (b : Int) : List Nat := (List.range ps.length).filter fun k => decide ((pk ps k).t = b) && decide ((ik held k) < (pk ps k).e)
theorem at_dI {held : List Int} {k : Nat} (h : k < held.length) : (dI held)[k]? = some (.int (ik held k)) := by simp [dI, ik, h]
theorem short_eq {ps : List Pipe} {held : List Int} (b : Int) (h : ps.length ≤ 16) (hl : held.length = ps.length) : F_p_short_pipes [.tup (ps.map encP), .tup (dI held), .int b] [] = .ok (.lst (dN (shortT ps held b))) [] := by
  unfold F_p_short_pipes S_p_short_pipes
  rw [fn_ev 3 5 _ rfl]
  simp
  rw [lc_filt (List.range ps.length) _ (fun k => decide ((pk ps k).t = b) && decide ((ik held k) < (pk ps k).e)) (fun k : Nat => D.int (k : Int)) (by simpa using smallL h) (is_enumR ps _) (fun k hk => ⟨_, rfl, by
    unfold C1_p_short_pipes
    have hk' : k < held.length := by simp at hk; omega
    simp [at_dI hk']
    by_cases h1 : (pk ps k).t = b <;> simp [h1, at_dI hk'], fun _ => by unfold V2_p_short_pipes; simp⟩)]
  simp [shortT, dN, flats_map (fun k : Nat => D.int (k : Int)) (fun _ => rfl)]
def nextT (ps : List Pipe) (held : List Int) (b : Int) : List Int := List.zipWith (fun p h => h - (if p.t = b then p.e else 0) + (if p.s = b then p.g else 0)) ps held
theorem nextT_len {ps : List Pipe} {held : List Int} (b : Int) (hl : held.length = ps.length) : (nextT ps held b).length = ps.length := by simp [nextT, hl]
def withT (ps : List Pipe) (held : List Int) : List Pipe := List.zipWith (fun p h => ⟨p.s, p.t, p.g, p.e, h⟩) ps held
@[simp] theorem slP (p : Pipe) (S : List D) : oSl (encP p) none (some 4) S = .ok (.tup [.int p.s, .int p.t, .int p.g, .int p.e]) S := id rfl
theorem zip_enc (ps : List Pipe) (held : List Int) (hl : held.length = ps.length) : List.zipWith (fun a b => D.tup [a, b]) (ps.map encP) (dI held) = (List.zip ps held).map fun x => D.tup [encP x.1, .int x.2] := by
  induction ps generalizing held with
  | nil => rfl
  | cons p ps ih =>
    cases held with
    | nil => rfl
    | cons h held => simp [dI]; simpa [dI] using ih held (by simpa using hl)
/-- a list half renewed -/
def half (new old : List Int) (i : Nat) : List Int := new.take i ++ old.drop i
theorem half_len {new old : List Int} (i : Nat) (h : new.length = old.length) : (half new old i).length = old.length := by simp [half]; omega
theorem half_at {new old : List Int} {i : Nat} (h : new.length = old.length) (hi : i < old.length) : (half new old i)[i]? = some (ik old i) := by
  unfold half
  rw [List.getElem?_append_right (by simp; omega)]
  simp [ik, hi]
  rw [Nat.min_eq_left (by omega)]
  simp [hi]
theorem half_set {new old : List Int} {i : Nat} (h : new.length = old.length) (hi : i < old.length) : (half new old i).set i (ik new i) = half new old (i + 1) := by
  have hi2 : i < new.length := by omega
  have e : (new.take i).length = i := by simp; omega
  unfold half
  rw [List.drop_eq_getElem_cons hi, List.set_append_right _ _ (by omega), e, Nat.sub_self, List.set_cons_zero, ← List.take_append_getElem hi2, List.append_assoc]
  simp [ik, hi2]
theorem nextT_at {ps : List Pipe} {held : List Int} {b : Int} {i : Nat} (hl : held.length = ps.length) (hi : i < ps.length) : ik (nextT ps held b) i = ik held i - (if (pk ps i).t = b then (pk ps i).e else 0) + (if (pk ps i).s = b then (pk ps i).g else 0) := by
  have : i < held.length := by omega
  simp [ik, nextT, pk, hi, this, List.getElem?_zipWith]
theorem behind_eq {ps : List Pipe} {held : List Int} (b : Int) (h : ps.length ≤ 16) (hl : held.length = ps.length) : F_p_held_behind [.tup (ps.map encP), .tup (dI held), .int b] [] = .ok (.tup (dI (nextT ps held b))) [] := by
  unfold F_p_held_behind S_p_held_behind
  rw [fn_ev 3 10 _ rfl]
  simp
  have hn := nextT_len b hl
  obtain ⟨E', S', e, x4, x5, x6, x7, x8, x9, rfl, rfl⟩ := for_enum ps encP (t := Tg.tp [Tg.nm 4, Tg.tp [Tg.nm 5, Tg.nm 6, Tg.nm 7, Tg.nm 8, Tg.nm 9]]) (b := B1_p_held_behind) (E := [some (.tup (ps.map encP)), some (.tup (dI held)), some (.int b), some (.loc 0), none, none, none, none, none, none]) (S := [.lst (dI held)])
    (fun i E S => ∃ x4 x5 x6 x7 x8 x9, E = [some (.tup (ps.map encP)), some (.tup (dI held)), some (.int b), some (.loc 0), x4, x5, x6, x7, x8, x9] ∧ S = [.lst (dI (half (nextT ps held b) held i))]) ⟨none, none, none, none, none, none, rfl, by simp [half]⟩ (by
      rintro i E S hi ⟨x4, x5, x6, x7, x8, x9, rfl, rfl⟩
      have hp : ps[i] = pk ps i := by simp [pk, hi]
      rw [hp]
      refine turn_nx (E2 := [some (.tup (ps.map encP)), some (.tup (dI held)), some (.int b), some (.loc 0), some (.int i), some (.int (pk ps i).s), some (.int (pk ps i).t), some (.int (pk ps i).g), some (.int (pk ps i).e), some (.int (pk ps i).m)]) (S2 := [.lst (dI (half (nextT ps held b) held (i + 1)))]) rfl ?_ rfl ?_
      · unfold B1_p_held_behind
        have h1 : (dI (half (nextT ps held b) held i))[i]? = some (.int (ik held i)) := by
          simp only [dI, List.getElem?_map, half_at (hn.trans hl.symm) (by omega : i < held.length), Option.map_some]
        have h2 : ixOf (dI (half (nextT ps held b) held i)).length (i : Int) = some i := ix_nat (by simp [dI, half_len i (hn.trans hl.symm)]; omega)
        have h3 : ∀ v : Int, (dI (half (nextT ps held b) held i)).set i (.int v) = dI ((half (nextT ps held b) held i).set i v) := fun v => by simp [dI, List.map_set]
        have h5 : i < (dI (half (nextT ps held b) held i)).length := by simp [dI, half_len i (hn.trans hl.symm)]; omega
        have h4 := nextT_at (b := b) hl hi
        have h6 : dI (half (nextT ps held b) held (i + 1)) = (dI (half (nextT ps held b) held i)).set i (.int (ik (nextT ps held b) i)) := by
          rw [← half_set (hn.trans hl.symm) (by omega : i < held.length)]
          simp [dI, List.map_set]
        rw [h6, h4]
        generalize dI (half (nextT ps held b) held i) = L at *
        have h7 : L[i] = .int (ik held i) := by simpa [h5] using h1
        have h8 : L.set i (.int (ik held i)) = L := by rw [← h7]; simp
        by_cases c1 : (pk ps i).t = b <;> by_cases c2 : (pk ps i).s = b <;> simp [h1, h2, h5, h7, h8, c1, c2]
      · exact ⟨_, _, _, _, _, _, rfl, rfl⟩)
  simp [e]
  rw [half, List.take_of_length_le (by omega), List.drop_of_length_le (by omega), List.append_nil]
def canT (ps : List Pipe) (held : List Int) (b : Int) : Bool := (shortT ps held b).isEmpty
@[simp] theorem dN_empty (ks : List Nat) : (dN ks).isEmpty = ks.isEmpty := by cases ks <;> rfl
def fireT (n : Int) (ps : List Pipe) (held : List Int) : List Nat := (List.range n.toNat).filter fun k : Nat => canT ps held k
theorem marks_len (ps : List Pipe) : (marksT ps).length = ps.length := by simp [marksT]
def intoT (ps : List Pipe) (b : Int) : List Nat := (List.range ps.length).filter fun k => decide ((pk ps k).t = b)
def outT (ps : List Pipe) (b : Int) : List Nat := (List.range ps.length).filter fun k => decide ((pk ps k).s = b)
def stT (ps : List Pipe) (held : List Int) (word : List Int) (i : Nat) : List Int := (word.take i).foldl (nextT ps) held
theorem stT_len {ps : List Pipe} {held : List Int} (hl : held.length = ps.length) (word : List Int) (i : Nat) : (stT ps held word i).length = ps.length := by
  unfold stT
  generalize word.take i = w
  induction w generalizing held with
  | nil => exact hl
  | cons b w ih => exact ih (nextT_len b hl)
theorem stT_succ (ps : List Pipe) (held : List Int) {word : List Int} {i : Nat} (h : i < word.length) : stT ps held word (i + 1) = nextT ps (stT ps held word i) word[i] := by
  unfold stT
  rw [← List.take_append_getElem h, List.foldl_append]
  rfl
structure WOk (n : Int) (ps : List Pipe) (held word : List Int) : Prop where
  l : word.length ≤ 2000
  b0 : ∀ b ∈ word, 0 ≤ b ∧ b < n
  can : ∀ i (h : i < word.length), canT ps (stT ps held word i) word[i] = true
def rowsT (ps : List Pipe) (held word : List Int) (i : Nat) : List D := (List.range (i + 1)).map fun j => D.tup (dI (stT ps held word j))
@[simp] theorem flats_rows (ps : List Pipe) (held word : List Int) (i : Nat) : D.flats (rowsT ps held word i) = true := flats_map _ (fun _ => by simp) _
theorem fz_flat0 (n k : Nat) (S : List D) (d : D) (h : d.flat = true) : fz n S (k + 1) d = some d := by
  unfold fz
  rw [if_pos h]
theorem mapM_flat0 (n k : Nat) (S : List D) : ∀ ds : List D, D.flats ds = true → ds.mapM (fz n S (k + 1)) = some ds
  | [], _ => rfl
  | d :: ds, h => by
    simp only [fls_cons, Bool.and_eq_true] at h
    rw [List.mapM_cons, fz_flat0 n k S d h.1, mapM_flat0 n k S ds h.2]
    rfl
theorem retF_loc0 {xs S : List D} (h : D.flats xs = true) (n : Nat) (hS : S[n]? = some (.lst xs)) : retF 0 (.loc n) S = .ok (.lst xs) [] := by
  unfold retF
  rw [if_pos ⟨Nat.zero_le _, rfl⟩]
  have : fz 0 S 8 (.loc n) = some (.lst xs) := by
    rw [fz]
    simp [hS]
    rw [mapM_flat0 0 6 S xs h]
  rw [this]
  rfl
def runT (ps : List Pipe) (word : List Int) : List Int := word.foldl (nextT ps) (marksT ps)
theorem pick_ok (r : Row) (ds : List D) (hf : D.flats ds = true) (hp : 0 ≤ r.pos) (h1 : 0 < ds.length) (h2 : ds.length < 1000000) : ∃ d r', d ∈ ds ∧ F_p_law_pick [.loc 0, .lst ds] [encRow r] = .ok d [encRow r'] ∧ 0 ≤ r'.pos := by
  obtain ⟨v, r', e, b1, b2, p⟩ := taken_ok r ds.length hp (by omega) (by omega)
  have hv : v.toNat < ds.length := by omega
  refine ⟨ds[v.toNat], r', List.getElem_mem hv, ?_, p⟩
  unfold F_p_law_pick S_p_law_pick
  rw [fn_ev 2 2 _ rfl]
  have hfl : (ds[v.toNat]).flat = true := by
    rw [flats_all] at hf
    exact List.all_eq_true.mp hf _ (List.getElem_mem hv)
  simp [e, hf, at_int b1, hv, hfl]
theorem gcd_eq (a b : Nat) (hb : b < 999999) : F_p_law_gcd [.int a, .int b] [] = .ok (.int (Nat.gcd a b)) [] := by
  unfold F_p_law_gcd S_p_law_gcd
  rw [fn_ev 2 2 _ rfl]
  have ha0 : ¬ ((a : Int) < 0) := by omega
  have hb0 : ¬ ((b : Int) < 0) := by omega
  simp [ha0, hb0]
  obtain ⟨E', S', e, rfl, rfl⟩ := whileGo_inv (t := C2_p_law_gcd) (b := B1_p_law_gcd) (n := 0)
    (fun m E S => ∃ x y : Nat, E = [some (.int x), some (.int y)] ∧ S = [] ∧ Nat.gcd x y = Nat.gcd a b ∧ m = y) (fun E S => E = [some (.int (Nat.gcd a b)), some (.int 0)] ∧ S = []) (by
      rintro m E S ⟨x, y, rfl, rfl, hg, rfl⟩
      by_cases hy : m = 0
      · left
        subst hy
        refine ⟨by unfold C2_p_law_gcd; simp, ?_, rfl⟩
        simp at hg
        simp [hg]
      · right
        refine ⟨by unfold C2_p_law_gcd; simp [hy], [some (.int m), some (.int ((x % m : Nat) : Int))], [], _, _, x % m, .inl ?_, gc_same rfl, Nat.mod_lt _ (by omega), m, x % m, rfl, rfl, ?_, rfl⟩
        · unfold B1_p_law_gcd
          simp [o_mod (show (0 : Int) < m by omega)]
        · rw [← hg, Nat.gcd_comm x m, Nat.gcd_rec m x, Nat.gcd_comm]) 1000000 b [some (.int a), some (.int b)] [] (by omega) ⟨a, b, rfl, rfl, rfl, rfl⟩
  unfold whS
  simp [e]
theorem ratio_eq (a b : Nat) (ha : 0 < a) (ha2 : a < 1000000) (hb : 0 < b) (hb2 : b < 999999) : F_p_law_ratio [.int a, .int b] [] = .ok (.tup [.int ((a / Nat.gcd a b : Nat) : Int), .int ((b / Nat.gcd a b : Nat) : Int)]) [] := by
  unfold F_p_law_ratio S_p_law_ratio
  rw [fn_ev 2 3 _ rfl]
  have hg : 0 < Nat.gcd a b := Nat.gcd_pos_of_pos_left _ ha
  have hg2 : Nat.gcd a b ≤ a := Nat.gcd_le_left _ ha
  have h1 : ∀ (i : Int) (S : List D), oDiv (.int i) (.int (Nat.gcd a b : Nat)) S = .ok (.int (i / (Nat.gcd a b : Nat))) S := fun i S => o_div (by omega) (by omega)
  have hb0 : ¬ ((b : Int) < 0) := by omega
  simp [gcd_eq a b hb2, hb0, h1]
theorem some_eq (n : Int) {ps : List Pipe} (h : ps.length ≤ 16) : F_p_law_some [encF n ps] [] = .ok (.tup (dI (marksT ps))) [] := by
  unfold F_p_law_some S_p_law_some
  rw [fn_ev 1 2 _ rfl]
  simp
  rw [lc_true ps encP (fun p => D.int p.m) (smallL h) (is_its _ _) (fun p _ => ⟨_, rfl, rfl, by unfold V1_p_law_some; simp⟩)]
  simp [dI, marksT, flats_map (fun p : Pipe => D.int p.m) (fun _ => rfl)]
theorem cmpbs_map {α : Type} (e : α → D) (h : ∀ a, (e a).cmpb = true) : ∀ xs : List α, D.cmpbs (xs.map e) = true
  | [] => rfl
  | x :: xs => by
    show ((e x).cmpb && D.cmpbs (xs.map e)) = true
    simp [h, cmpbs_map e h xs]
theorem depths_map {α : Type} (e : α → D) (k : Nat) (h : ∀ a, (e a).depth ≤ k) : ∀ xs : List α, D.depths (xs.map e) ≤ k
  | [] => Nat.zero_le _
  | x :: xs => by
    show max (e x).depth (D.depths (xs.map e)) ≤ k
    have := h x; have := depths_map e k h xs
    omega
theorem cmp_dN (ks : List Nat) : cmpOk (.lst (dN ks)) = true := by
  have h1 : D.cmpb (.lst (dN ks)) = true := cmpbs_map _ (fun _ => rfl) ks
  have h2 : D.depth (.lst (dN ks)) ≤ 1 := by
    have := depths_map (fun k : Nat => D.int (k : Int)) 0 (fun _ => Nat.le_refl _) ks
    show D.depths (dN ks) + 1 ≤ 1
    unfold dN
    omega
  simp [cmpOk, h1]
  omega
theorem eqB_dN (ks : List Nat) : D.eqB (.lst (dN ks)) (.lst []) = ks.isEmpty := by cases ks <;> rfl
@[simp] theorem o_eq0 (ks : List Nat) (S : List D) : oEq (.lst (dN ks)) (.lst []) S = .ok (.bl ks.isEmpty) S := by
  rw [o_eq (x := .lst (dN ks)) (y := .lst []) (cmp_dN ks) (cmp_dN [])]
  simp only [seen, eqB_dN]
@[simp] theorem o_ne0 (ks : List Nat) (S : List D) : oNe (.lst (dN ks)) (.lst []) S = .ok (.bl (!ks.isEmpty)) S := by
  rw [o_ne (x := .lst (dN ks)) (y := .lst []) (cmp_dN ks) (cmp_dN [])]
  simp only [seen, eqB_dN]
theorem at_P {ps : List Pipe} {k : Nat} (h : k < ps.length) : (ps.map encP)[k]? = some (encP (pk ps k)) := by simp [pk, h]
theorem can_eq {ps : List Pipe} {held : List Int} (n b : Int) (h : ps.length ≤ 16) (hl : held.length = ps.length) : F_p_law_can [encF n ps, .tup (dI held), .int b] [] = .ok (.bl (canT ps held b)) [] := by
  unfold F_p_law_can S_p_law_can
  rw [fn_ev 3 4 _ rfl]
  have hd : (dI held).length = ps.length := by simp [dI, hl]
  simp [hd, krng1n (show ps.length < 1000000 by omega)]
  rw [lc_filt (List.range ps.length) _ (fun k => decide ((pk ps k).t = b) && decide (ik held k < (pk ps k).e)) (fun k : Nat => D.int (k : Int)) (by simpa using smallL h) (is_rng 0 ps.length _) (fun k hk => ⟨_, rfl, by
    unfold C1_p_law_can
    have hk' : k < held.length := by simp at hk; omega
    have hk2 : k < ps.length := by simp at hk; omega
    by_cases h1 : (pk ps k).t = b <;> simp [h1, at_P hk2, at_dI hk'], fun _ => by unfold V2_p_law_can; simp⟩)]
  change kFn 0 ((((R.ok (D.lst (dN (shortT ps held b))) []).bind _).toO _ _)) = _
  simp [canT]
theorem take_succ_ik {xs : List Int} {i : Nat} (h : i < xs.length) : dI (xs.take (i + 1)) = dI (xs.take i) ++ [.int (ik xs i)] := by
  rw [← List.take_append_getElem h]
  show (xs.take i ++ [xs[i]]).map D.int = _
  rw [List.map_append]
  simp [ik, h, dI]
theorem next_eq {ps : List Pipe} {held : List Int} (n b : Int) (h : ps.length ≤ 16) (hl : held.length = ps.length) : F_p_law_next [encF n ps, .tup (dI held), .int b] [] = .ok (.tup (dI (nextT ps held b))) [] := by
  unfold F_p_law_next S_p_law_next
  rw [fn_ev 3 10 _ rfl]
  have hd : (dI held).length = ps.length := by simp [dI, hl]
  have hn := nextT_len b hl
  simp [hd, krng1n (show ps.length < 1000000 by omega)]
  obtain ⟨E', S', e, x4, x5, x6, x7, x8, x9, rfl, rfl⟩ := for_rng (lo := 0) (n := ps.length) (t := Tg.nm 4) (b := B1_p_law_next) (E := [some (encF n ps), some (.tup (dI held)), some (.int b), some (.loc 0), none, none, none, none, none, none]) (S := [.lst []])
    (fun i E S => ∃ x4 x5 x6 x7 x8 x9, E = [some (encF n ps), some (.tup (dI held)), some (.int b), some (.loc 0), x4, x5, x6, x7, x8, x9] ∧ S = [.lst (dI ((nextT ps held b).take i))]) ⟨none, none, none, none, none, none, rfl, rfl⟩ (by
      rintro i E S hi ⟨x4, x5, x6, x7, x8, x9, rfl, rfl⟩
      refine turn_nx (E2 := [some (encF n ps), some (.tup (dI held)), some (.int b), some (.loc 0), some (.int (0 + (i : Nat))), some (.int (pk ps i).s), some (.int (pk ps i).t), some (.int (pk ps i).g), some (.int (pk ps i).e), some (.int (pk ps i).m)]) (S2 := [.lst (dI ((nextT ps held b).take (i + 1)))]) rfl ?_ rfl ?_
      · unfold B1_p_law_next
        have hs : (dI ((nextT ps held b).take i)).length < SL := by simp [dI, SL]; omega
        rw [take_succ_ik (by omega), nextT_at hl hi]
        by_cases c1 : (pk ps i).t = b <;> by_cases c2 : (pk ps i).s = b <;> simp [at_P hi, at_dI (show i < held.length by omega), hs, c1, c2]
      · exact ⟨_, _, _, _, _, _, rfl, rfl⟩)
  simp [e]
  rw [List.take_of_length_le (by omega)]
theorem with_eq {ps : List Pipe} {held : List Int} (n : Int) (h : ps.length ≤ 16) (hl : held.length = ps.length) : F_p_law_with [encF n ps, .tup (dI held)] [] = .ok (encF n (withT ps held)) [] := by
  unfold F_p_law_with S_p_law_with
  rw [fn_ev 2 3 _ rfl]
  simp [krng1n (show ps.length < 1000000 by omega)]
  rw [lc_true (List.range ps.length) _ (fun k => encP ⟨(pk ps k).s, (pk ps k).t, (pk ps k).g, (pk ps k).e, ik held k⟩) (by simpa using smallL h) (is_rng 0 ps.length _) (fun k hk => ⟨_, rfl, rfl, by
    have hk' : k < held.length := by simp at hk; omega
    have hk2 : k < ps.length := by simp at hk; omega
    unfold V1_p_law_with
    simp [at_P hk2, at_dI hk', o_addT, SL]
    rfl⟩)]
  have hz : (List.range ps.length).map (fun k => encP ⟨(pk ps k).s, (pk ps k).t, (pk ps k).g, (pk ps k).e, ik held k⟩) = (withT ps held).map encP := by
    apply List.ext_getElem
    · simp [withT, hl]
    · intro i h1 h2
      simp at h1
      simp [withT, pk, ik, h1, hl]
  simp [hz, encF]
def up (ks : List Nat) : List Int := ks.map fun k : Nat => (k : Int)
theorem dN_up (ks : List Nat) : dN ks = dI (up ks) := by simp [dN, dI, up]
theorem inD_dI (v : Int) (xs : List Int) : inD (.int v) (dI xs) = decide (v ∈ xs) := by
  induction xs with
  | nil => rfl
  | cons x xs ih =>
    have e : inD (.int v) (dI (x :: xs)) = ((x == v) || inD (.int v) (dI xs)) := rfl
    rw [e, ih]
    by_cases h : x = v
    · subst h
      rw [decide_eq_true (List.mem_cons_self)]
      rw [beq_self_eq_true, Bool.true_or]
    · have h2 : (v ∈ x :: xs) ↔ v ∈ xs := ⟨fun q => by cases q with | head => exact absurd rfl h | tail _ q => exact q, fun q => List.mem_cons_of_mem _ q⟩
      rw [decide_eq_decide.mpr h2, beq_eq_false_iff_ne.mpr h, Bool.false_or]
theorem all_cmp (xs : List Int) : (dI xs).all cmpOk = true := by
  unfold dI
  rw [List.all_map]
  exact List.all_eq_true.mpr fun x _ => rfl
@[simp] theorem o_in (v : Int) (xs : List Int) (S : List D) : oIn (.int v) (.lst (dI xs)) S = .ok (.bl (decide (v ∈ xs))) S := by
  simp only [oIn, seqOf, seen, all_cmp, cmpOk_int, and_self, if_true, inD_dI]
@[simp] theorem o_inT (v : Int) (xs : List Int) (S : List D) : oIn (.int v) (.tup (dI xs)) S = .ok (.bl (decide (v ∈ xs))) S := by
  simp only [oIn, seqOf, seen, all_cmp, cmpOk_int, and_self, if_true, inD_dI]
@[simp] theorem o_ninT (v : Int) (xs : List Int) (S : List D) : oNin (.int v) (.tup (dI xs)) S = .ok (.bl (!decide (v ∈ xs))) S := by
  simp only [oNin, seqOf, seen, all_cmp, cmpOk_int, and_self, if_true, inD_dI]
theorem o_addLs (xs ys : List D) (S : List D) (h : xs.length + ys.length ≤ SL) : oAdd (.lst xs) (.lst ys) S = .ok (.lst (xs ++ ys)) S := o_addL rfl rfl h
theorem dI_app (xs ys : List Int) : dI xs ++ dI ys = dI (xs ++ ys) := by simp [dI]
theorem joined_ok {n : Nat} {ps : List Pipe} {box : Nat} (h : ps.length ≤ 16) (hn : n ≤ 8) (hb : box < n) : ∃ part : List Nat, F_p_law_joined [encF n ps, .int box, .bl true] [] = .ok (.lst (dI (up part))) [] ∧ (∀ k ∈ part, k < n) ∧ part.length ≤ n ∧ box ∈ part := by
  unfold F_p_law_joined S_p_law_joined
  rw [fn_ev 3 8 _ rfl]
  simp [krng1n (show n < 1000000 by omega)]
  obtain ⟨E', S', e, part, x4, x5, x6, x7, rfl, rfl, p1, p2, p3⟩ := for_rng (lo := 0) (n := n) (t := Tg.nm 4) (b := B7_p_law_joined) (E := [some (encF n ps), some (.int box), some (.bl true), some (.lst [.int box]), none, none, none, none]) (S := [])
    (fun i E S => ∃ part x4 x5 x6 x7, E = [some (encF n ps), some (.int box), some (.bl true), some (.lst (dI (up part))), x4, x5, x6, x7] ∧ S = [] ∧ (∀ k ∈ part, k < n) ∧ part.length ≤ n ∧ box ∈ part) ⟨[box], none, none, none, none, rfl, rfl, by simpa using hb, by simp; omega, by simp⟩ (by
      rintro i E S hi ⟨part, x4, x5, x6, x7, rfl, rfl, p1, p2, p3⟩
      let more : List Int := (ps.filter fun p => decide (p.s ∈ up part)).map (·.t)
      let mora : List Int := (ps.filter fun p => decide (p.t ∈ up part)).map (·.s)
      let part2 : List Nat := (List.range n).filter fun k : Nat => decide ((k : Int) ∈ up part) || decide ((k : Int) ∈ more ++ mora)
      refine turn_nx (E2 := [some (encF n ps), some (.int box), some (.bl true), some (.lst (dI (up part2))), some (.int (0 + (i : Nat))), some (.lst (dI (more ++ mora))), x6, x7]) (S2 := []) rfl ?_ rfl ?_
      · unfold B7_p_law_joined
        simp
        rw [lc_filt ps encP (fun p => decide (p.s ∈ up part)) (fun p => D.int p.t) (smallL h) (is_its _ _) (fun p _ => ⟨_, rfl, by
          unfold C1_p_law_joined
          simp, fun _ => by
          unfold V2_p_law_joined
          simp⟩)]
        simp
        rw [lc_filt ps encP (fun p => decide (p.t ∈ up part)) (fun p => D.int p.s) (smallL h) (is_its _ _) (fun p _ => ⟨_, rfl, by
          unfold C3_p_law_joined
          simp, fun _ => by
          unfold V4_p_law_joined
          simp⟩)]
        have e1 : List.map (fun p : Pipe => D.int p.t) (ps.filter fun p => decide (p.s ∈ up part)) = dI more := by simp [more, dI]
        have e2 : List.map (fun p : Pipe => D.int p.s) (ps.filter fun p => decide (p.t ∈ up part)) = dI mora := by simp [mora, dI]
        have l1 : more.length ≤ 16 := by have := List.length_filter_le (fun p => decide (p.s ∈ up part)) ps; simp [more]; omega
        have l2 : mora.length ≤ 16 := by have := List.length_filter_le (fun p => decide (p.t ∈ up part)) ps; simp [mora]; omega
        rw [e1, e2]
        simp
        rw [o_addLs _ _ _ (by simp [dI, SL]; omega), dI_app]
        simp [krng1n (show n < 1000000 by omega)]
        rw [lc_filt (List.range n) _ (fun k : Nat => decide ((k : Int) ∈ up part) || decide ((k : Int) ∈ more ++ mora)) (fun k : Nat => D.int (k : Int)) (by simp [SL]; omega) (is_rng 0 n _) (fun k _ => ⟨_, rfl, by
          unfold C5_p_law_joined
          by_cases c : (k : Int) ∈ up part <;> simp [c], fun _ => by
          unfold V6_p_law_joined
          simp⟩)]
        simp [part2, dI, up]
      · refine ⟨part2, _, _, _, _, rfl, rfl, by simp [part2]; omega, ?_, ?_⟩
        · have := List.length_filter_le (fun k : Nat => decide ((k : Int) ∈ up part) || decide ((k : Int) ∈ more ++ mora)) (List.range n)
          rw [List.length_range] at this
          exact this
        · have : (box : Int) ∈ up part := by simp [up]; exact ⟨box, p3, rfl⟩
          simp [part2, hb, this])
  refine ⟨part, ?_, p1, p2, p3⟩
  simp [e]
theorem flatten_rep (n : Nat) : (List.replicate n [D.int 0]).flatten = dI (List.replicate n 0) := by
  induction n with
  | zero => rfl
  | succ n ih => rw [List.replicate_succ, List.flatten_cons, ih]; rfl
theorem o_mulL0 (n : Nat) (S : List D) (h : n ≤ 1000) : oMulL (.lst [.int 0]) (.int n) S = .ok (.loc S.length) (S ++ [.lst (dI (List.replicate n 0))]) := by
  have e : oMul (.lst [.int 0]) (.int (n : Int)) S = .ok (.lst (dI (List.replicate n 0))) S := by
    unfold oMul
    simp only [lstOf]
    rw [if_pos ⟨by omega, by omega, by simp [SL]; omega⟩, Int.toNat_natCast, flatten_rep]
  unfold oMulL
  rw [e]
  rfl
theorem fz_flat (n k : Nat) (S : List D) (d : D) (h : d.flat = true) : fz n S (k + 1) d = some d := by
  unfold fz
  rw [if_pos h]
theorem mapM_flat (n k : Nat) (S : List D) : ∀ ds : List D, D.flats ds = true → ds.mapM (fz n S (k + 1)) = some ds
  | [], _ => rfl
  | d :: ds, h => by
    simp only [fls_cons, Bool.and_eq_true] at h
    rw [List.mapM_cons, fz_flat n k S d h.1, mapM_flat n k S ds h.2]
    rfl
theorem retF_loc {xs S : List D} (h : D.flats xs = true) (n : Nat) (hS : S[n]? = some (.lst xs)) : retF 0 (.loc n) S = .ok (.lst xs) [] := by
  unfold retF
  rw [if_pos ⟨Nat.zero_le _, rfl⟩]
  have : fz 0 S 8 (.loc n) = some (.lst xs) := by
    rw [fz]
    simp [hS]
    rw [mapM_flat 0 6 S xs h]
  rw [this]
  rfl
theorem retF_do {xs : List D} {d : D} (h : D.flats xs = true) (hd : d.flat = true) : retF 0 (.tup [.loc 0, d]) [.lst xs] = .ok (.tup [.lst xs, d]) [] := by
  unfold retF
  rw [if_pos ⟨Nat.zero_le _, rfl⟩]
  have e1 : fz 0 [.lst xs] 7 (.loc 0) = some (.lst xs) := by
    rw [fz]
    simp
    rw [mapM_flat 0 5 _ xs h]
  have : fz 0 [.lst xs] 8 (.tup [.loc 0, d]) = some (.tup [.lst xs, d]) := by
    rw [fz]
    simp [e1, fz_flat 0 6 [.lst xs] d hd]
  rw [this]
  rfl
theorem intsOf_dI : ∀ xs : List Int, intsOf (dI xs) = some xs
  | [] => rfl
  | x :: xs => by
    show (intsOf (dI xs)).map (x :: ·) = _
    rw [intsOf_dI xs]
    rfl
@[simp] theorem b_sum (xs : List Int) (S : List D) : bSum [.lst (dI xs)] S = .ok (.int xs.sum) S := by
  simp only [bSum, seqOf, intsOf_dI]
theorem do_ok {n : Nat} {ps : List Pipe} {counts : List Int} (h : ps.length ≤ 16) (hn : n ≤ 8) (hc : counts.length = n) (h0 : 0 ≤ counts.sum) (hs : counts.sum ≤ 100000) : ∃ done held, F_p_law_do [encF n ps, .lst (dI counts)] [] = .ok (.tup [.lst (dI done), .tup (dI held)]) [] ∧ done.length = n ∧ held.length = ps.length := by
  unfold F_p_law_do S_p_law_do
  rw [fn_ev 2 7 _ rfl]
  simp [some_eq n h, o_mulL0 n _ (by omega : n ≤ 1000), krng1 (show 0 ≤ counts.sum + 1 by omega) (by omega)]
  rcases rng_ret (lo := 0) (n := (counts.sum + 1).toNat) (t := Tg.nm 4) (b := B3_p_law_do) (E := [some (encF n ps), some (.lst (dI counts)), some (.tup (dI (marksT ps))), some (.loc 0), none, none, none]) (S := [.lst (dI (List.replicate n 0))])
    (fun i E S => ∃ held done x4 x5 x6, E = [some (encF n ps), some (.lst (dI counts)), some (.tup (dI held)), some (.loc 0), x4, x5, x6] ∧ S = [.lst (dI done)] ∧ held.length = ps.length ∧ done.length = n)
    (fun d S => ∃ held done, d = .tup [.loc 0, .tup (dI held)] ∧ S = [.lst (dI done)] ∧ held.length = ps.length ∧ done.length = n) ⟨_, _, none, none, none, rfl, rfl, marks_len ps, by simp⟩ (by
      rintro i E S hi ⟨held, done, x4, x5, x6, rfl, rfl, hl, hd⟩
      let fits : List Nat := (List.range n).filter fun k : Nat => decide (ik done k < ik counts k) && canT ps held k
      have e0 : ∀ x4 x5 x6, B3_p_law_do [some (encF n ps), some (.lst (dI counts)), some (.tup (dI held)), some (.loc 0), x4, x5, x6] [.lst (dI done)] = kSeq (sSeq (sIf (tV (eOp oEq (eVar 5) (eArgs bLst aNil))) (sRet (eArgs bTup (aCons (eVar 3) (aCons (eVar 2) aNil)))) sNext) (sSeq (sSet 2 (eArgs (callF F_p_law_next) (aCons (eVar 0) (aCons (eVar 2) (aCons (eOp oIx (eVar 5) (eUn oNeg (eC (.int 1)))) aNil))))) (sPut (eVar 3) (eOp oIx (eVar 5) (eUn oNeg (eC (.int 1)))) (eOp oAdd (eOp oIx (eVar 3) (eOp oIx (eVar 5) (eUn oNeg (eC (.int 1))))) (eC (.int 1)))))) (.nx [some (encF n ps), some (.lst (dI counts)), some (.tup (dI held)), some (.loc 0), x4, some (.lst (dN fits)), x6] [.lst (dI done)]) := by
        intro x4 x5 x6
        unfold B3_p_law_do
        simp [krng1n (show n < 1000000 by omega)]
        rw [lc_filt (List.range n) _ (fun k : Nat => decide (ik done k < ik counts k) && canT ps held k) (fun k : Nat => D.int (k : Int)) (by simp [SL]; omega) (is_rng 0 n _) (fun k hk => ⟨_, rfl, by
          have hk1 : k < done.length := by simp at hk; omega
          have hk2 : k < counts.length := by simp at hk; omega
          unfold C1_p_law_do
          by_cases c : ik done k < ik counts k <;> simp [at_dI hk1, at_dI hk2, c, can_eq n k h hl], fun _ => by
          unfold V2_p_law_do
          simp⟩)]
        have e1 : List.map (fun k : Nat => D.int (k : Int)) ((List.range n).filter fun k : Nat => decide (ik done k < ik counts k) && canT ps held k) = dN fits := rfl
        rw [e1]
        simp
      by_cases hf : fits = []
      · right
        refine ⟨_, _, _, rfl, ?_, held, done, rfl, rfl, hl, hd⟩
        simp only [List.set]
        rw [e0, hf]
        simp
      · left
        have hlast : fits.getLast hf ∈ fits := List.getLast_mem hf
        have hk : fits.getLast hf < n := List.mem_range.mp (List.mem_filter.mp hlast).1
        have e2 : (dN fits).getLast? = some (.int (fits.getLast hf : Nat)) := by
          simp [dN, List.getLast?_map, List.getLast?_eq_getLast hf]
        have e3 : ixOf (dI done).length ((fits.getLast hf : Nat) : Int) = some (fits.getLast hf) := ix_nat (by simp [dI]; omega)
        have e4 : fits.isEmpty = false := by cases hq : fits with | nil => exact absurd hq hf | cons _ _ => rfl
        generalize fits.getLast hf = l at *
        refine turn_nx (E2 := [some (encF n ps), some (.lst (dI counts)), some (.tup (dI (nextT ps held l))), some (.loc 0), some (.int (0 + (i : Nat))), some (.lst (dN fits)), x6]) (S2 := [.lst (dI (done.set l (ik done l + 1)))]) rfl ?_ rfl ?_
        · simp only [List.set]
          rw [e0]
          simp [e2, e3, e4, next_eq n l h hl, at_dI (show l < done.length by omega)]
          simp [dI, List.map_set]
        · exact ⟨_, _, _, _, _, rfl, rfl, nextT_len _ hl, by simp [hd]⟩) with ⟨E', S', e, held, done, x4, x5, x6, rfl, rfl, hl, hd⟩ | ⟨d, S', e, held, done, rfl, rfl, hl, hd⟩
  · refine ⟨done, held, ?_, hd, hl⟩
    simp [e]
    exact retF_do (by simp) (by simp)
  · refine ⟨done, held, ?_, hd, hl⟩
    simp [e]
    exact retF_do (by simp) (by simp)
abbrev ShL := List (Nat × Nat × Nat)
def kN (k : Nat) : Ky := .inl (k : Int)
def keysD (sh : ShL) : List Ky := sh.map fun x => kN x.1
def valsD (sh : ShL) : List D := sh.map fun x => D.tup [.int (x.2.1 : Nat), .int (x.2.2 : Nat)]
def encSh (sh : ShL) : D := .dct (keysD sh) (valsD sh)
def hasK (sh : ShL) (k : Nat) : Prop := ∃ x ∈ sh, x.1 = k
instance (sh : ShL) (k : Nat) : Decidable (hasK sh k) := inferInstanceAs (Decidable (∃ x ∈ sh, x.1 = k))
def shv (sh : ShL) (k : Nat) : Nat × Nat := match sh with
  | [] => (1, 1)
  | x :: r => if x.1 = k then x.2 else shv r k
theorem shv_mem {sh : ShL} {k : Nat} (h : hasK sh k) : (k, shv sh k) ∈ sh := by
  induction sh with
  | nil => obtain ⟨x, hx, _⟩ := h; cases hx
  | cons x r ih =>
    unfold shv
    by_cases c : x.1 = k
    · rw [if_pos c, ← c]; exact List.mem_cons_self
    · rw [if_neg c]
      obtain ⟨y, hy, e⟩ := h
      cases hy with
      | head => exact absurd e c
      | tail _ hy => exact List.mem_cons_of_mem _ (ih ⟨y, hy, e⟩)
theorem key_in (sh : ShL) (k : Nat) : keyIn (keysD sh) (.inl (k : Int)) = decide (hasK sh k) := by
  rw [Bool.eq_iff_iff]
  rw [decide_eq_true_iff]
  unfold keyIn keysD hasK
  rw [List.any_map, List.any_eq_true]
  constructor
  · rintro ⟨x, hx, e⟩
    refine ⟨x, hx, ?_⟩
    simp [kN] at e
    omega
  · rintro ⟨x, hx, e⟩
    refine ⟨x, hx, ?_⟩
    simp [kN, e]
theorem get_k {sh : ShL} {k : Nat} (h : hasK sh k) : getK (keysD sh) (valsD sh) (.inl (k : Int)) = some (.tup [.int ((shv sh k).1 : Nat), .int ((shv sh k).2 : Nat)]) := by
  induction sh with
  | nil => obtain ⟨x, hx, _⟩ := h; cases hx
  | cons x r ih =>
    show (if kN x.1 = .inl (k : Int) then some _ else getK (keysD r) (valsD r) (.inl (k : Int))) = _
    by_cases c : x.1 = k
    · rw [if_pos (by simp [kN, c])]
      simp [shv, c]
    · rw [if_neg (by simp [kN]; omega)]
      obtain ⟨y, hy, e⟩ := h
      cases hy with
      | head => exact absurd e c
      | tail _ hy => rw [ih ⟨y, hy, e⟩]; simp [shv, c]
theorem sh_in (sh : ShL) (k : Nat) (S : List D) : oIn (.int (k : Int)) (.loc 0) (encSh sh :: S) = .ok (.bl (decide (hasK sh k))) (encSh sh :: S) := by
  rw [← key_in]
  rfl
theorem sh_nin (sh : ShL) (k : Nat) (S : List D) : oNin (.int (k : Int)) (.loc 0) (encSh sh :: S) = .ok (.bl (!decide (hasK sh k))) (encSh sh :: S) := by
  rw [← key_in]
  rfl
theorem sh_ix {sh : ShL} {k : Nat} (h : hasK sh k) (S : List D) : oIx (.loc 0) (.int (k : Int)) (encSh sh :: S) = .ok (.tup [.int ((shv sh k).1 : Nat), .int ((shv sh k).2 : Nat)]) (encSh sh :: S) := by
  rw [o_ixO]
  show ixL (some (encSh sh)) _ _ = _
  unfold encSh
  rw [ixL_d, get_k h]
  rfl
theorem sh_put {sh : ShL} {k a b : Nat} (h : ¬ hasK sh k) (hl : sh.length < SL) (S : List D) : putAt (.loc 0) (.int (k : Int)) (.tup [.int (a : Nat), .int (b : Nat)]) (encSh sh :: S) = some (encSh (sh ++ [(k, a, b)]) :: S) := by
  rw [put_loc]
  show putL (some (encSh sh)) _ _ _ _ = _
  unfold putL encSh
  simp only
  have hn : keyIn (keysD sh) (.inl (k : Int)) = false := by rw [key_in]; simp [h]
  rw [if_pos (by simpa [keysD] using hl)]
  unfold putAt.putK
  rw [if_neg (by rw [hn]; simp)]
  simp [keysD, valsD, kN]
structure Sh (n : Nat) (c : Nat → Nat) (x : Nat × Nat × Nat) : Prop where
  k : x.1 < n
  p0 : 1 ≤ x.2.1
  p1 : x.2.1 ≤ 4
  q0 : 1 ≤ x.2.2
  q1 : x.2.2 ≤ 4
  b : ∃ c0, 1 ≤ c0 ∧ c0 ≤ 4 ∧ x.2.1 * c0 = x.2.2 * c x.1
theorem sh_step {n : Nat} {c : Nat → Nat} (hc : ∀ k, 1 ≤ c k ∧ c k ≤ 4) {k1 p q : Nat} (h : Sh n c (k1, p, q)) {k2 g e : Nat} (hk : k2 < n) (hg : 0 < g) (he : 0 < e) (hb : c k1 * g = c k2 * e) :
    Sh n c (k2, p * g / Nat.gcd (p * g) (q * e), q * e / Nat.gcd (p * g) (q * e)) := by
  obtain ⟨_, p0, p1, q0, q1, c0, h1, h2, h3⟩ := h
  simp only at p0 p1 q0 q1 h3
  have hpg : 0 < p * g := Nat.mul_pos p0 hg
  have hqe : 0 < q * e := Nat.mul_pos q0 he
  have hG : 0 < Nat.gcd (p * g) (q * e) := Nat.gcd_pos_of_pos_left _ hpg
  have dP := Nat.div_mul_cancel (Nat.gcd_dvd_left (p * g) (q * e))
  have dQ := Nat.div_mul_cancel (Nat.gcd_dvd_right (p * g) (q * e))
  have cop : Nat.Coprime (p * g / Nat.gcd (p * g) (q * e)) (q * e / Nat.gcd (p * g) (q * e)) := Nat.coprime_div_gcd_div_gcd hG
  generalize Nat.gcd (p * g) (q * e) = G at *
  generalize p * g / G = P at *
  generalize q * e / G = Q at *
  have hP : 0 < P := by
    rcases Nat.eq_zero_or_pos P with z | z
    · rw [z, Nat.zero_mul] at dP; omega
    · exact z
  have hQ : 0 < Q := by
    rcases Nat.eq_zero_or_pos Q with z | z
    · rw [z, Nat.zero_mul] at dQ; omega
    · exact z
  have key : P * c0 = Q * c k2 := by
    apply Nat.eq_of_mul_eq_mul_right hG
    calc P * c0 * G = (P * G) * c0 := by rw [Nat.mul_right_comm]
      _ = (p * c0) * g := by rw [dP, Nat.mul_right_comm]
      _ = q * (c k1 * g) := by rw [h3, Nat.mul_assoc]
      _ = (q * e) * c k2 := by rw [hb, Nat.mul_comm (c k2) e, Nat.mul_assoc]
      _ = Q * c k2 * G := by rw [← dQ, Nat.mul_right_comm]
  have hPd : P ∣ c k2 := cop.dvd_of_dvd_mul_left (k := P) (m := Q) (n := c k2) ⟨c0, key.symm⟩
  have hQd : Q ∣ c0 := cop.symm.dvd_of_dvd_mul_left (k := Q) (m := P) (n := c0) ⟨c k2, key⟩
  exact ⟨hk, hP, Nat.le_trans (Nat.le_of_dvd (by have := (hc k2).1; omega) hPd) (hc k2).2, hQ, Nat.le_trans (Nat.le_of_dvd (by omega) hQd) h2, c0, h1, h2, key⟩
structure BOk (n : Nat) (c : Nat → Nat) (p : Pipe) : Prop where
  ok : POk n 8 6 p
  b : (c p.s.toNat : Int) * p.g = (c p.t.toNat : Int) * p.e
/-- shares as they grow -/
structure Gr (n : Nat) (c : Nat → Nat) (sh sh' : ShL) (m : Nat) : Prop where
  ok : ∀ x ∈ sh', Sh n c x
  keep : ∀ k, hasK sh k → hasK sh' k
  len : sh'.length ≤ sh.length + m
theorem hasK_app (sh : ShL) (x : Nat × Nat × Nat) (k : Nat) : hasK (sh ++ [x]) k ↔ hasK sh k ∨ x.1 = k := by
  unfold hasK
  constructor
  · rintro ⟨y, hy, e⟩
    rcases List.mem_append.mp hy with hy | hy
    · exact .inl ⟨y, hy, e⟩
    · rw [List.mem_singleton.mp hy] at e; exact .inr e
  · rintro (⟨y, hy, e⟩ | e)
    · exact ⟨y, List.mem_append.mpr (.inl hy), e⟩
    · exact ⟨x, by simp, e⟩
theorem gr_add {n : Nat} {c : Nat → Nat} {sh : ShL} {x : Nat × Nat × Nat} (h : ∀ x ∈ sh, Sh n c x) (hx : Sh n c x) : Gr n c sh (sh ++ [x]) 1 :=
  ⟨fun y hy => by rcases List.mem_append.mp hy with hy | hy; exact h y hy; rw [List.mem_singleton.mp hy]; exact hx, fun k hk => (hasK_app sh x k).mpr (.inl hk), by simp⟩
theorem gr_refl {n : Nat} {c : Nat → Nat} {sh : ShL} (h : ∀ x ∈ sh, Sh n c x) (m : Nat) : Gr n c sh sh m := ⟨h, fun _ h => h, by omega⟩
theorem gr_tr {n : Nat} {c : Nat → Nat} {sh sh1 sh2 : ShL} {m m2 : Nat} (h : Gr n c sh sh1 m) (h2 : Gr n c sh1 sh2 m2) : Gr n c sh sh2 (m + m2) :=
  ⟨h2.ok, fun k hk => h2.keep k (h.keep k hk), by have := h.len; have := h2.len; omega⟩
theorem small4 {p : Nat} (h : p ≤ 4) : smallI (p : Int) = true := by simp [smallI]; omega
theorem if_one {n : Nat} {c : Nat → Nat} (hc : ∀ k, 1 ≤ c k ∧ c k ≤ 4) {sh : ShL} (h : ∀ x ∈ sh, Sh n c x) (hl : sh.length < SL) {k1 k2 g e : Nat} (hk : k2 < n) (hg : 0 < g) (he : 0 < e) (hg8 : g ≤ 8) (he8 : e ≤ 8) (hb : c k1 * g = c k2 * e)
    (i j u v : Nat) (E : Env) (h1 : eVar i E = fun S => .ok (.int (k1 : Int)) S) (h2 : eVar j E = fun S => .ok (.int (k2 : Int)) S) (h3 : eVar u E = fun S => .ok (.int (g : Int)) S) (h4 : eVar v E = fun S => .ok (.int (e : Int)) S) (h5 : eVar 1 E = fun S => .ok (.loc 0) S) :
    ∃ sh', sIf (tAnd (tV (eOp oIn (eVar i) (eVar 1))) (tV (eOp oNin (eVar j) (eVar 1)))) (sPut (eVar 1) (eVar j) (eArgs (callF F_p_law_ratio) (aCons (eOp oMul (eOp oIx (eOp oIx (eVar 1) (eVar i)) (eC (.int 0))) (eVar u)) (aCons (eOp oMul (eOp oIx (eOp oIx (eVar 1) (eVar i)) (eC (.int 1))) (eVar v)) aNil)))) sNext E [encSh sh] = .nx E [encSh sh'] ∧ Gr n c sh sh' 1 := by
  by_cases c1 : hasK sh k1
  · by_cases c2 : hasK sh k2
    · refine ⟨sh, ?_, gr_refl h 1⟩
      simp [h1, h2, h5, sh_in, sh_nin, c1, c2]
    · have hs := h _ (shv_mem c1)
      have hs2 := sh_step hc hs hk hg he hb
      refine ⟨_, ?_, gr_add h hs2⟩
      have m1 : ∀ S, oMul (.int ((shv sh k1).1 : Nat)) (.int (g : Int)) S = .ok (.int (((shv sh k1).1 * g : Nat) : Int)) S := fun S => by rw [o_mul (.inl (small4 hs.p1))]; simp
      have m2 : ∀ S, oMul (.int ((shv sh k1).2 : Nat)) (.int (e : Int)) S = .ok (.int (((shv sh k1).2 * e : Nat) : Int)) S := fun S => by rw [o_mul (.inl (small4 hs.q1))]; simp
      have b1 : (shv sh k1).1 * g ≤ 32 := Nat.mul_le_mul hs.p1 hg8
      have b2 : (shv sh k1).2 * e ≤ 32 := Nat.mul_le_mul hs.q1 he8
      have hr := ratio_eq ((shv sh k1).1 * g) ((shv sh k1).2 * e) (Nat.mul_pos hs.p0 hg) (by omega) (Nat.mul_pos hs.q0 he) (by omega)
      generalize ((shv sh k1).1 * g) / Nat.gcd ((shv sh k1).1 * g) ((shv sh k1).2 * e) = P at *
      generalize ((shv sh k1).2 * e) / Nat.gcd ((shv sh k1).1 * g) ((shv sh k1).2 * e) = Q at *
      have hp := fun S => sh_put (a := P) (b := Q) c2 hl S
      simp only [ev_sif, ev_tand, ev_tv, ev_op, h1, h2, h3, h4, h5, bind_ok, kop1, kop2, sh_in, sh_nin, ktv, ktand_t, c1, c2, decide_true, decide_false, Bool.not_false, tO_ok, ksif_t, ev_put, ev_args, ev_cons, ev_nil, sh_ix c1, ev_c, o_ixT, at0, at1, List.getElem?_cons_zero, List.getElem?_cons_succ, okO_s, m1, m2, kcons1, kcons2]
      rw [callI _ _ rfl, hr]
      rw [kc0 rfl]
      simp only [toO_ok, kput0, h5, h2, kput1, kput2', hp, kP_s]
  · refine ⟨sh, ?_, gr_refl h 1⟩
    simp [h1, h2, h5, sh_in, sh_nin, c1]
abbrev oD := Option D
theorem round_pipe {n : Nat} {c : Nat → Nat} (hc : ∀ k, 1 ≤ c k ∧ c k ≤ 4) {sh : ShL} (h : ∀ x ∈ sh, Sh n c x) (hl : sh.length ≤ 100000) {p : Pipe} (hp : BOk n c p) (F : D) (x2 x3 x9 x10 x11 x12 x13 : oD) :
    ∃ sh', B1_p_law_round [some F, some (.loc 0), x2, x3, some (.int p.s), some (.int p.t), some (.int p.g), some (.int p.e), some (.int p.m), x9, x10, x11, x12, x13] [encSh sh] = .nx [some F, some (.loc 0), x2, x3, some (.int p.s), some (.int p.t), some (.int p.g), some (.int p.e), some (.int p.m), x9, x10, x11, x12, x13] [encSh sh'] ∧ Gr n c sh sh' 2 := by
  obtain ⟨s, t, g, e, m⟩ := p
  obtain ⟨⟨a1, a2, a3, a4, a5, a6, a7, a8, a9, a10⟩, b⟩ := hp
  simp only at *
  obtain ⟨s, rfl⟩ := Int.eq_ofNat_of_zero_le a1
  obtain ⟨t, rfl⟩ := Int.eq_ofNat_of_zero_le a3
  obtain ⟨g, rfl⟩ := Int.eq_ofNat_of_zero_le (show 0 ≤ g by omega)
  obtain ⟨e, rfl⟩ := Int.eq_ofNat_of_zero_le (show 0 ≤ e by omega)
  have b' : c s * g = c t * e := by
    simp only [Int.toNat_natCast] at b
    exact_mod_cast b
  unfold B1_p_law_round
  obtain ⟨sh1, e1, g1⟩ := if_one hc h (by unfold SL; omega) (k1 := s) (k2 := t) (g := g) (e := e) (by omega) (by omega) (by omega) (by omega) (by omega) b' 4 5 6 7 [some F, some (.loc 0), x2, x3, some (.int s), some (.int t), some (.int g), some (.int e), some (.int m), x9, x10, x11, x12, x13] rfl rfl rfl rfl rfl
  obtain ⟨sh2, e2, g2⟩ := if_one hc g1.ok (by have := g1.len; unfold SL; omega) (k1 := t) (k2 := s) (g := e) (e := g) (by omega) (by omega) (by omega) (by omega) (by omega) b'.symm 5 4 7 6 [some F, some (.loc 0), x2, x3, some (.int s), some (.int t), some (.int g), some (.int e), some (.int m), x9, x10, x11, x12, x13] rfl rfl rfl rfl rfl
  refine ⟨sh2, ?_, gr_tr g1 g2⟩
  rw [ev_seq, e1, kseq_nx, e2]
theorem round_pipes {n : Nat} {c : Nat → Nat} (hc : ∀ k, 1 ≤ c k ∧ c k ≤ 4) {sh : ShL} (h : ∀ x ∈ sh, Sh n c x) (hl : sh.length ≤ 10000) {ps : List Pipe} (hps : ps.length ≤ 16) (hp : ∀ p ∈ ps, BOk n c p) (x2 x3 x4 x5 x6 x7 x8 x9 x10 x11 x12 x13 : oD) :
    ∃ sh' y4 y5 y6 y7 y8, B2_p_law_round [some (encF n ps), some (.loc 0), x2, x3, x4, x5, x6, x7, x8, x9, x10, x11, x12, x13] [encSh sh] = .nx [some (encF n ps), some (.loc 0), x2, x3, y4, y5, y6, y7, y8, x9, x10, x11, x12, x13] [encSh sh'] ∧ Gr n c sh sh' 32 := by
  unfold B2_p_law_round
  obtain ⟨E', S', e, sh', y4, y5, y6, y7, y8, rfl, rfl, hg⟩ := for_its ps encP (t := .tp [.nm 4, .nm 5, .nm 6, .nm 7, .nm 8]) (b := B1_p_law_round) (E := [some (encF n ps), some (.loc 0), x2, x3, x4, x5, x6, x7, x8, x9, x10, x11, x12, x13]) (S := [encSh sh])
    (fun i E S => ∃ sh' y4 y5 y6 y7 y8, E = [some (encF n ps), some (.loc 0), x2, x3, y4, y5, y6, y7, y8, x9, x10, x11, x12, x13] ∧ S = [encSh sh'] ∧ Gr n c sh sh' (2 * i)) ⟨sh, x4, x5, x6, x7, x8, rfl, rfl, gr_refl h 0⟩ (by
      rintro i E S hi ⟨sh', y4, y5, y6, y7, y8, rfl, rfl, hg⟩
      obtain ⟨sh2, e, g2⟩ := round_pipe hc hg.ok (by have := hg.len; omega) (hp ps[i] (List.getElem_mem hi)) (encF n ps) x2 x3 x9 x10 x11 x12 x13
      exact turn_nx rfl e rfl ⟨sh2, _, _, _, _, _, rfl, rfl, gr_tr hg g2⟩)
  refine ⟨sh', y4, y5, y6, y7, y8, ?_, hg.ok, hg.keep, by have := hg.len; omega⟩
  simp [e]
theorem round_box {n : Nat} {c : Nat → Nat} (hc : ∀ k, 1 ≤ c k ∧ c k ≤ 4) (hn : n ≤ 8) {sh : ShL} (h : ∀ x ∈ sh, Sh n c x) (hl : sh.length ≤ 5000) {ps : List Pipe} (hps : ps.length ≤ 16) (hp : ∀ p ∈ ps, BOk n c p) {k : Nat} (hk : k < n) (x3 x4 x5 x6 x7 x8 x9 x10 x11 x12 x13 : oD) :
    ∃ sh' y3 y4 y5 y6 y7 y8, B3_p_law_round [some (encF n ps), some (.loc 0), some (.int k), x3, x4, x5, x6, x7, x8, x9, x10, x11, x12, x13] [encSh sh] = .nx [some (encF n ps), some (.loc 0), some (.int k), y3, y4, y5, y6, y7, y8, x9, x10, x11, x12, x13] [encSh sh'] ∧ Gr n c sh sh' 300 ∧ hasK sh' k := by
  unfold B3_p_law_round
  by_cases c1 : hasK sh k
  · refine ⟨sh, x3, x4, x5, x6, x7, x8, ?_, gr_refl h 300, c1⟩
    simp [sh_nin, c1]
  · have hs : Sh n c (k, 1, 1) := ⟨hk, by simp, by simp, by simp, by simp, c k, (hc k).1, (hc k).2, rfl⟩
    have g0 := gr_add h hs
    have hk0 : hasK (sh ++ [(k, 1, 1)]) k := (hasK_app _ _ _).mpr (.inr rfl)
    have hput := sh_put (a := 1) (b := 1) c1 (show sh.length < SL by unfold SL; omega) []
    generalize sh ++ [(k, 1, 1)] = sh1 at *
    obtain ⟨E', S', e, sh', y3, y4, y5, y6, y7, y8, rfl, rfl, hg⟩ := for_rng (lo := 0) (n := n) (t := .nm 3) (b := B2_p_law_round) (E := [some (encF n ps), some (.loc 0), some (.int k), x3, x4, x5, x6, x7, x8, x9, x10, x11, x12, x13]) (S := [encSh sh1])
      (fun i E S => ∃ sh' y3 y4 y5 y6 y7 y8, E = [some (encF n ps), some (.loc 0), some (.int k), y3, y4, y5, y6, y7, y8, x9, x10, x11, x12, x13] ∧ S = [encSh sh'] ∧ Gr n c sh1 sh' (32 * i)) ⟨sh1, x3, x4, x5, x6, x7, x8, rfl, rfl, gr_refl g0.ok 0⟩ (by
        rintro i E S hi ⟨sh', y3, y4, y5, y6, y7, y8, rfl, rfl, hg⟩
        obtain ⟨sh2, z4, z5, z6, z7, z8, e, g2⟩ := round_pipes hc hg.ok (by have := hg.len; have := g0.len; omega) hps hp (some (.int k)) (some (.int (0 + (i : Nat)))) y4 y5 y6 y7 y8 x9 x10 x11 x12 x13
        exact turn_nx rfl e rfl ⟨sh2, _, _, _, _, _, _, rfl, rfl, gr_tr hg g2⟩)
    refine ⟨sh', y3, y4, y5, y6, y7, y8, ?_, ⟨hg.ok, fun j hj => hg.keep j (g0.keep j hj), by have := hg.len; have := g0.len; omega⟩, hg.keep k hk0⟩
    have hput' : putAt (D.loc 0) (D.int (k : Int)) (D.tup [D.int 1, D.int 1]) [encSh sh] = some [encSh sh1] := hput
    simp [-put_loc, sh_nin, c1, hput', krng1n (show n < 1000000 by omega), e]
theorem shares_ok {n : Nat} {c : Nat → Nat} (hc : ∀ k, 1 ≤ c k ∧ c k ≤ 4) (hn : n ≤ 8) {ps : List Pipe} (hps : ps.length ≤ 16) (hp : ∀ p ∈ ps, BOk n c p) :
    ∃ sh y2 y3 y4 y5 y6 y7 y8, forS (.rng 0 n) (.nm 2) B3_p_law_round [some (encF n ps), some (.loc 0), none, none, none, none, none, none, none, none, none, none, none, none] [encSh []] = .nx [some (encF n ps), some (.loc 0), y2, y3, y4, y5, y6, y7, y8, none, none, none, none, none] [encSh sh] ∧ (∀ x ∈ sh, Sh n c x) ∧ ∀ k, k < n → hasK sh k := by
  obtain ⟨E', S', e, sh, y2, y3, y4, y5, y6, y7, y8, rfl, rfl, h1, h2, h3⟩ := for_rng (lo := 0) (n := n) (t := .nm 2) (b := B3_p_law_round) (E := [some (encF n ps), some (.loc 0), none, none, none, none, none, none, none, none, none, none, none, none]) (S := [encSh []])
    (fun i E S => ∃ sh y2 y3 y4 y5 y6 y7 y8, E = [some (encF n ps), some (.loc 0), y2, y3, y4, y5, y6, y7, y8, none, none, none, none, none] ∧ S = [encSh sh] ∧ (∀ x ∈ sh, Sh n c x) ∧ sh.length ≤ 300 * i ∧ ∀ k, k < i → hasK sh k) ⟨[], none, none, none, none, none, none, none, rfl, rfl, by simp, by simp, by simp⟩ (by
      rintro i E S hi ⟨sh, y2, y3, y4, y5, y6, y7, y8, rfl, rfl, h1, h2, h3⟩
      obtain ⟨sh', z3, z4, z5, z6, z7, z8, e, g, hk⟩ := round_box hc hn h1 (by omega) hps hp hi y3 y4 y5 y6 y7 y8 none none none none none
      refine turn_nx rfl (E2 := [some (encF n ps), some (.loc 0), some (.int i), z3, z4, z5, z6, z7, z8, none, none, none, none, none]) (S2 := [encSh sh']) ?_ rfl ?_
      · rw [← e]; simp
      · refine ⟨sh', _, z3, z4, z5, z6, z7, z8, rfl, rfl, g.ok, by have := g.len; omega, fun k hk2 => ?_⟩
        rcases Nat.lt_or_ge k i with q | q
        · exact g.keep k (h3 k q)
        · have : k = i := by omega
          subst this; exact hk)
  exact ⟨sh, y2, y3, y4, y5, y6, y7, y8, e, h1, h3⟩
theorem up_map (part : List Nat) : dI (up part) = part.map fun k : Nat => D.int (k : Int) := by simp [dI, up]
theorem loopA {n : Nat} {c : Nat → Nat} {sh : ShL} (h : ∀ x ∈ sh, Sh n c x) (hk : ∀ k, k < n → hasK sh k) {part : List Nat} (h1 : ∀ k ∈ part, k < n) (h2 : part.length ≤ 5) (F L : D) (x2 x3 x4 x5 x6 x7 x8 x9 x10 x12 x13 : oD) :
    ∃ (below : Nat) (y : oD), forS (.its (dI (up part))) (.nm 13) B4_p_law_round [some F, some (.loc 0), x2, x3, x4, x5, x6, x7, x8, x9, x10, some (.int 1), x12, x13] [encSh sh, L] = .nx [some F, some (.loc 0), x2, x3, x4, x5, x6, x7, x8, x9, x10, some (.int (below : Nat)), x12, y] [encSh sh, L] ∧ 1 ≤ below ∧ below ≤ 1024 ∧ ∀ k ∈ part, (shv sh k).2 ∣ below := by
  rw [up_map]
  obtain ⟨E', S', e, below, y, rfl, rfl, b1, b2, b3⟩ := for_its part (fun k : Nat => D.int (k : Int)) (t := .nm 13) (b := B4_p_law_round) (E := [some F, some (.loc 0), x2, x3, x4, x5, x6, x7, x8, x9, x10, some (.int 1), x12, x13]) (S := [encSh sh, L])
    (fun i E S => ∃ (below : Nat) (y : oD), E = [some F, some (.loc 0), x2, x3, x4, x5, x6, x7, x8, x9, x10, some (.int (below : Nat)), x12, y] ∧ S = [encSh sh, L] ∧ 1 ≤ below ∧ below ≤ 4 ^ i ∧ ∀ j (hj : j < part.length), j < i → (shv sh part[j]).2 ∣ below) ⟨1, x13, rfl, rfl, by simp, by simp, by simp⟩ (by
      rintro i E S hi ⟨below, y, rfl, rfl, b1, b2, b3⟩
      have hki := hk part[i] (h1 _ (List.getElem_mem hi))
      have hs := h _ (shv_mem hki)
      have hq0 := hs.q0; have hq1 := hs.q1
      simp only at hq0 hq1
      refine turn_nx (E2 := [some F, some (.loc 0), x2, x3, x4, x5, x6, x7, x8, x9, x10, some (.int (Nat.lcm below (shv sh part[i]).2 : Nat)), x12, some (.int (part[i] : Nat))]) (S2 := [encSh sh, L]) rfl ?_ rfl ?_
      · unfold B4_p_law_round
        have hg : 0 < Nat.gcd below (shv sh part[i]).2 := Nat.gcd_pos_of_pos_left _ b1
        have hg2 : Nat.gcd below (shv sh part[i]).2 ≤ 4 := Nat.le_trans (Nat.gcd_le_right _ hq0) hq1
        have m1 : ∀ S, oMul (.int (below : Nat)) (.int ((shv sh part[i]).2 : Nat)) S = .ok (.int ((below * (shv sh part[i]).2 : Nat) : Int)) S := fun S => by rw [o_mul (.inr (small4 hq1))]; simp
        have d1 : ∀ (a : Nat) S, oDiv (.int (a : Nat)) (.int (Nat.gcd below (shv sh part[i]).2 : Nat)) S = .ok (.int ((a / Nat.gcd below (shv sh part[i]).2 : Nat) : Int)) S := fun a S => by rw [o_div (by omega) (by omega)]; simp
        simp [-o_ixO, sh_ix hki, m1, gcd_eq below (shv sh part[i]).2 (by omega)]
        simp only [← Int.natCast_mul, d1, toO_ok, kset, List.set]
        rfl
      · refine ⟨_, _, rfl, rfl, Nat.lcm_pos b1 hq0, ?_, ?_⟩
        · rw [Nat.pow_succ]
          have : Nat.lcm below (shv sh part[i]).2 ≤ below * (shv sh part[i]).2 := Nat.le_of_dvd (Nat.mul_pos b1 hq0) (Nat.lcm_dvd_mul _ _)
          exact Nat.le_trans this (Nat.mul_le_mul b2 hq1)
        · intro j hj hji
          rcases Nat.lt_or_ge j i with q | q
          · exact Nat.dvd_trans (b3 j hj q) (Nat.dvd_lcm_left _ _)
          · have : j = i := by omega
            subst this; exact Nat.dvd_lcm_right _ _)
  refine ⟨below, y, e, b1, Nat.le_trans b2 (Nat.le_trans (Nat.pow_le_pow_right (by omega) h2) (by decide)), fun k hkp => ?_⟩
  obtain ⟨j, hj, rfl⟩ := List.getElem_of_mem hkp
  exact b3 j hj hj
theorem loopB {n : Nat} {c : Nat → Nat} {sh : ShL} (h : ∀ x ∈ sh, Sh n c x) (hk : ∀ k, k < n → hasK sh k) {part : List Nat} (h1 : ∀ k ∈ part, k < n) (h2 : part ≠ []) {below : Nat} (b1 : 1 ≤ below) (b2 : below ≤ 1024) (b3 : ∀ k ∈ part, (shv sh k).2 ∣ below) (F L : D) (x2 x3 x4 x5 x6 x7 x8 x9 x10 x13 : oD) :
    ∃ (com : Nat) (y : oD), forS (.its (dI (up part))) (.nm 13) B5_p_law_round [some F, some (.loc 0), x2, x3, x4, x5, x6, x7, x8, x9, x10, some (.int (below : Nat)), some (.int 0), x13] [encSh sh, L] = .nx [some F, some (.loc 0), x2, x3, x4, x5, x6, x7, x8, x9, x10, some (.int (below : Nat)), some (.int (com : Nat)), y] [encSh sh, L] ∧ 1 ≤ com ∧ com ≤ 4096 := by
  rw [up_map]
  obtain ⟨E', S', e, com, y, rfl, rfl, c1, c2⟩ := for_its part (fun k : Nat => D.int (k : Int)) (t := .nm 13) (b := B5_p_law_round) (E := [some F, some (.loc 0), x2, x3, x4, x5, x6, x7, x8, x9, x10, some (.int (below : Nat)), some (.int 0), x13]) (S := [encSh sh, L])
    (fun i E S => ∃ (com : Nat) (y : oD), E = [some F, some (.loc 0), x2, x3, x4, x5, x6, x7, x8, x9, x10, some (.int (below : Nat)), some (.int (com : Nat)), y] ∧ S = [encSh sh, L] ∧ com ≤ 4096 ∧ (0 < i → 1 ≤ com)) ⟨0, x13, rfl, rfl, by simp, by simp⟩ (by
      rintro i E S hi ⟨com, y, rfl, rfl, c1, c2⟩
      have hm := List.getElem_mem hi
      have hki := hk part[i] (h1 _ hm)
      have hs := h _ (shv_mem hki)
      have hq0 := hs.q0; have hq1 := hs.q1; have hp0 := hs.p0; have hp1 := hs.p1
      simp only at hq0 hq1 hp0 hp1
      have hq := b3 _ hm
      generalize hpe : (shv sh part[i]).1 = p at *
      generalize hqe : (shv sh part[i]).2 = q at *
      have v1 : 0 < below * p / q := Nat.div_pos (Nat.le_trans (Nat.le_of_dvd b1 hq) (Nat.le_mul_of_pos_right _ hp0)) hq0
      have v2 : below * p / q ≤ 4096 := Nat.le_trans (Nat.div_le_self _ _) (Nat.mul_le_mul b2 hp1)
      refine turn_nx (E2 := [some F, some (.loc 0), x2, x3, x4, x5, x6, x7, x8, x9, x10, some (.int (below : Nat)), some (.int (Nat.gcd com (below * p / q) : Nat)), some (.int (part[i] : Nat))]) (S2 := [encSh sh, L]) rfl ?_ rfl ?_
      · unfold B5_p_law_round
        have m1 : ∀ S, oMul (.int (below : Nat)) (.int (p : Nat)) S = .ok (.int ((below * p : Nat) : Int)) S := fun S => by rw [o_mul (.inr (small4 hp1))]; simp
        have d1 : ∀ S, oDiv (.int ((below * p : Nat) : Int)) (.int (q : Nat)) S = .ok (.int ((below * p / q : Nat) : Int)) S := fun S => by rw [o_div (by omega) (by omega)]; simp
        have hg := gcd_eq com (below * p / q) (by omega)
        have hix : ∀ S, oIx (.loc 0) (.int (part[i] : Nat)) (encSh sh :: S) = .ok (.tup [.int (p : Nat), .int (q : Nat)]) (encSh sh :: S) := fun S => by rw [sh_ix hki, hpe, hqe]
        simp only [List.set_cons_succ, List.set_cons_zero, ev_set, ev_args, ev_cons, ev_nil, ev_op, ev_var0, ev_varS, ev_c, bind_ok, kop1, kop2, hix, o_ixT, at0, at1, List.getElem?_cons_zero, List.getElem?_cons_succ, okO_s, m1, d1, kcons1, kcons2]
        rw [callI _ _ rfl, hg, kc0 rfl]
        rfl
      · exact ⟨_, _, rfl, rfl, Nat.le_trans (Nat.gcd_le_right _ v1) v2, fun _ => Nat.gcd_pos_of_pos_right _ v1⟩)
  exact ⟨com, y, e, c2 (List.length_pos_iff.mpr h2), c1⟩
theorem foundT {n : Nat} {c : Nat → Nat} (hn : n ≤ 5) {sh : ShL} (h : ∀ x ∈ sh, Sh n c x) (hk : ∀ k, k < n → hasK sh k) {ps : List Pipe} (hps : ps.length ≤ 16) {k : Nat} (hkn : k < n) {found : List Int} (hf : found.length ≤ 10) (x3 x4 x5 x6 x7 x8 x10 x11 x12 x13 : oD) :
    ∃ (v : Nat) (y10 y11 y12 y13 : oD), B6_p_law_round [some (encF n ps), some (.loc 0), some (.int k), x3, x4, x5, x6, x7, x8, some (.loc 1), x10, x11, x12, x13] [encSh sh, .lst (dI found)] = .nx [some (encF n ps), some (.loc 0), some (.int k), x3, x4, x5, x6, x7, x8, some (.loc 1), y10, y11, y12, y13] [encSh sh, .lst (dI (found ++ [(v : Int)]))] ∧ v ≤ 4096 := by
  unfold B6_p_law_round
  obtain ⟨part, e1, p1, p2, p3⟩ := joined_ok (ps := ps) hps (show n ≤ 8 by omega) hkn
  obtain ⟨below, y, e2, b1, b2, b3⟩ := loopA h hk p1 (by omega) (encF n ps) (.lst (dI found)) (some (.int k)) x3 x4 x5 x6 x7 x8 (some (.loc 1)) (some (.lst (dI (up part)))) (some (.int 0)) x13
  obtain ⟨com, y2, e3, c1, c2⟩ := loopB h hk p1 (by intro q; rw [q] at p3; cases p3) b1 b2 b3 (encF n ps) (.lst (dI found)) (some (.int k)) x3 x4 x5 x6 x7 x8 (some (.loc 1)) (some (.lst (dI (up part)))) y
  have hki := hk k hkn
  have hs := h _ (shv_mem hki)
  have hq0 := hs.q0; have hq1 := hs.q1; have hp0 := hs.p0; have hp1 := hs.p1
  simp only at hq0 hq1 hp0 hp1
  generalize hpe : (shv sh k).1 = p at *
  generalize hqe : (shv sh k).2 = q at *
  have v2 : below * p / q / com ≤ 4096 := Nat.le_trans (Nat.div_le_self _ _) (Nat.le_trans (Nat.div_le_self _ _) (Nat.mul_le_mul b2 hp1))
  refine ⟨below * p / q / com, some (.lst (dI (up part))), some (.int (below : Nat)), some (.int (com : Nat)), y2, ?_, v2⟩
  have m1 : ∀ S, oMul (.int (below : Nat)) (.int (p : Nat)) S = .ok (.int ((below * p : Nat) : Int)) S := fun S => by rw [o_mul (.inr (small4 hp1))]; simp
  have d1 : ∀ (a : Nat) S, oDiv (.int (a : Nat)) (.int (q : Nat)) S = .ok (.int ((a / q : Nat) : Int)) S := fun a S => by rw [o_div (by omega) (by omega)]; simp
  have d2 : ∀ (a : Nat) S, oDiv (.int (a : Nat)) (.int (com : Nat)) S = .ok (.int ((a / com : Nat) : Int)) S := fun a S => by rw [o_div (by omega) (by omega)]; simp
  have hix : ∀ S, oIx (.loc 0) (.int (k : Nat)) (encSh sh :: S) = .ok (.tup [.int (p : Nat), .int (q : Nat)]) (encSh sh :: S) := fun S => by rw [sh_ix hki, hpe, hqe]
  have hfl : (dI found).length < SL := by simp [dI, SL]; omega
  have hfa : dI (found ++ [((below * p / q / com : Nat) : Int)]) = dI found ++ [.int ((below * p / q / com : Nat) : Int)] := by simp [dI]
  rw [hfa]
  simp only [ev_seq, ev_par, ev_cons, ev_args, ev_nil, ev_var0, ev_varS, ev_c, bind_ok, kcons1, kcons2, call_encF _ _ _ _ _ (show D.flats [D.int (k : Int), D.bl true] = true from rfl), e1, kc0 (show (D.lst (dI (up part))).flat = true by simp), kpar3, List.set_cons_succ, List.set_cons_zero, kseq_nx, ev_for, ev_iseq, kseqi, src_lst, kSrc_s, kfor, e2, e3]
  simp only [ev_expr, ev_meth, ev_var0, ev_varS, bind_ok]
  rw [km1o (by rfl)]
  simp only [ev_cons, ev_nil, ev_op, ev_var0, ev_varS, ev_c, bind_ok, kop1, kop2, hix, o_ixT, at0, at1, List.getElem?_cons_zero, List.getElem?_cons_succ, okO_s, m1, d1, d2, kcons1, kcons2, m_app, apL_l _ hfl, toO_ok, kexpr, List.set_cons_succ, List.set_cons_zero]
theorem round_ok {n : Nat} {c : Nat → Nat} (hc : ∀ k, 1 ≤ c k ∧ c k ≤ 4) (hn : n ≤ 5) {ps : List Pipe} (hps : ps.length ≤ 16) (hp : ∀ p ∈ ps, BOk n c p) :
    ∃ counts : List Int, F_p_law_round [encF n ps] [] = .ok (.lst (dI counts)) [] ∧ counts.length = n ∧ ∀ v ∈ counts, 0 ≤ v ∧ v ≤ 4096 := by
  unfold F_p_law_round S_p_law_round
  rw [fn_ev 1 14 _ rfl]
  obtain ⟨sh, y2, y3, y4, y5, y6, y7, y8, e1, h1, h2⟩ := shares_ok hc (by omega) hps hp
  obtain ⟨E', S', e, found, z2, z10, z11, z12, z13, rfl, rfl, f1, f2⟩ := for_rng (lo := 0) (n := n) (t := .nm 2) (b := B6_p_law_round) (E := [some (encF n ps), some (.loc 0), y2, y3, y4, y5, y6, y7, y8, some (.loc 1), none, none, none, none]) (S := [encSh sh, .lst []])
    (fun i E S => ∃ (found : List Int) (z2 z10 z11 z12 z13 : oD), E = [some (encF n ps), some (.loc 0), z2, y3, y4, y5, y6, y7, y8, some (.loc 1), z10, z11, z12, z13] ∧ S = [encSh sh, .lst (dI found)] ∧ found.length = i ∧ ∀ v ∈ found, 0 ≤ v ∧ v ≤ 4096) ⟨[], y2, none, none, none, none, rfl, rfl, rfl, by simp⟩ (by
      rintro i E S hi ⟨found, z2, z10, z11, z12, z13, rfl, rfl, f1, f2⟩
      obtain ⟨v, w10, w11, w12, w13, e, hv⟩ := foundT hn h1 h2 hps hi (show found.length ≤ 10 by omega) y3 y4 y5 y6 y7 y8 z10 z11 z12 z13
      refine turn_nx rfl (E2 := [some (encF n ps), some (.loc 0), some (.int i), y3, y4, y5, y6, y7, y8, some (.loc 1), w10, w11, w12, w13]) (S2 := [encSh sh, .lst (dI (found ++ [(v : Int)]))]) ?_ rfl ?_
      · rw [← e]; simp
      · refine ⟨found ++ [(v : Int)], _, w10, w11, w12, w13, rfl, rfl, by simp [f1], ?_⟩
        intro x hx
        rcases List.mem_append.mp hx with hx | hx
        · exact f2 x hx
        · rw [List.mem_singleton.mp hx]; omega)
  refine ⟨found, ?_, f1, f2⟩
  have e0 : ∀ E : Env, eDctL E [] = .ok (.loc 0) [encSh []] := fun _ => rfl
  simp [e0, krng1n (show n < 1000000 by omega), e1, e]
  exact retF_loc (by simp) 1 rfl
theorem pick134 (r : Row) (hp : 0 ≤ r.pos) : ∃ (v : Nat) (r' : Row), F_p_law_pick [.loc 0, .lst [.int 1, .int 3, .int 4]] [encRow r] = .ok (.int (v : Nat)) [encRow r'] ∧ 1 ≤ v ∧ v ≤ 4 ∧ 0 ≤ r'.pos := by
  obtain ⟨d, r', hd, e, hp'⟩ := pick_ok r [.int 1, .int 3, .int 4] rfl hp (by simp) (by simp)
  simp at hd
  rcases hd with rfl | rfl | rfl
  · exact ⟨1, r', e, by omega, by omega, hp'⟩
  · exact ⟨3, r', e, by omega, by omega, hp'⟩
  · exact ⟨4, r', e, by omega, by omega, hp'⟩
theorem pick112 (r : Row) (hp : 0 ≤ r.pos) : ∃ (v : Nat) (r' : Row), F_p_law_pick [.loc 0, .lst [.int 1, .int 1, .int 2]] [encRow r] = .ok (.int (v : Nat)) [encRow r'] ∧ 1 ≤ v ∧ v ≤ 2 ∧ 0 ≤ r'.pos := by
  obtain ⟨d, r', hd, e, hp'⟩ := pick_ok r [.int 1, .int 1, .int 2] rfl hp (by simp) (by simp)
  simp at hd
  rcases hd with rfl | rfl
  · exact ⟨1, r', e, by omega, by omega, hp'⟩
  · exact ⟨2, r', e, by omega, by omega, hp'⟩
theorem takenN (r : Row) (m : Nat) (hp : 0 ≤ r.pos) (h : 0 < m) (h2 : m < 1000000) : ∃ (v : Nat) (r' : Row), F_p_law_taken [.loc 0, .int (m : Nat)] [encRow r] = .ok (.int (v : Nat)) [encRow r'] ∧ v < m ∧ 0 ≤ r'.pos := by
  obtain ⟨v, r', e, h1, h3, h4⟩ := taken_ok r m hp (by omega) (by omega)
  obtain ⟨v, rfl⟩ := Int.eq_ofNat_of_zero_le h1
  exact ⟨v, r', e, by omega, h4⟩
def encPr (x : Nat × Nat) : D := .tup [.int (x.1 : Nat), .int (x.2 : Nat)]
@[simp] theorem fl_encPr (x : Nat × Nat) : (encPr x).flat = true := id rfl
@[simp] theorem flats_prs (xs : List (Nat × Nat)) : D.flats (xs.map encPr) = true := flats_map _ fl_encPr xs
theorem counts_ok {n : Nat} (hn : n ≤ 5) (r : Row) (hp : 0 ≤ r.pos) (M T W : D) (x6 x7 x8 x9 x10 x11 x12 x13 x14 : oD) :
    ∃ (cs : List Nat) (r' : Row), lcS false (.rng 0 n) [7] (.nm 7) J.tYes V1_p_law_flow [some (.loc 0), some M, some T, some (.int n), some W, some (.loc 1), x6, x7, x8, x9, x10, x11, x12, x13, x14] [encRow r, .lst []] = .ok (.lst (dN cs)) [encRow r', .lst []] ∧ cs.length = n ∧ (∀ k ∈ cs, 1 ≤ k ∧ k ≤ 4) ∧ 0 ≤ r'.pos := by
  obtain ⟨acc, S', e, r', cs, rfl, rfl, h1, h2, h3⟩ := lc_inv (src := .rng 0 n) (own := [7]) (t := .nm 7) (c := J.tYes) (e := V1_p_law_flow) (E := [some (.loc 0), some M, some T, some (.int n), some W, some (.loc 1), x6, x7, x8, x9, x10, x11, x12, x13, x14]) (S := [encRow r, .lst []]) ((List.range n).map fun i => .int (0 + (i : Nat)))
    (fun i acc S => ∃ r cs, S = [encRow r, .lst []] ∧ acc = dN cs ∧ cs.length = i ∧ (∀ k ∈ cs, 1 ≤ k ∧ k ≤ 4) ∧ 0 ≤ r.pos) (by simp [SL]; omega) ⟨r, [], rfl, rfl, rfl, by simp, hp⟩ (fun i acc S _ => is_rng 0 n S) (by
      rintro i d acc S ⟨r, cs, rfl, rfl, h1, h2, h3⟩ hd
      obtain ⟨v, r1, e1, b1, b2, q1⟩ := pick134 r h3
      obtain ⟨w, r2, e2, b3, q2⟩ := takenN r1 v q1 b1 (by omega)
      refine ⟨_, rfl, .inr ⟨_, .int ((1 + w : Nat) : Int), [encRow r2, .lst []], rfl, ?_, rfl, r2, cs ++ [1 + w], rfl, by simp [dN], by simp [h1], ?_, q2⟩⟩
      · unfold V1_p_law_flow
        simp [e1, e2]
      · intro k hk
        rcases List.mem_append.mp hk with hk | hk
        · exact h2 k hk
        · rw [List.mem_singleton.mp hk]; omega)
  exact ⟨cs, r', e, by simpa using h1, h2, h3⟩
theorem tree_ok {n : Nat} (hn : n ≤ 5) (r : Row) (hp : 0 ≤ r.pos) {w : Nat} (M T C : D) (x7 x8 x9 x10 x11 x12 x13 x14 : oD) :
    ∃ (prs : List (Nat × Nat)) (r' : Row) (y7 y8 : oD), forS (.rng 1 (n - 1)) (.nm 7) B2_p_law_flow [some (.loc 0), some M, some T, some (.int n), some (.int (w : Nat)), some (.loc 1), some C, x7, x8, x9, x10, x11, x12, x13, x14] [encRow r, .lst []] = .nx [some (.loc 0), some M, some T, some (.int n), some (.int (w : Nat)), some (.loc 1), some C, y7, y8, x9, x10, x11, x12, x13, x14] [encRow r', .lst (prs.map encPr)] ∧ prs.length ≤ 4 ∧ (∀ x ∈ prs, x.1 < n ∧ x.2 < n) ∧ 0 ≤ r'.pos := by
  obtain ⟨E', S', e, prs, r', y7, y8, rfl, rfl, h1, h2, h3⟩ := for_rng (lo := 1) (n := n - 1) (t := .nm 7) (b := B2_p_law_flow) (E := [some (.loc 0), some M, some T, some (.int n), some (.int (w : Nat)), some (.loc 1), some C, x7, x8, x9, x10, x11, x12, x13, x14]) (S := [encRow r, .lst []])
    (fun i E S => ∃ prs r' y7 y8, E = [some (.loc 0), some M, some T, some (.int n), some (.int (w : Nat)), some (.loc 1), some C, y7, y8, x9, x10, x11, x12, x13, x14] ∧ S = [encRow r', .lst (prs.map encPr)] ∧ prs.length ≤ i ∧ (∀ x ∈ prs, x.1 < n ∧ x.2 < n) ∧ 0 ≤ r'.pos) ⟨[], r, x7, x8, rfl, rfl, by simp, by simp, hp⟩ (by
      rintro i E S hi ⟨prs, r, y7, y8, rfl, rfl, h1, h2, h3⟩
      have hL : prs.length < SL := by unfold SL; omega
      have hk : (1 : Int) + (i : Nat) = ((1 + i : Nat) : Int) := by simp
      rw [hk]
      obtain ⟨v, r1, e1, b1, q1⟩ := takenN r 8 h3 (by omega) (by omega)
      have e1' : F_p_law_taken [.loc 0, .int 8] [encRow r] = .ok (.int (v : Nat)) [encRow r1] := e1
      by_cases hv : 0 < v
      · -- a pipe is laid
        have hpair : ∃ (a : Nat) (r2 : Row), a < n ∧ 0 ≤ r2.pos ∧ (∀ y8, eIf (tV (eOp oEq (eVar 4) (eC (.int 0)))) (eOp oSub (eVar 7) (eC (.int 1))) (eArgs (callF F_p_law_taken) (aCons (eVar 0) (aCons (eVar 7) aNil))) [some (.loc 0), some M, some T, some (.int n), some (.int (w : Nat)), some (.loc 1), some C, some (.int ((1 + i : Nat) : Int)), y8, x9, x10, x11, x12, x13, x14] [encRow r1, .lst (prs.map encPr)] = .ok (.int (a : Nat)) [encRow r2, .lst (prs.map encPr)]) := by
          by_cases hw : w = 0
          · refine ⟨i, r1, by omega, q1, fun y8 => ?_⟩
            subst hw
            simp
            omega
          · obtain ⟨a, r2, e2, b2, q2⟩ := takenN r1 (1 + i) q1 (by omega) (by omega)
            refine ⟨a, r2, by omega, q2, fun y8 => ?_⟩
            simp [-Int.natCast_add, hw, e2]
        obtain ⟨a, r2, ha, q2, e2⟩ := hpair
        obtain ⟨u, r3, e3, b3, q3⟩ := takenN r2 3 q2 (by omega) (by omega)
        have e3' : F_p_law_taken [.loc 0, .int 3] [encRow r2] = .ok (.int (u : Nat)) [encRow r3] := e3
        have hprs : ∀ (x : Nat × Nat), x.1 < n → x.2 < n → ∀ y ∈ prs ++ [x], y.1 < n ∧ y.2 < n := by
          intro x hx1 hx2 y hy
          rcases List.mem_append.mp hy with hy | hy
          · exact h2 y hy
          · rw [List.mem_singleton.mp hy]; exact ⟨hx1, hx2⟩
        by_cases hu : 0 < u
        · refine turn_nx (E2 := [some (.loc 0), some M, some T, some (.int n), some (.int (w : Nat)), some (.loc 1), some C, some (.int ((1 + i : Nat) : Int)), some (.tup [.int (a : Nat), .int ((1 + i : Nat) : Int)]), x9, x10, x11, x12, x13, x14]) (S2 := [encRow r3, .lst ((prs ++ [(a, 1 + i)]).map encPr)]) rfl ?_ rfl ?_
          · unfold B2_p_law_flow
            simp [-Int.natCast_add, -ev_if, e1', hv, e2]
            simp [-Int.natCast_add, e3', hu, hL, encPr]
          · exact ⟨prs ++ [(a, 1 + i)], r3, _, _, rfl, rfl, by simp; omega, hprs _ ha (by simp only; omega), q3⟩
        · refine turn_nx (E2 := [some (.loc 0), some M, some T, some (.int n), some (.int (w : Nat)), some (.loc 1), some C, some (.int ((1 + i : Nat) : Int)), some (.tup [.int (a : Nat), .int ((1 + i : Nat) : Int)]), x9, x10, x11, x12, x13, x14]) (S2 := [encRow r3, .lst ((prs ++ [(1 + i, a)]).map encPr)]) rfl ?_ rfl ?_
          · unfold B2_p_law_flow
            simp [-Int.natCast_add, -ev_if, e1', hv, e2]
            simp [-Int.natCast_add, e3', hu, hL, encPr]
          · exact ⟨prs ++ [(1 + i, a)], r3, _, _, rfl, rfl, by simp; omega, hprs _ (by simp only; omega) ha, q3⟩
      · refine turn_nx (E2 := [some (.loc 0), some M, some T, some (.int n), some (.int (w : Nat)), some (.loc 1), some C, some (.int ((1 + i : Nat) : Int)), y8, x9, x10, x11, x12, x13, x14]) (S2 := [encRow r1, .lst (prs.map encPr)]) rfl ?_ rfl ?_
        · unfold B2_p_law_flow
          simp [-Int.natCast_add, e1', hv]
        · exact ⟨prs, r1, _, _, rfl, rfl, by omega, h2, q1⟩)
  exact ⟨prs, r', y7, y8, e, by omega, h2, h3⟩
theorem more_ok {n m : Nat} (hn : n ≤ 5) (hn1 : 1 ≤ n) (hm : m ≤ 2) (r : Row) (hp : 0 ≤ r.pos) {prs : List (Nat × Nat)} (l : prs.length ≤ 4) (hb : ∀ x ∈ prs, x.1 < n ∧ x.2 < n) (M T W C : D) (x7 x8 x9 x10 x11 x12 x13 x14 : oD) :
    ∃ (prs' : List (Nat × Nat)) (r' : Row) (y9 : oD), forS (.rng 0 m) (.nm 9) B3_p_law_flow [some (.loc 0), some M, some T, some (.int n), some W, some (.loc 1), some C, x7, x8, x9, x10, x11, x12, x13, x14] [encRow r, .lst (prs.map encPr)] = .nx [some (.loc 0), some M, some T, some (.int n), some W, some (.loc 1), some C, x7, x8, y9, x10, x11, x12, x13, x14] [encRow r', .lst (prs'.map encPr)] ∧ prs'.length ≤ 6 ∧ (∀ x ∈ prs', x.1 < n ∧ x.2 < n) ∧ 0 ≤ r'.pos := by
  obtain ⟨E', S', e, prs', r', y9, rfl, rfl, h1, h2, h3⟩ := for_rng (lo := 0) (n := m) (t := .nm 9) (b := B3_p_law_flow) (E := [some (.loc 0), some M, some T, some (.int n), some W, some (.loc 1), some C, x7, x8, x9, x10, x11, x12, x13, x14]) (S := [encRow r, .lst (prs.map encPr)])
    (fun i E S => ∃ prs r' y9, E = [some (.loc 0), some M, some T, some (.int n), some W, some (.loc 1), some C, x7, x8, y9, x10, x11, x12, x13, x14] ∧ S = [encRow r', .lst (prs.map encPr)] ∧ prs.length ≤ 4 + i ∧ (∀ x ∈ prs, x.1 < n ∧ x.2 < n) ∧ 0 ≤ r'.pos) ⟨prs, r, x9, rfl, rfl, by omega, hb, hp⟩ (by
      rintro i E S hi ⟨prs, r, y9, rfl, rfl, h1, h2, h3⟩
      have hL : prs.length < SL := by unfold SL; omega
      obtain ⟨a, r1, e1, b1, q1⟩ := takenN r n h3 (by omega) (by omega)
      obtain ⟨b, r2, e2, b2, q2⟩ := takenN r1 n q1 (by omega) (by omega)
      refine turn_nx (E2 := [some (.loc 0), some M, some T, some (.int n), some W, some (.loc 1), some C, x7, x8, some (.int (0 + (i : Nat))), x10, x11, x12, x13, x14]) (S2 := [encRow r2, .lst ((prs ++ [(a, b)]).map encPr)]) rfl ?_ rfl ?_
      · unfold B3_p_law_flow
        simp [e1, e2, hL, encPr]
      · refine ⟨prs ++ [(a, b)], r2, _, rfl, rfl, by simp; omega, ?_, q2⟩
        intro x hx
        rcases List.mem_append.mp hx with hx | hx
        · exact h2 x hx
        · rw [List.mem_singleton.mp hx]; exact ⟨b1, b2⟩)
  exact ⟨prs', r', y9, e, by omega, h2, h3⟩
def cN (cs : List Nat) (k : Nat) : Nat := if h : k < cs.length then cs[k] else 1
theorem cN_ok {cs : List Nat} (h : ∀ k ∈ cs, 1 ≤ k ∧ k ≤ 4) (k : Nat) : 1 ≤ cN cs k ∧ cN cs k ≤ 4 := by
  unfold cN
  split
  · exact h _ (List.getElem_mem _)
  · omega
theorem cN_at {cs : List Nat} {k : Nat} (h : k < cs.length) (S : List D) : oIx (.lst (dN cs)) (.int (k : Nat)) S = .ok (.int (cN cs k : Nat)) S := by
  simp [dN, h, cN]
theorem laid_ok {n tp : Nat} (htp : tp ≤ 6) {cs : List Nat} (hcs : cs.length = n) (hc : ∀ k ∈ cs, 1 ≤ k ∧ k ≤ 4) (r : Row) (hp : 0 ≤ r.pos) {prs : List (Nat × Nat)} (l : prs.length ≤ 6) (hb : ∀ x ∈ prs, x.1 < n ∧ x.2 < n) (M W N : D) (x7 x8 x9 x11 x12 x13 x14 : oD) :
    ∃ (ps : List Pipe) (r' : Row) (y11 y12 y13 y14 : oD), forS (.live 1 prs.length) (.tp [.nm 11, .nm 12]) B4_p_law_flow [some (.loc 0), some M, some (.int (tp : Nat)), some N, some W, some (.loc 1), some (.lst (dN cs)), x7, x8, x9, some (.loc 2), x11, x12, x13, x14] [encRow r, .lst (prs.map encPr), .lst []] = .nx [some (.loc 0), some M, some (.int (tp : Nat)), some N, some W, some (.loc 1), some (.lst (dN cs)), x7, x8, x9, some (.loc 2), y11, y12, y13, y14] [encRow r', .lst (prs.map encPr), .lst (ps.map encP)] ∧ ps.length ≤ 6 ∧ (∀ p ∈ ps, BOk n (cN cs) p) ∧ 0 ≤ r'.pos := by
  obtain ⟨E', S', e, ps, r', y11, y12, y13, y14, rfl, rfl, h1, h2, h3⟩ := for_live prs encPr (n := 1) (t := .tp [.nm 11, .nm 12]) (b := B4_p_law_flow) (E := [some (.loc 0), some M, some (.int (tp : Nat)), some N, some W, some (.loc 1), some (.lst (dN cs)), x7, x8, x9, some (.loc 2), x11, x12, x13, x14]) (S := [encRow r, .lst (prs.map encPr), .lst []])
    (fun i E S => ∃ ps r' y11 y12 y13 y14, E = [some (.loc 0), some M, some (.int (tp : Nat)), some N, some W, some (.loc 1), some (.lst (dN cs)), x7, x8, x9, some (.loc 2), y11, y12, y13, y14] ∧ S = [encRow r', .lst (prs.map encPr), .lst (ps.map encP)] ∧ ps.length ≤ i ∧ (∀ p ∈ ps, BOk n (cN cs) p) ∧ 0 ≤ r'.pos) ⟨[], r, x11, x12, x13, x14, rfl, rfl, by simp, by simp, hp⟩ (by rintro i E S ⟨ps, r', _, _, _, _, rfl, rfl, _⟩; rfl) (by
      rintro i E S hi ⟨ps, r, y11, y12, y13, y14, rfl, rfl, h1, h2, h3⟩
      have hL : ps.length < SL := by unfold SL; omega
      obtain ⟨ha, hb'⟩ := hb prs[i] (List.getElem_mem hi)
      generalize hx : prs[i] = x at *
      obtain ⟨a, b⟩ := x
      simp only at ha hb'
      obtain ⟨v, r1, e1, b1, b2, q1⟩ := pick112 r h3
      obtain ⟨w, r2, e2, b3, q2⟩ := takenN r1 (tp + 1) q1 (by omega) (by omega)
      have e2' : F_p_law_taken [.loc 0, .int ((tp : Int) + 1)] [encRow r1] = .ok (.int (w : Nat)) [encRow r2] := e2
      obtain ⟨ca0, ca1⟩ := cN_ok hc a
      obtain ⟨cb0, cb1⟩ := cN_ok hc b
      have xa := fun S => cN_at (cs := cs) (k := a) (by omega) S
      have xb := fun S => cN_at (cs := cs) (k := b) (by omega) S
      generalize hA : cN cs a = A at *
      generalize hB : cN cs b = B at *
      have hg := gcd_eq A B (by omega)
      have gA : Nat.gcd A B ∣ A := Nat.gcd_dvd_left A B
      have gB : Nat.gcd A B ∣ B := Nat.gcd_dvd_right A B
      have g0 : 0 < Nat.gcd A B := Nat.gcd_pos_of_pos_left _ ca0
      have g1 : Nat.gcd A B ≤ 4 := Nat.le_trans (Nat.gcd_le_left _ ca0) ca1
      generalize Nat.gcd A B = G at *
      have m1 : ∀ (c : Nat) S, c ≤ 4 → oMul (.int (v : Nat)) (.int (c : Nat)) S = .ok (.int ((v * c : Nat) : Int)) S := fun c S hc => by rw [o_mul (.inr (small4 hc))]; simp
      have d1 : ∀ (c : Nat) S, oDiv (.int (c : Nat)) (.int (G : Nat)) S = .ok (.int ((c / G : Nat) : Int)) S := fun c S => by rw [o_div (by omega) (by omega)]; simp
      let p : Pipe := ⟨a, b, (v * B / G : Nat), (v * A / G : Nat), w⟩
      have vB : v * B / G ≤ 8 := Nat.le_trans (Nat.div_le_self _ _) (Nat.mul_le_mul b2 cb1)
      have vA : v * A / G ≤ 8 := Nat.le_trans (Nat.div_le_self _ _) (Nat.mul_le_mul b2 ca1)
      have vB0 : 0 < v * B / G := Nat.div_pos (Nat.le_trans (Nat.le_of_dvd cb0 gB) (Nat.le_mul_of_pos_left _ b1)) g0
      have vA0 : 0 < v * A / G := Nat.div_pos (Nat.le_trans (Nat.le_of_dvd ca0 gA) (Nat.le_mul_of_pos_left _ b1)) g0
      have bal : A * (v * B / G) = B * (v * A / G) := by
        obtain ⟨A', rfl⟩ := gA
        obtain ⟨B', rfl⟩ := gB
        rw [show v * (G * B') = G * (v * B') by rw [Nat.mul_left_comm], show v * (G * A') = G * (v * A') by rw [Nat.mul_left_comm], Nat.mul_div_cancel_left _ g0, Nat.mul_div_cancel_left _ g0]
        simp [Nat.mul_assoc, Nat.mul_comm, Nat.mul_left_comm]
      refine turn_nx (E2 := [some (.loc 0), some M, some (.int (tp : Nat)), some N, some W, some (.loc 1), some (.lst (dN cs)), x7, x8, x9, some (.loc 2), some (.int (a : Nat)), some (.int (b : Nat)), some (.int (G : Nat)), some (.int (v : Nat))]) (S2 := [encRow r2, .lst (prs.map encPr), .lst ((ps ++ [p]).map encP)]) rfl ?_ rfl ?_
      · have hpe : (ps ++ [p]).map encP = ps.map encP ++ [.tup [.int (a : Nat), .int (b : Nat), .int ((v * B / G : Nat) : Int), .int ((v * A / G : Nat) : Int), .int (w : Nat)]] := by simp [p, encP]
        rw [hpe]
        unfold B4_p_law_flow
        simp only [List.set_cons_succ, List.set_cons_zero, ev_seq, ev_set, ev_args, ev_cons, ev_nil, ev_op, ev_var0, ev_varS, ev_c, bind_ok, kop1, kop2, xa, xb, kcons1, kcons2]
        rw [callI _ _ rfl, hg, kc0 rfl]
        simp only [ev_seq, ev_set, toO_ok, kset, kseq_nx, List.set_cons_succ, List.set_cons_zero, ev_args, ev_cons, ev_nil, ev_op, ev_var0, ev_varS, ev_c, bind_ok, kop1, kop2, xa, xb, kcons1, kcons2, b_lst3]
        rw [call1' _ (encRow_flat _) rfl, e1, kc1 rfl (encRow_flat _)]
        simp only [toO_ok, kset, kseq_nx, List.set_cons_succ, List.set_cons_zero, ev_expr, ev_meth, ev_var0, ev_varS, bind_ok]
        rw [km1o (by rfl)]
        simp only [ev_args, ev_cons, ev_nil, ev_op, ev_var0, ev_varS, ev_c, bind_ok, kop1, kop2, xa, xb, kcons1, kcons2, m1 _ _ ca1, m1 _ _ cb1, d1, o_add]
        rw [call1' _ (encRow_flat _) rfl, e2', kc1 rfl (encRow_flat _)]
        simp [hL]
      · refine ⟨ps ++ [p], r2, _, _, _, _, rfl, rfl, by simp; omega, ?_, q2⟩
        intro x hx
        rcases List.mem_append.mp hx with hx | hx
        · exact h2 x hx
        · rw [List.mem_singleton.mp hx]
          refine ⟨⟨by simp only [p]; omega, by simp only [p]; omega, by simp only [p]; omega, by simp only [p]; omega, by simp only [p]; omega, by simp only [p]; omega, by simp only [p]; omega, by simp only [p]; omega, by simp only [p]; omega, by simp only [p]; omega⟩, ?_⟩
          simp only [p, Int.toNat_natCast, hA, hB]
          exact_mod_cast bal)
  exact ⟨ps, r', y11, y12, y13, y14, e, by omega, h2, h3⟩
theorem flow_ok {mo tp : Nat} (hmo : 1 ≤ mo) (hmo5 : mo ≤ 5) (htp : tp ≤ 6) (r : Row) (hp : 0 ≤ r.pos) : ∃ (n : Nat) (ps : List Pipe) (c : Nat → Nat) (r' : Row), F_p_law_flow [.loc 0, .int (mo : Nat), .int (tp : Nat)] [encRow r] = .ok (encF n ps) [encRow r'] ∧ 1 ≤ n ∧ n ≤ mo ∧ ps.length ≤ 6 ∧ (∀ k, 1 ≤ c k ∧ c k ≤ 4) ∧ (∀ p ∈ ps, BOk n c p) ∧ 0 ≤ r'.pos := by
  unfold F_p_law_flow S_p_law_flow
  rw [fn_ev 3 15 _ rfl]
  obtain ⟨v, r1, e1, b1, q1⟩ := takenN r mo hp (by omega) (by omega)
  obtain ⟨w, r2, e2, b2, q2⟩ := takenN r1 5 q1 (by omega) (by omega)
  have e1' : F_p_law_taken [.loc 0, .int (mo : Nat)] [encRow r] = .ok (.int (v : Nat)) [encRow r1] := e1
  have e2' : F_p_law_taken [.loc 0, .int 5] [encRow r1] = .ok (.int (w : Nat)) [encRow r2] := e2
  obtain ⟨cs, r3, e3, hcs, hc, q3⟩ := counts_ok (n := 1 + v) (by omega) r2 q2 (.int (mo : Nat)) (.int (tp : Nat)) (.int w) none none none none none none none none none
  obtain ⟨prs, r4, y7, y8, e4, l4, hb4, q4⟩ := tree_ok (n := 1 + v) (by omega) r3 q3 (w := w) (.int (mo : Nat)) (.int (tp : Nat)) (.lst (dN cs)) none none none none none none none none
  rw [Nat.add_sub_cancel_left] at e4
  have hm : ∃ (m : Nat) (r5 : Row), m ≤ 2 ∧ 0 ≤ r5.pos ∧ ∀ x9, eIf (tV (eOp oGt (eVar 4) (eC (.int 0)))) (eArgs (callF F_p_law_taken) (aCons (eVar 0) (aCons (eC (.int 3)) aNil))) (eC (.int 0)) [some (.loc 0), some (.int (mo : Nat)), some (.int (tp : Nat)), some (.int ((1 + v : Nat) : Int)), some (.int (w : Nat)), some (.loc 1), some (.lst (dN cs)), y7, y8, x9, none, none, none, none, none] [encRow r4, .lst (prs.map encPr)] = .ok (.int (m : Nat)) [encRow r5, .lst (prs.map encPr)] := by
    by_cases hw : 0 < w
    · obtain ⟨m, r5, e5, b5, q5⟩ := takenN r4 3 q4 (by omega) (by omega)
      have e5' : F_p_law_taken [.loc 0, .int 3] [encRow r4] = .ok (.int (m : Nat)) [encRow r5] := e5
      exact ⟨m, r5, by omega, q5, fun x9 => by simp [hw, e5']⟩
    · exact ⟨0, r4, by omega, q4, fun x9 => by simp [hw]⟩
  obtain ⟨m, r5, b5, q5, e5⟩ := hm
  obtain ⟨prs2, r6, y9, e6, l6, hb6, q6⟩ := more_ok (n := 1 + v) (m := m) (by omega) (by omega) b5 r5 q5 l4 hb4 (.int (mo : Nat)) (.int (tp : Nat)) (.int (w : Nat)) (.lst (dN cs)) y7 y8 none none none none none none
  obtain ⟨ps, r7, y11, y12, y13, y14, e7, l7, hb7, q7⟩ := laid_ok htp (n := 1 + v) hcs hc r6 q6 l6 hb6 (.int (mo : Nat)) (.int (w : Nat)) (.int ((1 + v : Nat) : Int)) y7 y8 y9 none none none none
  refine ⟨1 + v, ps, cN cs, r7, ?_, by omega, by omega, l7, cN_ok hc, hb7, q7⟩
  have hv : (1 : Int) + (v : Nat) = ((1 + v : Nat) : Int) := by simp
  have k1 : ∀ S, kRng3 (.int 1) (.int ((1 + v : Nat) : Int)) S = .ok (.rng 1 v) S := fun S => by
    rw [krng3 (by decide) (by simp [okR]; omega)]
    congr 2
    omega
  have k2 : ∀ S, kRng1 (.int ((1 + v : Nat) : Int)) S = .ok (.rng 0 (1 + v)) S := fun S => krng1n (by omega)
  have k3 : ∀ S, kRng1 (.int (m : Int)) S = .ok (.rng 0 m) S := fun S => krng1n (by omega)
  simp [-Int.natCast_add, -ev_if, e1', e2', hv, k2, e3]
  simp [-Int.natCast_add, -ev_if, k1, e4, e5, k3, e6]
  rw [src_loc (n := 1) rfl]
  simp [-Int.natCast_add, e7, encF]
theorem ix_dI {xs : List Int} {t : Int} (h0 : 0 ≤ t) (h : t.toNat < xs.length) (S : List D) : oIx (.lst (dI xs)) (.int t) S = .ok (.int (ik xs t.toNat)) S := by
  rw [o_ixLs, at_int h0, at_dI h]
  rfl
theorem withT_ok {n r m m' : Int} {ps : List Pipe} {held : List Int} (h : ∀ p ∈ ps, POk n r m p) (hh : ∀ v ∈ held, 0 ≤ v ∧ v ≤ m') : ∀ p ∈ withT ps held, POk n r m' p := by
  intro p hp
  unfold withT at hp
  induction ps generalizing held with
  | nil => simp at hp
  | cons q ps ih =>
    cases held with
    | nil => simp at hp
    | cons v held =>
      rw [List.zipWith_cons_cons] at hp
      rcases List.mem_cons.mp hp with rfl | hp
      · have hq := h q List.mem_cons_self
        have hv := hh v List.mem_cons_self
        exact ⟨hq.s0, hq.s1, hq.t0, hq.t1, hq.g0, hq.g1, hq.e0, hq.e1, hv.1, hv.2⟩
      · exact ih (fun p hp => h p (List.mem_cons_of_mem _ hp)) (fun v hv => hh v (List.mem_cons_of_mem _ hv)) hp
theorem withT_len {ps : List Pipe} {held : List Int} (h : held.length = ps.length) : (withT ps held).length = ps.length := by simp [withT, h]
theorem POk.le {n r m r' m' : Int} {p : Pipe} (h : POk n r m p) (hr : r ≤ r') (hm : m ≤ m') : POk n r' m' p :=
  ⟨h.s0, h.s1, h.t0, h.t1, h.g0, by have := h.g1; omega, h.e0, by have := h.e1; omega, h.m0, by have := h.m1; omega⟩
theorem pk_mem {ps : List Pipe} {k : Nat} (h : k < ps.length) : pk ps k ∈ ps := by
  simp only [pk, List.getD_eq_getElem?_getD, List.getElem?_eq_getElem h, Option.getD_some]
  exact List.getElem_mem h
theorem sum_le : ∀ (xs : List Int), (∀ v ∈ xs, 0 ≤ v ∧ v ≤ 4096) → 0 ≤ xs.sum ∧ xs.sum ≤ 4096 * xs.length
  | [], _ => by simp
  | x :: xs, h => by
    have h1 := h x List.mem_cons_self
    have h2 := sum_le xs (fun v hv => h v (List.mem_cons_of_mem _ hv))
    simp only [List.sum_cons, List.length_cons]
    omega
theorem cmp_dI (xs : List Int) : cmpOk (.lst (dI xs)) = true := by
  have h1 : D.cmpb (.lst (dI xs)) = true := cmpbs_map _ (fun _ => rfl) xs
  have h2 : D.depth (.lst (dI xs)) ≤ 1 := by
    have := depths_map D.int 0 (fun _ => Nat.le_refl _) xs
    show D.depths (dI xs) + 1 ≤ 1
    unfold dI
    omega
  simp [cmpOk, h1]
  omega
theorem live_turn {mo tp : Nat} {n : Nat} (hn : n ≤ 5) {ps : List Pipe} (hps : ps.length ≤ 6) {m : Int} (hm : 6 ≤ m) (hp : ∀ p ∈ ps, POk n 8 m p) {counts : List Int} (hc : counts.length = n) (hb : ∀ v ∈ counts, 0 ≤ v ∧ v ≤ 4096) (r : Row) (hr : 0 ≤ r.pos) (x5 x6 x7 x8 x9 x10 : oD) :
    ∃ (ps' : List Pipe) (r' : Row) (y6 y7 y8 y9 : oD), B3_p_law_live [some (.loc 0), some (.int (mo : Nat)), some (.int (tp : Nat)), some (encF n ps), some (.lst (dI counts)), x5, x6, x7, x8, x9, x10] [encRow r] = .nx [some (.loc 0), some (.int (mo : Nat)), some (.int (tp : Nat)), some (encF n ps'), some (.lst (dI counts)), x5, y6, y7, y8, y9, x10] [encRow r'] ∧ ps'.length = ps.length ∧ (∀ p ∈ ps', POk n 8 (m + 8) p) ∧ 0 ≤ r'.pos := by
  obtain ⟨hs0, hs1⟩ := sum_le counts hb
  obtain ⟨done, held, e1, l1, l2⟩ := do_ok (n := n) (ps := ps) (counts := counts) (by omega) (by omega) hc hs0 (by omega)
  let left : List Nat := (List.range ps.length).filter fun k => decide (ik done (pk ps k).t.toNat < ik counts (pk ps k).t.toNat) && decide (ik held k < (pk ps k).e)
  have e2 : ∀ x8, lcS false (.rng 0 ps.length) [9] (.nm 9) C1_p_law_live V2_p_law_live [some (.loc 0), some (.int (mo : Nat)), some (.int (tp : Nat)), some (encF n ps), some (.lst (dI counts)), x5, some (.lst (dI done)), some (.tup (dI held)), x8, x9, x10] [encRow r] = .ok (.lst (dN left)) [encRow r] := by
    intro x8
    rw [lc_filt (List.range ps.length) _ (fun k => decide (ik done (pk ps k).t.toNat < ik counts (pk ps k).t.toNat) && decide (ik held k < (pk ps k).e)) (fun k : Nat => D.int (k : Int)) (by simp [SL]; omega) (is_rng 0 ps.length _) (fun k hk => ⟨_, rfl, by
      have hk' : k < ps.length := by simpa using hk
      have hpk := hp _ (pk_mem hk')
      have ht0 := hpk.t0; have ht1 := hpk.t1
      have i1 := fun S => ix_dI (xs := done) ht0 (by omega) S
      have i2 := fun S => ix_dI (xs := counts) ht0 (by omega) S
      unfold C1_p_law_live
      by_cases c : ik done (pk ps k).t.toNat < ik counts (pk ps k).t.toNat <;> simp [-o_ixLs, at_P hk', i1, i2, c, at_dI (show k < held.length by omega)], fun _ => by
      unfold V2_p_law_live
      simp⟩)]
    rfl
  have hd : (dI held).length = ps.length := by simp [dI, l2]
  have hll : left.length ≤ (List.range ps.length).length := List.length_filter_le _ _
  rw [List.length_range] at hll
  by_cases hf : left = []
  · refine ⟨ps, r, some (.lst (dI done)), some (.tup (dI held)), some (.lst (dN left)), x9, ?_, rfl, fun p h => (hp p h).le (by omega) (by omega), hr⟩
    unfold B3_p_law_live
    simp [e1, hd, krng1n (show ps.length < 1000000 by omega), e2, hf]
  · obtain ⟨d, r', hd2, e3, q3⟩ := pick_ok r (dN left) (by simp) hr (by simp [dN]; exact List.length_pos_iff.mpr hf) (by simp only [dN, List.length_map]; omega)
    simp only [dN, List.mem_map] at hd2
    obtain ⟨k, hk, rfl⟩ := hd2
    have hk' : k < ps.length := List.mem_range.mp (List.mem_filter.mp hk).1
    have hpk := hp _ (pk_mem hk')
    let new : List Int := (marksT ps).take k ++ [(pk ps k).m + (pk ps k).e] ++ (marksT ps).drop (k + 1)
    have lm : (marksT ps).length = ps.length := marks_len ps
    have hnew : new.length = ps.length := by simp [new, lm]; omega
    have hmk : ∀ v ∈ marksT ps, 0 ≤ v ∧ v ≤ m := by
      intro v hv
      simp only [marksT, List.mem_map] at hv
      obtain ⟨p, hp', rfl⟩ := hv
      exact ⟨(hp p hp').m0, (hp p hp').m1⟩
    have hnv : ∀ v ∈ new, 0 ≤ v ∧ v ≤ m + 8 := by
      intro v hv
      rcases List.mem_append.mp hv with hv | hv
      · rcases List.mem_append.mp hv with hv | hv
        · have := hmk v (List.mem_of_mem_take hv); omega
        · rw [List.mem_singleton.mp hv]
          have := hpk.m0; have := hpk.m1; have := hpk.e0; have := hpk.e1; omega
      · have := hmk v (List.mem_of_mem_drop hv); omega
    have hfe : left.isEmpty = false := by cases hq : left with | nil => exact absurd hq hf | cons _ _ => rfl
    refine ⟨withT ps new, r', some (.lst (dI done)), some (.tup (dI held)), some (.lst (dN left)), some (.int (k : Nat)), ?_, withT_len hnew, withT_ok hp hnv, q3⟩
    have hdn : dI new = (dI (marksT ps)).take k ++ [.int ((pk ps k).m + (pk ps k).e)] ++ (dI (marksT ps)).drop (k + 1) := by simp [new, dI]
    have hw := with_eq n (ps := ps) (by omega) hnew
    have hcf : ∀ xs : List D, cutOf xs (some ((k : Int) + 1)) none = xs.drop (k + 1) := fun xs => by have := cut_from (xs := xs) (k + 1); simpa using this
    have hld : (dI (marksT ps)).length = ps.length := by simp [dI, lm]
    unfold B3_p_law_live
    simp [e1, hd, krng1n (show ps.length < 1000000 by omega), e2, hfe, e3]
    simp [some_eq n (show ps.length ≤ 16 by omega), cut_to, at_P hk']
    rw [o_addT (by simp [SL]; omega)]
    simp [some_eq n (show ps.length ≤ 16 by omega), hcf]
    rw [o_addT (by simp [SL]; omega)]
    simp only [List.append_assoc] at hdn
    simp only [bind_ok, kcons1, ev_nil, kcons2, List.append_assoc, ← hdn]
    simp [hw]
@[simp] theorem o_neL (xs ys : List Int) (S : List D) : oNe (.lst (dI xs)) (.lst (dI ys)) S = .ok (.bl (!D.eqB (.lst (dI xs)) (.lst (dI ys)))) S := by
  rw [o_ne (x := .lst (dI xs)) (y := .lst (dI ys)) (cmp_dI xs) (cmp_dI ys)]
  rfl
theorem ik_ok {xs : List Int} {lo hi : Int} (h : ∀ v ∈ xs, lo ≤ v ∧ v ≤ hi) {k : Nat} (hk : k < xs.length) : lo ≤ ik xs k ∧ ik xs k ≤ hi := by
  have : ik xs k = xs[k] := by simp [ik, hk]
  rw [this]
  exact h _ (List.getElem_mem hk)
theorem live_ok {mo tp : Nat} (hmo : 1 ≤ mo) (hmo5 : mo ≤ 5) (htp : tp ≤ 6) (r : Row) (hr : 0 ≤ r.pos) : ∃ (n : Nat) (ps : List Pipe) (r' : Row), F_p_law_live [.loc 0, .int (mo : Nat), .int (tp : Nat)] [encRow r] = .ok (encF n ps) [encRow r'] ∧ 1 ≤ n ∧ n ≤ mo ∧ ps.length ≤ 6 ∧ (∀ p ∈ ps, POk n 8 40000 p) ∧ 0 ≤ r'.pos := by
  unfold F_p_law_live S_p_law_live
  rw [fn_ev 3 11 _ rfl]
  obtain ⟨n, ps, c, r1, e1, n1, n5m, lp, hc, hb, q1⟩ := flow_ok hmo hmo5 htp r hr
  have n5 : n ≤ 5 := by omega
  obtain ⟨counts, e2, lc, hcn⟩ := round_ok hc n5 (ps := ps) (by omega) hb
  obtain ⟨hs0, hs1⟩ := sum_le counts hcn
  obtain ⟨E', S', e3, ps2, r2, y5, y6, y7, y8, y9, rfl, rfl, l2, hp2, q2⟩ := for_rng (lo := 0) (n := 40) (t := .nm 5) (b := B3_p_law_live) (E := [some (.loc 0), some (.int (mo : Nat)), some (.int (tp : Nat)), some (encF n ps), some (.lst (dI counts)), none, none, none, none, none, none]) (S := [encRow r1])
    (fun i E S => ∃ (ps2 : List Pipe) (r2 : Row) (y5 y6 y7 y8 y9 : oD), E = [some (.loc 0), some (.int (mo : Nat)), some (.int (tp : Nat)), some (encF n ps2), some (.lst (dI counts)), y5, y6, y7, y8, y9, none] ∧ S = [encRow r2] ∧ ps2.length = ps.length ∧ (∀ p ∈ ps2, POk n 8 (6 + 8 * (i : Nat)) p) ∧ 0 ≤ r2.pos) ⟨ps, r1, none, none, none, none, none, rfl, rfl, rfl, fun p h => (hb p h).ok.le (by omega) (by omega), q1⟩ (by
      rintro i E S hi ⟨ps2, r2, y5, y6, y7, y8, y9, rfl, rfl, l2, hp2, q2⟩
      obtain ⟨ps3, r3, z6, z7, z8, z9, e, l3, hp3, q3⟩ := live_turn (mo := mo) (tp := tp) (n := n) n5 (ps := ps2) (by omega) (m := 6 + 8 * (i : Nat)) (by omega) hp2 lc hcn r2 q2 (some (.int (0 + (i : Nat)))) y6 y7 y8 y9 none
      exact turn_nx rfl e rfl ⟨ps3, r3, _, z6, z7, z8, z9, rfl, rfl, by omega, fun p h => (hp3 p h).le (by omega) (by omega), q3⟩)
  obtain ⟨done, held, e4, l4, l5⟩ := do_ok (n := n) (ps := ps2) (counts := counts) (by omega) (by omega) lc hs0 (by omega)
  have k40 : ∀ S, kRng1 (.int 40) S = .ok (.rng 0 40) S := fun S => rfl
  by_cases hq : D.eqB (.lst (dI done)) (.lst (dI counts)) = true
  · refine ⟨n, ps2, r2, ?_, n1, n5m, by omega, fun p h => (hp2 p h).le (by omega) (by omega), q2⟩
    simp [e1, e2, k40, e3, e4, hq]
  · rw [Bool.not_eq_true] at hq
    let held2 : List Int := ps2.map fun p => p.e * ik counts p.t.toNat
    have hl2 : held2.length = ps2.length := by simp [held2]
    have hh2 : ∀ v ∈ held2, 0 ≤ v ∧ v ≤ 40000 := by
      intro v hv
      simp only [held2, List.mem_map] at hv
      obtain ⟨p, hp, rfl⟩ := hv
      have hpk := hp2 p hp
      have ht0 := hpk.t0; have ht1 := hpk.t1; have he0 := hpk.e0; have he1 := hpk.e1
      obtain ⟨k0, k1⟩ := ik_ok hcn (k := p.t.toNat) (by omega)
      refine ⟨Int.mul_nonneg (by omega) k0, ?_⟩
      calc p.e * ik counts p.t.toNat ≤ 8 * 4096 := Int.mul_le_mul he1 k1 k0 (by omega)
        _ ≤ 40000 := by omega
    refine ⟨n, withT ps2 held2, r2, ?_, n1, n5m, by rw [withT_len hl2]; omega, withT_ok hp2 hh2, q2⟩
    have hw := with_eq n (ps := ps2) (by omega) hl2
    have e5 : ∀ E : Env, lcS false (.its (ps2.map encP)) [10] (.nm 10) J.tYes V4_p_law_live [some (.loc 0), some (.int (mo : Nat)), some (.int (tp : Nat)), some (encF n ps2), some (.lst (dI counts)), y5, y6, y7, y8, y9, none] [encRow r2] = .ok (.lst (dI held2)) [encRow r2] := by
      intro E
      rw [lc_true ps2 encP (fun p => D.int (p.e * ik counts p.t.toNat)) (smallL (by omega)) (is_its _ _) (fun p hp => ⟨_, rfl, rfl, by
        have hpk := hp2 p hp
        have ht0 := hpk.t0; have ht1 := hpk.t1; have he0 := hpk.e0; have he1 := hpk.e1
        have i2 := fun S => ix_dI (xs := counts) ht0 (by omega) S
        have sm : smallI p.e = true := by simp [smallI]; omega
        unfold V4_p_law_live
        simp [-o_ixLs, i2, o_mul (.inl sm)]⟩)]
      simp [held2, dI]
    simp [e1, e2, k40, e3, e4, hq, e5 [], hw]
theorem can_iff {ps : List Pipe} {held : List Int} {b : Int} : canT ps held b = true ↔ ∀ k, k < ps.length → (pk ps k).t = b → (pk ps k).e ≤ ik held k := by
  unfold canT shortT
  rw [List.isEmpty_iff, List.filter_eq_nil_iff]
  constructor
  · intro h k hk ht
    have := h k (List.mem_range.mpr hk)
    simp [ht] at this
    exact this
  · intro h k hk
    have := h k (List.mem_range.mp hk)
    simp
    exact this
theorem ik_mem {xs : List Int} {v : Int} (h : v ∈ xs) : ∃ k, k < xs.length ∧ ik xs k = v := by
  obtain ⟨k, hk, rfl⟩ := List.getElem_of_mem h
  exact ⟨k, hk, by simp [ik, hk]⟩
theorem next_ok {n m : Int} {ps : List Pipe} {held : List Int} {b : Int} (hl : held.length = ps.length) (hp : ∀ p ∈ ps, 0 ≤ p.g ∧ p.g ≤ 8 ∧ 0 ≤ p.e) (hh : ∀ v ∈ held, 0 ≤ v ∧ v ≤ m) (hc : canT ps held b = true) : ∀ v ∈ nextT ps held b, 0 ≤ v ∧ v ≤ m + 8 := by
  intro v hv
  obtain ⟨k, hk, rfl⟩ := ik_mem hv
  rw [nextT_len b hl] at hk
  rw [nextT_at hl hk]
  have h1 := hp _ (pk_mem hk)
  have h2 := ik_ok hh (k := k) (by omega)
  have h3 := can_iff.mp hc k hk
  by_cases c1 : (pk ps k).t = b <;> by_cases c2 : (pk ps k).s = b <;> simp [c1, c2] <;> (try have h4 := h3 c1) <;> omega
theorem marks_with {ps : List Pipe} {h : List Int} (hl : h.length = ps.length) : marksT (withT ps h) = h := by
  unfold marksT withT
  rw [List.map_zipWith]
  apply List.ext_getElem
  · simp [hl]
  · intro i h1 h2
    simp
theorem pk_with {ps : List Pipe} {h : List Int} (hl : h.length = ps.length) {k : Nat} (hk : k < ps.length) : (pk (withT ps h) k).s = (pk ps k).s ∧ (pk (withT ps h) k).t = (pk ps k).t ∧ (pk (withT ps h) k).g = (pk ps k).g ∧ (pk (withT ps h) k).e = (pk ps k).e := by
  have h2 : k < h.length := by omega
  simp [pk, withT, hk, h2, List.getElem?_zipWith]
theorem can_with {ps : List Pipe} {h held : List Int} (hl : h.length = ps.length) (b : Int) : canT (withT ps h) held b = canT ps held b := by
  rw [Bool.eq_iff_iff, can_iff, can_iff, withT_len hl]
  constructor
  · intro q k hk ht
    have := pk_with hl hk
    rw [← this.2.2.2]
    exact q k hk (by rw [this.2.1]; exact ht)
  · intro q k hk ht
    have := pk_with hl hk
    rw [this.2.2.2]
    exact q k hk (by rw [← this.2.1]; exact ht)
theorem next_comm (ps : List Pipe) (h : List Int) (a b : Int) : nextT ps (nextT ps h a) b = nextT ps (nextT ps h b) a := by
  unfold nextT
  induction ps generalizing h with
  | nil => rfl
  | cons p ps ih =>
    cases h with
    | nil => rfl
    | cons v h =>
      simp only [List.zipWith_cons_cons]
      rw [ih h]
      congr 1
      generalize (if p.t = a then p.e else 0) = x
      generalize (if p.s = a then p.g else 0) = y
      generalize (if p.t = b then p.e else 0) = z
      generalize (if p.s = b then p.g else 0) = w
      omega
theorem can_after {ps : List Pipe} {h : List Int} {a b : Int} (hl : h.length = ps.length) (hp : ∀ p ∈ ps, 0 ≤ p.g) (hab : b ≠ a) (hb : canT ps h b = true) : canT ps (nextT ps h a) b = true := by
  rw [can_iff] at hb ⊢
  intro k hk ht
  have h1 := hb k hk ht
  have h2 := hp _ (pk_mem hk)
  rw [nextT_at hl hk, if_neg (by rw [ht]; exact hab)]
  split <;> omega
theorem eqBs_map {α : Type} (e : α → D) (h : ∀ a, D.eqB (e a) (e a) = true) : ∀ xs : List α, D.eqBs (xs.map e) (xs.map e) = true
  | [] => rfl
  | x :: xs => by
    show ((e x).eqB (e x) && D.eqBs (xs.map e) (xs.map e)) = true
    simp [h, eqBs_map e h xs]
theorem eqB_P (p : Pipe) : D.eqB (encP p) (encP p) = true := by
  simp [encP, D.eqB, D.eqBs]
theorem eqB_F (n : Int) (ps : List Pipe) : D.eqB (encF n ps) (encF n ps) = true := by
  show ((n == n) && (D.eqBs (ps.map encP) (ps.map encP) && true)) = true
  simp [eqBs_map encP eqB_P ps]
theorem cmp_F (n : Int) (ps : List Pipe) : cmpOk (encF n ps) = true := by
  have h1 : D.cmpb (encF n ps) = true := by
    show (true && (D.cmpbs (ps.map encP) && true)) = true
    simp [cmpbs_map encP (fun _ => rfl) ps]
  have h2 : D.depth (encF n ps) ≤ 4 := by
    have := depths_map encP 1 (fun _ => by show max 0 (max 0 (max 0 (max 0 (max 0 0)))) + 1 ≤ 1; simp) ps
    show max 0 (max (D.depths (ps.map encP) + 1) 0) + 1 ≤ 4
    omega
  simp [cmpOk, h1]
  omega
@[simp] theorem o_neF (n : Int) (ps : List Pipe) (S : List D) : oNe (encF n ps) (encF n ps) S = .ok (.bl false) S := by
  rw [o_ne (x := encF n ps) (y := encF n ps) (cmp_F n ps) (cmp_F n ps)]
  show R.ok (D.bl (!D.eqB (encF n ps) (encF n ps))) S = _
  rw [eqB_F]
  rfl
@[simp] theorem o_ne00 (S : List D) : oNe (.lst []) (.lst []) S = .ok (.bl false) S := id rfl
@[simp] theorem o_neB (a b : Bool) (S : List D) : oNe (.bl a) (.bl b) S = .ok (.bl (!(a == b))) S := by cases a <;> cases b <;> rfl
theorem cmp_tN (ks : List Nat) : cmpOk (.tup (dN ks)) = true := by
  have h1 : D.cmpb (.tup (dN ks)) = true := cmpbs_map _ (fun _ => rfl) ks
  have h2 : D.depth (.tup (dN ks)) ≤ 1 := by
    have := depths_map (fun k : Nat => D.int (k : Int)) 0 (fun _ => Nat.le_refl _) ks
    show D.depths (dN ks) + 1 ≤ 1
    unfold dN
    omega
  simp [cmpOk, h1]
  omega
@[simp] theorem o_eqT0 (ks : List Nat) (S : List D) : oEq (.tup (dN ks)) (.tup []) S = .ok (.bl ks.isEmpty) S := by
  rw [o_eq (x := .tup (dN ks)) (y := .tup []) (cmp_tN ks) (cmp_tN [])]
  simp only [seen]
  cases ks <;> rfl
theorem mem_up {k : Nat} {ks : List Nat} : (k : Int) ∈ up ks ↔ k ∈ ks := by
  unfold up
  rw [List.mem_map]
  constructor
  · rintro ⟨j, hj, e⟩
    have : j = k := by omega
    rwa [← this]
  · exact fun h => ⟨k, h, rfl⟩
@[simp] theorem o_inN (k : Nat) (ks : List Nat) (S : List D) : oIn (.int (k : Nat)) (.tup (dN ks)) S = .ok (.bl (decide (k ∈ ks))) S := by
  rw [dN_up, o_inT, decide_eq_decide.mpr mem_up]
@[simp] theorem o_ninN (k : Nat) (ks : List Nat) (S : List D) : oNin (.int (k : Nat)) (.tup (dN ks)) S = .ok (.bl (!decide (k ∈ ks))) S := by
  rw [dN_up, o_ninT, decide_eq_decide.mpr mem_up]
theorem dN_app (xs ys : List Nat) : dN xs ++ dN ys = dN (xs ++ ys) := by simp [dN]
theorem mem_fire {n : Nat} {ps : List Pipe} {h : List Int} {k : Nat} : k ∈ fireT n ps h ↔ k < n ∧ canT ps h k = true := by
  unfold fireT
  rw [List.mem_filter, List.mem_range]
  simp
structure QOk (n : Nat) (q : List Pipe) (m : Int) : Prop where
  n1 : 1 ≤ n
  n5 : n ≤ 5
  l : q.length ≤ 6
  ok : ∀ p ∈ q, POk n 8 m p
theorem QOk.f {n : Nat} {q : List Pipe} {m : Int} (h : QOk n q m) (hm : m ≤ 99999) : FOk n q :=
  ⟨by have := h.n1; omega, by have := h.n5; omega, by have := h.l; omega, fun p hp => (h.ok p hp).le (by omega) hm⟩
theorem QOk.g {n : Nat} {q : List Pipe} {m : Int} (h : QOk n q m) : ∀ p ∈ q, 0 ≤ p.g ∧ p.g ≤ 8 ∧ 0 ≤ p.e := fun p hp => by
  have x := h.ok p hp
  have x1 := x.g0; have x2 := x.g1; have x3 := x.e0
  omega
theorem QOk.marks {n : Nat} {q : List Pipe} {m : Int} (h : QOk n q m) : ∀ v ∈ marksT q, 0 ≤ v ∧ v ≤ m := by
  intro v hv
  simp only [marksT, List.mem_map] at hv
  obtain ⟨p, hp, rfl⟩ := hv
  exact ⟨(h.ok p hp).m0, (h.ok p hp).m1⟩
theorem QOk.fire {n : Nat} {q : List Pipe} {m : Int} (h : QOk n q m) {b : Int} (hb : canT q (marksT q) b = true) : QOk n (withT q (nextT q (marksT q) b)) (m + 8) := by
  have hl := nextT_len b (marks_len q)
  exact ⟨h.n1, h.n5, by rw [withT_len hl]; exact h.l, withT_ok h.ok (next_ok (n := 0) (marks_len q) h.g h.marks hb)⟩
theorem fold_ok {n : Nat} {q : List Pipe} {m : Int} (h : QOk n q m) {word : List Int} (hw : WOk n q (marksT q) word) : ∀ i, i ≤ word.length → ∀ v ∈ stT q (marksT q) word i, 0 ≤ v ∧ v ≤ m + 8 * (i : Nat) := by
  intro i
  induction i with
  | zero => intro _ v hv; have := h.marks v hv; omega
  | succ i ih =>
    intro hi v hv
    rw [stT_succ _ _ (show i < word.length by omega)] at hv
    have := next_ok (n := 0) (stT_len (marks_len q) word i) h.g (ih (by omega)) (hw.can i (by omega)) v hv
    omega
theorem QOk.run {n : Nat} {q : List Pipe} {m : Int} (h : QOk n q m) {word : List Int} (hw : WOk n q (marksT q) word) (hl : word.length ≤ 8) : QOk n (withT q (runT q word)) (m + 64) := by
  have e : runT q word = stT q (marksT q) word word.length := by simp [runT, stT]
  have hl2 := stT_len (marks_len q) word word.length
  rw [e]
  refine ⟨h.n1, h.n5, by rw [withT_len hl2]; exact h.l, withT_ok h.ok (fun v hv => ?_)⟩
  have := fold_ok h hw word.length (Nat.le_refl _) v hv
  omega
theorem two_ok {n : Nat} {q : List Pipe} {m : Int} (h : QOk n q m) {a b : Nat} (ha : a < n) (hb : b < n) (hab : b ≠ a) (ca : canT q (marksT q) a = true) (cb : canT q (marksT q) b = true) : WOk n q (marksT q) [(a : Int), (b : Int)] := by
  refine ⟨by simp, ?_, ?_⟩
  · intro x hx
    simp at hx
    rcases hx with rfl | rfl <;> omega
  · intro i hi
    simp at hi
    have : i = 0 ∨ i = 1 := by omega
    rcases this with rfl | rfl
    · simpa [stT] using ca
    · have := can_after (marks_len q) (fun p hp => (h.g p hp).1) (show (b : Int) ≠ (a : Int) by omega) cb
      simpa [stT] using this
instance : Inhabited Pipe := ⟨⟨0, 0, 0, 0, 0⟩⟩
instance (sh : ShL) (k : Nat) : Decidable (hasK sh k) := inferInstanceAs (Decidable (∃ x ∈ sh, x.1 = k))
theorem ik_set {c : List Int} {k : Nat} (h : k < c.length) (v : Int) (j : Nat) : ik (c.set k v) j = if j = k then v else ik c j := by
  unfold ik
  rw [List.getD_eq_getElem?_getD, List.getD_eq_getElem?_getD, List.getElem?_set]
  by_cases e : k = j
  · subst e; simp [h]
  · have : ¬ j = k := fun z => e z.symm
    simp [e, this]
theorem ik_ext {n : Nat} {c d : List Int} (hc : c.length = n) (hd : d.length = n) (h : ∀ k, k < n → ik c k = ik d k) : c = d := by
  apply List.ext_getElem
  · omega
  · intro i h1 h2
    have := h i (by omega)
    simpa [ik, h1, h2] using this
def leftT (ps : List Pipe) (c : List Int) : List Int := ps.map fun p => p.m + p.g * ik c p.s.toNat - p.e * ik c p.t.toNat
theorem left_len (ps : List Pipe) (c : List Int) : (leftT ps c).length = ps.length := by simp [leftT]
theorem left_at {ps : List Pipe} {c : List Int} {k : Nat} (h : k < ps.length) : ik (leftT ps c) k = (pk ps k).m + (pk ps k).g * ik c (pk ps k).s.toNat - (pk ps k).e * ik c (pk ps k).t.toNat := by
  simp [ik, leftT, pk, h]
structure PWf (n : Nat) (p : Pipe) : Prop where
  s0 : 0 ≤ p.s
  s1 : p.s < n
  t0 : 0 ≤ p.t
  t1 : p.t < n
  g0 : 1 ≤ p.g
  e0 : 1 ≤ p.e
  m0 : 0 ≤ p.m
theorem QOk.wf {n : Nat} {q : List Pipe} {m : Int} (h : QOk n q m) : ∀ p ∈ q, PWf n p := fun p hp => by
  have := h.ok p hp
  exact ⟨this.s0, this.s1, this.t0, this.t1, this.g0, this.e0, this.m0⟩
theorem ik_rep (n k : Nat) : ik (List.replicate n 0) k = 0 := by
  unfold ik
  rw [List.getD_eq_getElem?_getD, List.getElem?_replicate]
  split <;> rfl
theorem left_zero (ps : List Pipe) (n : Nat) : leftT ps (List.replicate n 0) = marksT ps := by
  unfold leftT marksT
  refine List.map_congr_left fun p _ => ?_
  rw [ik_rep, ik_rep]
  simp
theorem left_add {n : Nat} {ps : List Pipe} (hw : ∀ p ∈ ps, PWf n p) {c : List Int} (hc : c.length = n) {b : Nat} (hb : b < n) (v : Int) {k : Nat} (hk : k < ps.length) :
    ik (leftT ps (c.set b (ik c b + v))) k = ik (leftT ps c) k - (if (pk ps k).t = (b : Int) then v * (pk ps k).e else 0) + (if (pk ps k).s = (b : Int) then v * (pk ps k).g else 0) := by
  have w := hw _ (pk_mem hk)
  have h1 := w.s0; have h2 := w.t0
  rw [left_at hk, left_at hk, ik_set (by omega), ik_set (by omega)]
  have q1 : ((pk ps k).s.toNat = b) ↔ (pk ps k).s = (b : Int) := by omega
  have q2 : ((pk ps k).t.toNat = b) ↔ (pk ps k).t = (b : Int) := by omega
  by_cases c1 : (pk ps k).s = (b : Int) <;> by_cases c2 : (pk ps k).t = (b : Int)
  · rw [if_pos (q1.mpr c1), if_pos (q2.mpr c2), if_pos c1, if_pos c2, q1.mpr c1, q2.mpr c2, Int.mul_add, Int.mul_add, Int.mul_comm v, Int.mul_comm v]; omega
  · rw [if_pos (q1.mpr c1), if_neg (fun z => c2 (q2.mp z)), if_pos c1, if_neg c2, q1.mpr c1, Int.mul_add, Int.mul_comm v]; omega
  · rw [if_neg (fun z => c1 (q1.mp z)), if_pos (q2.mpr c2), if_neg c1, if_pos c2, q2.mpr c2, Int.mul_add, Int.mul_comm v]; omega
  · rw [if_neg (fun z => c1 (q1.mp z)), if_neg (fun z => c2 (q2.mp z)), if_neg c1, if_neg c2]; omega
theorem left_step {n : Nat} {ps : List Pipe} (hw : ∀ p ∈ ps, PWf n p) {c : List Int} (hc : c.length = n) {b : Nat} (hb : b < n) : leftT ps (c.set b (ik c b + 1)) = nextT ps (leftT ps c) b := by
  refine ik_ext (n := ps.length) (left_len _ _) (nextT_len _ (left_len _ _)) fun k hk => ?_
  rw [left_add hw hc hb 1 hk, nextT_at (left_len _ _) hk]
  simp
inductive Rch (n : Nat) (ps : List Pipe) : List Int → Prop where
  | zero : Rch n ps (List.replicate n 0)
  | step {c : List Int} {b : Nat} : Rch n ps c → b < n → canT ps (leftT ps c) b = true → Rch n ps (c.set b (ik c b + 1))
theorem Rch.len {n : Nat} {ps : List Pipe} {c : List Int} (h : Rch n ps c) : c.length = n := by
  induction h with
  | zero => simp
  | step _ _ _ ih => simpa using ih
theorem Rch.nn {n : Nat} {ps : List Pipe} {c : List Int} (h : Rch n ps c) : ∀ k, 0 ≤ ik c k := by
  induction h with
  | zero => intro k; rw [ik_rep]; exact Int.le_refl _
  | @step c b h1 hb _ ih =>
    intro k
    rw [ik_set (by rw [h1.len]; exact hb)]
    have := ih k
    have := ih b
    split <;> omega
theorem Rch.left {n : Nat} {ps : List Pipe} (hw : ∀ p ∈ ps, PWf n p) {c : List Int} (h : Rch n ps c) : ∀ k, k < ps.length → 0 ≤ ik (leftT ps c) k := by
  induction h with
  | zero =>
    intro k hk
    rw [left_zero]
    have := (hw _ (pk_mem hk)).m0
    simpa [ik, marksT, pk, hk] using this
  | step h1 hb hcan ih =>
    intro k hk
    rw [left_add hw h1.len hb 1 hk]
    have w := hw _ (pk_mem hk)
    have h2 := ih k hk
    have h3 := can_iff.mp hcan k hk
    have := w.g0
    split
    · rename_i c1
      have := h3 c1
      split <;> omega
    · split <;> omega
/-- counts that can be done, at most these, and no more of them -/
structure Best (n : Nat) (ps : List Pipe) (cs d : List Int) : Prop where
  rch : Rch n ps d
  le : ∀ k, k < n → ik d k ≤ ik cs k
  stuck : ∀ k : Nat, k < n → ik d k < ik cs k → canT ps (leftT ps d) k = false
theorem Best.ge {n : Nat} {ps : List Pipe} (hw : ∀ p ∈ ps, PWf n p) {cs d c : List Int} (B : Best n ps cs d) (h : Rch n ps c) : (∀ k, k < n → ik c k ≤ ik cs k) → ∀ k, k < n → ik c k ≤ ik d k := by
  induction h with
  | zero => intro _ k _; rw [ik_rep]; exact B.rch.nn k
  | @step c b h1 hb hcan ih =>
    intro hle k hk
    have hl := h1.len
    have hle' : ∀ j, j < n → ik c j ≤ ik cs j := fun j hj => by
      have := hle j hj
      rw [ik_set (by omega)] at this
      split at this
      · rename_i e; subst e; omega
      · exact this
    have ihc := ih hle'
    rw [ik_set (by omega)]
    split
    · rename_i e
      subst e
      have hb1 := ihc k hk
      have hb2 := hle k hk
      rw [ik_set (by omega), if_pos rfl] at hb2
      rcases Int.lt_or_lt_of_ne (show ik c k ≠ ik d k from fun q => by
        have st := B.stuck k hk (by omega)
        have : canT ps (leftT ps d) k = true := by
          rw [can_iff]
          intro j hj ht
          have w := hw _ (pk_mem hj)
          have h3 := can_iff.mp hcan j hj ht
          rw [left_at hj] at h3 ⊢
          have e1 : (pk ps j).t.toNat = k := by omega
          rw [e1] at h3 ⊢
          have h4 := ihc (pk ps j).s.toNat (by have := w.s0; have := w.s1; omega)
          have h5 : (pk ps j).g * ik c (pk ps j).s.toNat ≤ (pk ps j).g * ik d (pk ps j).s.toNat := Int.mul_le_mul_of_nonneg_left h4 (by have := w.g0; omega)
          rw [← q]
          omega
        rw [this] at st
        cases st) with q | q <;> omega
    · exact ihc k hk
theorem Best.uniq {n : Nat} {ps : List Pipe} (hw : ∀ p ∈ ps, PWf n p) {cs d d' : List Int} (B : Best n ps cs d) (B' : Best n ps cs d') : d = d' :=
  ik_ext B.rch.len B'.rch.len fun k hk => Int.le_antisymm (B'.ge hw B.rch B.le k hk) (B.ge hw B'.rch B'.le k hk)
theorem Best.self {n : Nat} {ps : List Pipe} (hw : ∀ p ∈ ps, PWf n p) {c d : List Int} (h : Rch n ps c) (B : Best n ps c d) : d = c :=
  ik_ext B.rch.len h.len fun k hk => Int.le_antisymm (B.le k hk) (B.ge hw h (fun _ _ => Int.le_refl _) k hk)
/-- a box so often in a row -/
def rowC (ps : List Pipe) (h : List Int) (b : Nat) (j : Int) : Prop := ∀ k, k < ps.length → (pk ps k).t = (b : Int) → (pk ps k).e ≤ ik h k - j * (if (pk ps k).s = (pk ps k).t then (pk ps k).e - (pk ps k).g else (pk ps k).e)
theorem rowC_can {n : Nat} {ps : List Pipe} (hw : ∀ p ∈ ps, PWf n p) {c : List Int} (hc : c.length = n) {b : Nat} (hb : b < n) (j : Int) : canT ps (leftT ps (c.set b (ik c b + j))) b = true ↔ rowC ps (leftT ps c) b j := by
  rw [can_iff]
  refine forall_congr' fun k => ?_
  refine imp_congr_right fun hk => ?_
  refine imp_congr_right fun ht => ?_
  rw [left_add hw hc hb j hk, if_pos ht, ht]
  by_cases q : (pk ps k).s = (b : Int)
  · rw [if_pos q, if_pos q, Int.mul_sub]; omega
  · rw [if_neg q, if_neg q]; omega
theorem Rch.row {n : Nat} {ps : List Pipe} (hw : ∀ p ∈ ps, PWf n p) {c : List Int} (h : Rch n ps c) {b : Nat} (hb : b < n) : ∀ v : Nat, (∀ j : Int, 0 ≤ j → j < v → rowC ps (leftT ps c) b j) → Rch n ps (c.set b (ik c b + v))
  | 0, _ => by
    have hl := h.len
    have : c.set b (ik c b + ((0 : Nat) : Int)) = c := by
      refine ik_ext (n := n) (by simpa using hl) hl fun k hk => ?_
      rw [ik_set (by omega)]
      split
      · rename_i e; subst e; simp
      · rfl
    rw [this]; exact h
  | v + 1, hj => by
    have hl := h.len
    have ih := h.row hw hb v fun j h0 h1 => hj j h0 (by omega)
    have := ih.step hb ((rowC_can hw hl hb (v : Int)).mpr (hj v (by omega) (by omega)))
    rw [ik_set (by omega), if_pos rfl, List.set_set] at this
    have e : ik c b + ((v + 1 : Nat) : Int) = ik c b + v + 1 := by omega
    rw [e]
    exact this
def lossP (p : Pipe) : Int := if p.s = p.t then p.e - p.g else p.e
def rowsD (f : Nat → List Nat) (n : Nat) : D := .lst ((List.range n).map fun b : Nat => .lst (dN (f b)))
def locsD (n : Nat) : List D := (List.range n).map fun j : Nat => D.loc j
theorem locs_at {n x : Nat} (h : x < n) : (locsD n)[x]? = some (.loc x) := by simp [locsD, h]
theorem lstOf_loc {S : List D} {n : Nat} {xs : List D} (h : S[n]? = some (.lst xs)) : lstOf S (.loc n) = some xs := by simp [lstOf, h]
theorem fz_locs {S : List D} : ∀ (ls : List Nat) (f : Nat → List D), (∀ j, j ∈ ls → S[j]? = some (.lst (f j)) ∧ D.flats (f j) = true) → (ls.map D.loc).mapM (fz 0 S 7) = some (ls.map fun j => D.lst (f j))
  | [], _, _ => rfl
  | j :: ls, f, h => by
    obtain ⟨h1, h2⟩ := h j List.mem_cons_self
    rw [List.map_cons, List.mapM_cons, fz_locs ls f fun i hi => h i (List.mem_cons_of_mem _ hi)]
    have e : fz 0 S 7 (.loc j) = some (.lst (f j)) := by
      unfold fz
      rw [if_neg (by simp [D.flat])]
      simp only [Nat.not_lt_zero, if_false, h1]
      rw [mapM_flat 0 5 S (f j) h2]
      rfl
    rw [e]
    rfl
theorem retF_locs {S : List D} {n : Nat} (f : Nat → List D) (h : ∀ j, j < n → S[j]? = some (.lst (f j)) ∧ D.flats (f j) = true) : retF 0 (.lst (locsD n)) S = .ok (.lst ((List.range n).map fun j => .lst (f j))) [] := by
  unfold retF
  rw [if_pos ⟨Nat.zero_le _, by simp⟩]
  have e : fz 0 S 8 (.lst (locsD n)) = some (.lst ((List.range n).map fun j => .lst (f j))) := by
    unfold fz
    cases n with
    | zero => rfl
    | succ n =>
      rw [if_neg (by simp [D.flat, locsD, List.range_succ_eq_map, D.flats])]
      simp only
      unfold locsD
      rw [fz_locs (List.range (n + 1)) f fun j hj => h j (List.mem_range.mp hj)]
      rfl
  rw [e]
  rfl
def updL (f : Nat → Int → Int) (ks : List Nat) (h : List Int) : List Int := ks.foldl (fun h k => h.set k (f k (ik h k))) h
theorem updL_len (f : Nat → Int → Int) : ∀ (ks : List Nat) (h : List Int), (updL f ks h).length = h.length
  | [], _ => rfl
  | k :: ks, h => by
    show (updL f ks (h.set k (f k (ik h k)))).length = _
    rw [updL_len f ks]
    simp
theorem updL_succ (f : Nat → Int → Int) {ks : List Nat} (h : List Int) {i : Nat} (hi : i < ks.length) : updL f (ks.take (i + 1)) h = (updL f (ks.take i) h).set ks[i] (f ks[i] (ik (updL f (ks.take i) h) ks[i])) := by
  unfold updL
  rw [← List.take_append_getElem hi, List.foldl_append]
  rfl
theorem updL_at (f : Nat → Int → Int) : ∀ (ks : List Nat) (h : List Int), ks.Nodup → (∀ k ∈ ks, k < h.length) → ∀ j, ik (updL f ks h) j = if j ∈ ks then f j (ik h j) else ik h j
  | [], h, _, _, j => by simp [updL]
  | k :: ks, h, nd, hb, j => by
    show ik (updL f ks (h.set k (f k (ik h k)))) j = _
    rw [List.nodup_cons] at nd
    rw [updL_at f ks _ nd.2 (fun i hi => by simpa using hb i (List.mem_cons_of_mem _ hi)), ik_set (hb k List.mem_cons_self)]
    by_cases e : j = k
    · subst e
      simp [nd.1]
    · simp [e]
theorem nodup_filter (n : Nat) (p : Nat → Bool) : ((List.range n).filter p).Nodup := List.Pairwise.sublist List.filter_sublist List.nodup_range
theorem sum_set : ∀ {c : List Int} {b : Nat} (h : b < c.length) (v : Int), (c.set b (ik c b + v)).sum = c.sum + v
  | x :: c, 0, _, v => by
    show (x + v) + c.sum = (x + c.sum) + v
    omega
  | x :: c, b + 1, h, v => by
    have := sum_set (c := c) (b := b) (by simpa using h) v
    have e : ik (x :: c) (b + 1) = ik c b := rfl
    rw [e]
    show x + (c.set b (ik c b + v)).sum = (x + c.sum) + v
    omega
theorem sum_mono : ∀ {c d : List Int}, c.length = d.length → (∀ k, k < c.length → ik c k ≤ ik d k) → c.sum ≤ d.sum
  | [], [], _, _ => Int.le_refl _
  | x :: c, y :: d, hl, h => by
    have h0 : x ≤ y := h 0 (by simp)
    have := sum_mono (c := c) (d := d) (by simpa using hl) fun k hk => h (k + 1) (by simpa using hk)
    show x + c.sum ≤ y + d.sum
    omega
theorem ik_over {c : List Int} {k : Nat} (h : c.length ≤ k) : ik c k = 0 := by
  unfold ik
  rw [List.getD_eq_getElem?_getD, List.getElem?_eq_none h]
  rfl
theorem left_upd {n : Nat} {ps : List Pipe} (hw : ∀ p ∈ ps, PWf n p) {c : List Int} (hc : c.length = n) {b : Nat} (hb : b < n) (v : Int) :
    updL (fun k h => h + v * (pk ps k).g) (outT ps b) (updL (fun k h => h - v * (pk ps k).e) (intoT ps b) (leftT ps c)) = leftT ps (c.set b (ik c b + v)) := by
  have hl := left_len ps c
  have m1 : ∀ k, k ∈ intoT ps b ↔ k < ps.length ∧ (pk ps k).t = (b : Int) := fun k => by simp [intoT]
  have m2 : ∀ k, k ∈ outT ps b ↔ k < ps.length ∧ (pk ps k).s = (b : Int) := fun k => by simp [outT]
  refine ik_ext (n := ps.length) (by rw [updL_len, updL_len, hl]) (left_len _ _) fun k hk => ?_
  have nd1 : (intoT ps b).Nodup := nodup_filter _ _
  have nd2 : (outT ps b).Nodup := nodup_filter _ _
  rw [updL_at _ _ _ nd2 (fun j hj => by rw [updL_len, hl]; exact ((m2 j).mp hj).1), updL_at _ _ _ nd1 (fun j hj => by rw [hl]; exact ((m1 j).mp hj).1), left_add hw hc hb v hk]
  by_cases c1 : (pk ps k).s = (b : Int) <;> by_cases c2 : (pk ps k).t = (b : Int)
  · rw [if_pos ((m2 k).mpr ⟨hk, c1⟩), if_pos ((m1 k).mpr ⟨hk, c2⟩), if_pos c1, if_pos c2]
  · rw [if_pos ((m2 k).mpr ⟨hk, c1⟩), if_neg (fun z => c2 ((m1 k).mp z).2), if_pos c1, if_neg c2]; omega
  · rw [if_neg (fun z => c1 ((m2 k).mp z).2), if_pos ((m1 k).mpr ⟨hk, c2⟩), if_neg c1, if_pos c2]; omega
  · rw [if_neg (fun z => c1 ((m2 k).mp z).2), if_neg (fun z => c2 ((m1 k).mp z).2), if_neg c1, if_neg c2]; omega
theorem rows_at {f : Nat → List Nat} {n b : Nat} (h : b < n) (S : List D) : oIx (rowsD f n) (.int (b : Nat)) S = .ok (.lst (dN (f b))) S := by
  unfold rowsD
  simp [at_int (show (0 : Int) ≤ (b : Nat) by omega), h]
/-- what holds ahead of a turn -/
structure MI_ (n : Nat) (ps : List Pipe) (cs d : List Int) (wt : List Nat) (m : Nat) : Prop where
  rch : Rch n ps d
  le : ∀ k, k < n → ik d k ≤ ik cs k
  wn : ∀ k ∈ wt, k < n
  st : ∀ k : Nat, k < n → k ∉ wt → ik d k < ik cs k → canT ps (leftT ps d) k = false
  m1 : m = 20 * (cs.sum - d.sum).toNat + wt.length
  m2 : m < 500000
structure FP (n : Nat) (ps : List Pipe) : Prop where
  l : ps.length ≤ 16
  n8 : n ≤ 8
  ok : ∀ p ∈ ps, PWf n p
  big : ∀ p ∈ ps, p.g ≤ 999999 ∧ p.e ≤ 999999
theorem flat_rowsD (f : Nat → List Nat) (n : Nat) : (rowsD f n).flat = true := by
  show D.flats ((List.range n).map fun b : Nat => D.lst (dN (f b))) = true
  exact flats_map _ (fun b => by show D.flats (dN (f b)) = true; simp) _
theorem QOk.fp {n : Nat} {q : List Pipe} {m : Int} (h : QOk n q m) : FP n q := ⟨by have := h.l; omega, by have := h.n5; omega, h.wf, fun p hp => by have := h.ok p hp; have := this.g1; have := (h.ok p hp).e1; omega⟩
theorem cmp_tI (xs : List Int) : cmpOk (.tup (dI xs)) = true := by
  have := cmp_dI xs
  simp only [cmpOk, Bool.and_eq_true, decide_eq_true_eq] at this ⊢
  exact this
theorem eqBs_dI : ∀ (xs ys : List Int), D.eqBs (dI xs) (dI ys) = decide (xs = ys)
  | [], [] => rfl
  | [], _ :: _ => rfl
  | _ :: _, [] => rfl
  | x :: xs, y :: ys => by
    show ((x == y) && D.eqBs (dI xs) (dI ys)) = _
    rw [eqBs_dI xs ys]
    by_cases h : x = y
    · subst h; simp
    · simp [h]
@[simp] theorem o_eqTI (xs ys : List Int) (S : List D) : oEq (.tup (dI xs)) (.tup (dI ys)) S = .ok (.bl (decide (xs = ys))) S := by
  rw [o_eq (x := .tup (dI xs)) (y := .tup (dI ys)) (cmp_tI xs) (cmp_tI ys)]
  simp only [seen]
  rw [show D.eqB (.tup (dI xs)) (.tup (dI ys)) = D.eqBs (dI xs) (dI ys) from rfl, eqBs_dI]
@[simp] theorem o_neTI (xs ys : List Int) (S : List D) : oNe (.tup (dI xs)) (.tup (dI ys)) S = .ok (.bl (!decide (xs = ys))) S := by
  rw [o_ne (x := .tup (dI xs)) (y := .tup (dI ys)) (cmp_tI xs) (cmp_tI ys)]
  simp only [seen]
  rw [show D.eqB (.tup (dI xs)) (.tup (dI ys)) = D.eqBs (dI xs) (dI ys) from rfl, eqBs_dI]
@[simp] theorem o_neLI (xs ys : List Int) (S : List D) : oNe (.lst (dI xs)) (.lst (dI ys)) S = .ok (.bl (!decide (xs = ys))) S := by
  rw [o_ne (x := .lst (dI xs)) (y := .lst (dI ys)) (cmp_dI xs) (cmp_dI ys)]
  simp only [seen]
  rw [show D.eqB (.lst (dI xs)) (.lst (dI ys)) = D.eqBs (dI xs) (dI ys) from rfl, eqBs_dI]
/-- counts as they may be passed -/
structure COk (n : Nat) (cs : List Int) : Prop where
  l : cs.length = n
  b : ∀ k, k < n → 0 ≤ ik cs k ∧ ik cs k ≤ 200
theorem COk.sum {n : Nat} {cs : List Int} (h : COk n cs) : 0 ≤ cs.sum ∧ cs.sum ≤ 200 * n := by
  obtain ⟨l, b⟩ := h
  induction cs generalizing n with
  | nil => simp; omega
  | cons c cs ih =>
    cases n with
    | zero => simp at l
    | succ n =>
      have h0 := b 0 (by omega)
      have := ih (n := n) (by simpa using l) fun k hk => b (k + 1) (by omega)
      have e : ik (c :: cs) 0 = c := rfl
      rw [e] at h0
      rw [List.sum_cons]
      omega
theorem ix_tI {xs : List Int} {t : Int} (h0 : 0 ≤ t) (h : t.toNat < xs.length) (S : List D) : oIx (.tup (dI xs)) (.int t) S = .ok (.int (ik xs t.toNat)) S := by
  simp [at_int h0, at_dI h]
@[simp] theorem b_sumT (xs : List Int) (S : List D) : bSum [.tup (dI xs)] S = .ok (.int xs.sum) S := by
  simp only [bSum, seqOf, intsOf_dI]
theorem sum_rep (n : Nat) : (List.replicate n (0 : Int)).sum = 0 := by
  induction n with
  | zero => rfl
  | succ n ih => rw [List.replicate_succ, List.sum_cons]; omega
theorem do_best {n : Nat} {ps : List Pipe} (F : FP n ps) {cs : List Int} (hc : COk n cs) : ∃ d, F_p_law_do [encF n ps, .tup (dI cs)] [] = .ok (.tup [.lst (dI d), .tup (dI (leftT ps d))]) [] ∧ Best n ps cs d := by
  unfold F_p_law_do S_p_law_do
  rw [fn_ev 2 7 _ rfl]
  have hs := hc.sum
  have hn := F.n8
  have h := F.l
  have hcl := hc.l
  simp [some_eq n h, o_mulL0 n _ (by omega : n ≤ 1000), krng1 (show 0 ≤ cs.sum + 1 by omega) (by omega)]
  rcases rng_ret (lo := 0) (n := (cs.sum + 1).toNat) (t := Tg.nm 4) (b := B3_p_law_do) (E := [some (encF n ps), some (.tup (dI cs)), some (.tup (dI (marksT ps))), some (.loc 0), none, none, none]) (S := [.lst (dI (List.replicate n 0))])
    (fun i E S => ∃ done x4 x5 x6, E = [some (encF n ps), some (.tup (dI cs)), some (.tup (dI (leftT ps done))), some (.loc 0), x4, x5, x6] ∧ S = [.lst (dI done)] ∧ Rch n ps done ∧ (∀ k, k < n → ik done k ≤ ik cs k) ∧ done.sum = i)
    (fun d S => ∃ done, d = .tup [.loc 0, .tup (dI (leftT ps done))] ∧ S = [.lst (dI done)] ∧ Best n ps cs done) ⟨List.replicate n 0, none, none, none, by rw [left_zero], rfl, .zero, fun k hk => by rw [ik_rep]; exact (hc.b k hk).1, by rw [sum_rep]; rfl⟩ (by
      rintro i E S hi ⟨done, x4, x5, x6, rfl, rfl, hr, hle, hsum⟩
      have hd := hr.len
      have hl := left_len ps done
      let fits : List Nat := (List.range n).filter fun k : Nat => decide (ik done k < ik cs k) && canT ps (leftT ps done) k
      have e0 : ∀ x4 x5 x6, B3_p_law_do [some (encF n ps), some (.tup (dI cs)), some (.tup (dI (leftT ps done))), some (.loc 0), x4, x5, x6] [.lst (dI done)] = kSeq (sSeq (sIf (tV (eOp oEq (eVar 5) (eArgs bLst aNil))) (sRet (eArgs bTup (aCons (eVar 3) (aCons (eVar 2) aNil)))) sNext) (sSeq (sSet 2 (eArgs (callF F_p_law_next) (aCons (eVar 0) (aCons (eVar 2) (aCons (eOp oIx (eVar 5) (eUn oNeg (eC (.int 1)))) aNil))))) (sPut (eVar 3) (eOp oIx (eVar 5) (eUn oNeg (eC (.int 1)))) (eOp oAdd (eOp oIx (eVar 3) (eOp oIx (eVar 5) (eUn oNeg (eC (.int 1))))) (eC (.int 1)))))) (.nx [some (encF n ps), some (.tup (dI cs)), some (.tup (dI (leftT ps done))), some (.loc 0), x4, some (.lst (dN fits)), x6] [.lst (dI done)]) := by
        intro x4 x5 x6
        unfold B3_p_law_do
        simp [krng1n (show n < 1000000 by omega)]
        rw [lc_filt (List.range n) _ (fun k : Nat => decide (ik done k < ik cs k) && canT ps (leftT ps done) k) (fun k : Nat => D.int (k : Int)) (by simp [SL]; omega) (is_rng 0 n _) (fun k hk => ⟨_, rfl, by
          have hk1 : k < done.length := by simp at hk; omega
          have hk2 : k < cs.length := by simp at hk; omega
          unfold C1_p_law_do
          by_cases c : ik done k < ik cs k <;> simp [at_dI hk1, at_dI hk2, c, can_eq n k h hl], fun _ => by
          unfold V2_p_law_do
          simp⟩)]
        have e1 : List.map (fun k : Nat => D.int (k : Int)) ((List.range n).filter fun k : Nat => decide (ik done k < ik cs k) && canT ps (leftT ps done) k) = dN fits := rfl
        rw [e1]
        simp
      by_cases hf : fits = []
      · right
        refine ⟨_, _, _, rfl, ?_, done, rfl, rfl, hr, hle, fun k hk hlt => ?_⟩
        · simp only [List.set]
          rw [e0, hf]
          simp
        · have := List.filter_eq_nil_iff.mp hf k (List.mem_range.mpr hk)
          simpa [hlt] using this
      · left
        have hlast : fits.getLast hf ∈ fits := List.getLast_mem hf
        have hk : fits.getLast hf < n := List.mem_range.mp (List.mem_filter.mp hlast).1
        have hcond := (List.mem_filter.mp hlast).2
        have e2 : (dN fits).getLast? = some (.int (fits.getLast hf : Nat)) := by
          simp [dN, List.getLast?_map, List.getLast?_eq_getLast hf]
        have e3 : ixOf (dI done).length ((fits.getLast hf : Nat) : Int) = some (fits.getLast hf) := ix_nat (by simp [dI]; omega)
        have e4 : fits.isEmpty = false := by cases hq : fits with | nil => exact absurd hq hf | cons _ _ => rfl
        generalize fits.getLast hf = l at *
        rw [Bool.and_eq_true, decide_eq_true_eq] at hcond
        refine turn_nx (E2 := [some (encF n ps), some (.tup (dI cs)), some (.tup (dI (leftT ps (done.set l (ik done l + 1))))), some (.loc 0), some (.int (0 + (i : Nat))), some (.lst (dN fits)), x6]) (S2 := [.lst (dI (done.set l (ik done l + 1)))]) rfl ?_ rfl ?_
        · simp only [List.set]
          rw [e0, left_step F.ok hd hk]
          simp [e2, e3, e4, next_eq n l h hl, at_dI (show l < done.length by omega)]
          simp [dI, List.map_set]
        · refine ⟨_, _, _, _, rfl, rfl, hr.step hk hcond.2, fun k hkn => ?_, ?_⟩
          · rw [ik_set (by omega)]
            split
            · rename_i q; subst q; omega
            · exact hle k hkn
          · rw [sum_set (by omega), hsum]; simp) with ⟨E', S', e, done, x4, x5, x6, rfl, rfl, hr, hle, hsum⟩ | ⟨d, S', e, done, rfl, rfl, hB⟩
  · have := sum_mono (c := done) (d := cs) (by rw [hr.len, hcl]) fun k hk => hle k (by rw [← hr.len]; exact hk)
    omega
  · refine ⟨done, ?_, hB⟩
    simp [e]
    exact retF_do (by simp) (by simp)
def maxL (n : Nat) (x y : List Int) : List Int := (List.range n).map fun k => if ik y k > ik x k then ik y k else ik x k
def minL (n : Nat) (x y : List Int) : List Int := (List.range n).map fun k => if ik y k < ik x k then ik y k else ik x k
theorem ik_map {n k : Nat} (f : Nat → Int) (h : k < n) : ik ((List.range n).map f) k = f k := by simp [ik, h]
theorem Best.cok {n : Nat} {ps : List Pipe} {cs d : List Int} (hc : COk n cs) (B : Best n ps cs d) : COk n d :=
  ⟨B.rch.len, fun k hk => ⟨B.rch.nn k, by have := B.le k hk; have := (hc.b k hk).2; omega⟩⟩
theorem maxL_ok {n : Nat} {x y : List Int} (hx : COk n x) (hy : COk n y) : COk n (maxL n x y) := ⟨by simp [maxL], fun k hk => by
  have := hx.b k hk; have := hy.b k hk
  unfold maxL
  rw [ik_map _ hk]
  split <;> omega⟩
theorem minL_ok {n : Nat} {x y : List Int} (hx : COk n x) (hy : COk n y) : COk n (minL n x y) := ⟨by simp [minL], fun k hk => by
  have := hx.b k hk; have := hy.b k hk
  unfold minL
  rw [ik_map _ hk]
  split <;> omega⟩
theorem ix_tN {xs : List Int} {k : Nat} (h : k < xs.length) (S : List D) : oIx (.tup (dI xs)) (.int (k : Nat)) S = .ok (.int (ik xs k)) S := by
  simp [at_dI h]
theorem min0 {xs : List Int} (h : ∀ v ∈ xs, 0 ≤ v) (S : List D) : bMin1 [.tup (.int 0 :: dI xs)] S = .ok (.int 0) S := by
  have e : intsOf (.int 0 :: dI xs) = some (0 :: xs) := intsOf_dI (0 :: xs)
  unfold bMin1
  simp only [seqOf, e]
  congr 2
  have : ∀ (ys : List Int), (∀ v ∈ ys, 0 ≤ v) → ys.foldl (fun a y => if y < a then y else a) 0 = 0 := by
    intro ys
    induction ys with
    | nil => intro _; rfl
    | cons y ys ih =>
      intro hy
      rw [List.foldl_cons, if_neg (by have := hy y List.mem_cons_self; omega)]
      exact ih fun v hv => hy v (List.mem_cons_of_mem _ hv)
  exact this xs h
theorem eqB_LI (xs ys : List Int) : D.eqB (.lst (dI xs)) (.lst (dI ys)) = decide (xs = ys) := eqBs_dI xs ys
theorem eqB_TI (xs ys : List Int) : D.eqB (.tup (dI xs)) (.tup (dI ys)) = decide (xs = ys) := eqBs_dI xs ys
theorem o_eqBB (a b : Bool) (S : List D) : oEq (.bl a) (.bl b) S = .ok (.bl (a == b)) S := by
  rw [o_eq (x := .bl a) (y := .bl b) rfl rfl]
  rfl
theorem o_eq00 (S : List D) : oEq (.lst []) (.lst []) S = .ok (.bl true) S := rfl
mutual
def agB : D → Bool
  | .tup ds => decide (ds.length < 1000000) && agBs ds
  | .lst ds => decide (ds.length < 1000000) && agBs ds
  | .int _ => true
  | .bl _ => true
  | .non => true
  | _ => false
def agBs : List D → Bool
  | [] => true
  | d :: ds => agB d && agBs ds
end
mutual
theorem agB_flat : ∀ d : D, agB d = true → d.flat = true
  | .tup ds, h => by
    simp only [agB, Bool.and_eq_true] at h
    show D.flats ds = true
    exact agBs_flat ds h.2
  | .lst ds, h => by
    simp only [agB, Bool.and_eq_true] at h
    show D.flats ds = true
    exact agBs_flat ds h.2
  | .int _, _ => rfl
  | .bl _, _ => rfl
  | .non, _ => rfl
  | .str _, h => by simp [agB] at h
  | .ty _, h => by simp [agB] at h
  | .rdl _, h => by simp [agB] at h
  | .dct _ _, h => by simp [agB] at h
  | .loc _, h => by simp [agB] at h
theorem agBs_flat : ∀ ds : List D, agBs ds = true → D.flats ds = true
  | [], _ => rfl
  | d :: ds, h => by
    simp only [agBs, Bool.and_eq_true] at h
    show (d.flat && D.flats ds) = true
    rw [agB_flat d h.1, agBs_flat ds h.2]
    rfl
end
theorem agBs_at : ∀ (ds : List D) (i : Nat) (d : D), agBs ds = true → ds[i]? = some d → agB d = true ∧ d.depth ≤ D.depths ds
  | d :: ds, 0, x, h, e => by
    simp only [agBs, Bool.and_eq_true] at h
    simp at e
    subst e
    exact ⟨h.1, Nat.le_max_left _ _⟩
  | d :: ds, i + 1, x, h, e => by
    simp only [agBs, Bool.and_eq_true] at h
    obtain ⟨h1, h2⟩ := agBs_at ds i x h.2 (by simpa using e)
    exact ⟨h1, Nat.le_trans h2 (Nat.le_max_right _ _)⟩
theorem isi_lst (ns : List String) (ds : List D) (S : List D) : oIsi ns (.lst ds) S = .ok (.bl (ns.any (isiB "list"))) S := rfl
theorem isi_bl (ns : List String) (b : Bool) (S : List D) : oIsi ns (.bl b) S = .ok (.bl (ns.any (isiB "bool"))) S := rfl
theorem isi_non (ns : List String) (S : List D) : oIsi ns .non S = .ok (.bl (ns.any (isiB "NoneType"))) S := rfl
theorem q_tuple_tuple : isiB "tuple" "tuple" = true := by decide
theorem q_tuple_list : isiB "tuple" "list" = false := by decide
theorem q_tuple_int : isiB "tuple" "int" = false := by decide
theorem q_tuple_bool : isiB "tuple" "bool" = false := by decide
theorem q_tuple_str : isiB "tuple" "str" = false := by decide
theorem q_list_tuple : isiB "list" "tuple" = false := by decide
theorem q_list_list : isiB "list" "list" = true := by decide
theorem q_list_int : isiB "list" "int" = false := by decide
theorem q_list_bool : isiB "list" "bool" = false := by decide
theorem q_list_str : isiB "list" "str" = false := by decide
theorem q_int_tuple : isiB "int" "tuple" = false := by decide
theorem q_int_list : isiB "int" "list" = false := by decide
theorem q_int_int : isiB "int" "int" = true := by decide
theorem q_int_bool : isiB "int" "bool" = false := by decide
theorem q_int_str : isiB "int" "str" = false := by decide
theorem q_bool_tuple : isiB "bool" "tuple" = false := by decide
theorem q_bool_list : isiB "bool" "list" = false := by decide
theorem q_bool_int : isiB "bool" "int" = true := by decide
theorem q_bool_bool : isiB "bool" "bool" = true := by decide
theorem q_bool_str : isiB "bool" "str" = false := by decide
theorem q_NoneType_tuple : isiB "NoneType" "tuple" = false := by decide
theorem q_NoneType_list : isiB "NoneType" "list" = false := by decide
theorem q_NoneType_int : isiB "NoneType" "int" = false := by decide
theorem q_NoneType_bool : isiB "NoneType" "bool" = false := by decide
theorem q_NoneType_str : isiB "NoneType" "str" = false := by decide
theorem o_eqNN (S : List D) : oEq .non .non S = .ok (.bl true) S := rfl
theorem alike_lc {k : Nat} (ds : List D) (x : D) (ih : ∀ d : D, agB d = true → d.depth < k → F_p_law_alike k [d, d] [] = .ok (.bl true) []) (hg : agBs ds = true) (hd : D.depths ds < k) (hl : ds.length < 1000000) (hx : ∀ (i : Nat) (h : i < ds.length) (S : List D), oIx x (.int (i : Nat)) S = .ok ds[i] S) (x2 : Option D) (S : List D) :
    lcS false (.rng 0 ds.length) [2] (.nm 2) (C1_p_law_alike (F_p_law_alike k)) (V2_p_law_alike (F_p_law_alike k)) [some x, some x, x2] S = .ok (.lst []) S := by
  rw [lc_filt (List.range ds.length) _ (fun _ => false) (fun k : Nat => D.int (k : Int)) (by simp [SL]; omega) (is_rng 0 ds.length _) (fun i hi => ⟨_, rfl, by
    have hi' : i < ds.length := by simpa using hi
    obtain ⟨g1, g2⟩ := agBs_at ds i ds[i] hg (by simp [hi'])
    have fl := agB_flat _ g1
    have r := ih ds[i] g1 (by omega)
    unfold C1_p_law_alike
    simp only [ev_tnot, ev_tr, ev_args, ev_cons, ev_nil, ev_op, wipe_cons, wipe_nil, List.set_cons_succ, List.set_cons_zero, ev_var0, ev_varS, bind_ok, kop1, kop2, Int.zero_add, hx i hi', kcons1, kcons2]
    rw [call0 _ (by simp [fls_cons, fl]), r, kc0 rfl]
    rfl, fun z => by cases z⟩)]
  rw [List.filter_eq_nil_iff.mpr fun k _ => by simp]
  rfl
theorem alike_self : ∀ (k : Nat) (d : D), agB d = true → d.depth < k → F_p_law_alike k [d, d] [] = .ok (.bl true) []
  | 0, _, _, h => by omega
  | k + 1, d, hg, hd => by
    have ih := alike_self k
    show fnF 2 3 (S_p_law_alike (F_p_law_alike k)) [d, d] [] = _
    unfold S_p_law_alike
    rw [fn_ev 2 3 _ rfl]
    cases d with
    | tup ds =>
      simp only [agB, Bool.and_eq_true, decide_eq_true_eq] at hg
      have hdd : D.depths ds < k := by have : D.depth (.tup ds) = D.depths ds + 1 := rfl; omega
      have hx : ∀ (i : Nat) (h : i < ds.length) (S : List D), oIx (.tup ds) (.int (i : Nat)) S = .ok ds[i] S := fun i h S => by simp [h]
      simp [isi_tup, isi_lst, q_tuple_tuple, q_tuple_list, q_tuple_int, q_tuple_bool, q_tuple_str, q_list_tuple, q_list_list, q_list_int, q_list_bool, q_list_str, q_int_tuple, q_int_list, q_int_int, q_int_bool, q_int_str, q_bool_tuple, q_bool_list, q_bool_int, q_bool_bool, q_bool_str, q_NoneType_tuple, q_NoneType_list, q_NoneType_int, q_NoneType_bool, q_NoneType_str, krng1n hg.1, alike_lc ds (.tup ds) ih hg.2 hdd hg.1 hx, o_eq00, o_eqBB]
    | lst ds =>
      simp only [agB, Bool.and_eq_true, decide_eq_true_eq] at hg
      have hdd : D.depths ds < k := by have : D.depth (.lst ds) = D.depths ds + 1 := rfl; omega
      have hx : ∀ (i : Nat) (h : i < ds.length) (S : List D), oIx (.lst ds) (.int (i : Nat)) S = .ok ds[i] S := fun i h S => by simp [h]
      simp [isi_tup, isi_lst, q_tuple_tuple, q_tuple_list, q_tuple_int, q_tuple_bool, q_tuple_str, q_list_tuple, q_list_list, q_list_int, q_list_bool, q_list_str, q_int_tuple, q_int_list, q_int_int, q_int_bool, q_int_str, q_bool_tuple, q_bool_list, q_bool_int, q_bool_bool, q_bool_str, q_NoneType_tuple, q_NoneType_list, q_NoneType_int, q_NoneType_bool, q_NoneType_str, krng1n hg.1, alike_lc ds (.lst ds) ih hg.2 hdd hg.1 hx, o_eq00, o_eqBB]
    | int i => simp [isi_int, q_tuple_tuple, q_tuple_list, q_tuple_int, q_tuple_bool, q_tuple_str, q_list_tuple, q_list_list, q_list_int, q_list_bool, q_list_str, q_int_tuple, q_int_list, q_int_int, q_int_bool, q_int_str, q_bool_tuple, q_bool_list, q_bool_int, q_bool_bool, q_bool_str, q_NoneType_tuple, q_NoneType_list, q_NoneType_int, q_NoneType_bool, q_NoneType_str, o_eqBB]
    | bl b => simp [show D.isNon (.bl b) = false from rfl, isi_bl, q_tuple_tuple, q_tuple_list, q_tuple_int, q_tuple_bool, q_tuple_str, q_list_tuple, q_list_list, q_list_int, q_list_bool, q_list_str, q_int_tuple, q_int_list, q_int_int, q_int_bool, q_int_str, q_bool_tuple, q_bool_list, q_bool_int, q_bool_bool, q_bool_str, q_NoneType_tuple, q_NoneType_list, q_NoneType_int, q_NoneType_bool, q_NoneType_str, o_eqBB]
    | non => simp [isi_non, q_tuple_tuple, q_tuple_list, q_tuple_int, q_tuple_bool, q_tuple_str, q_list_tuple, q_list_list, q_list_int, q_list_bool, q_list_str, q_int_tuple, q_int_list, q_int_int, q_int_bool, q_int_str, q_bool_tuple, q_bool_list, q_bool_int, q_bool_bool, q_bool_str, q_NoneType_tuple, q_NoneType_list, q_NoneType_int, q_NoneType_bool, q_NoneType_str, o_eqNN, o_eqBB]
    | _ => simp [agB] at hg
abbrev oF := Option D
def isOkB : R D → Bool
  | .ok (.bl true) [] => true
  | _ => false
theorem isOkB_eq {r : R D} (h : isOkB r = true) : r = .ok (.bl true) [] := by
  unfold isOkB at h
  split at h
  · rfl
  · cases h
theorem agBs_map {α : Type} (f : α → D) (h : ∀ a, agB (f a) = true) : ∀ xs : List α, agBs (xs.map f) = true
  | [] => rfl
  | x :: xs => by
    show (agB (f x) && agBs (xs.map f)) = true
    rw [h x, agBs_map f h xs]; rfl
theorem dps_map {α : Type} (f : α → D) (k : Nat) (h : ∀ a, (f a).depth ≤ k) : ∀ xs : List α, D.depths (xs.map f) ≤ k
  | [] => Nat.zero_le _
  | x :: xs => by
    show max (f x).depth (D.depths (xs.map f)) ≤ k
    have := h x; have := dps_map f k h xs
    omega
theorem alike_dI {xs : List Int} (h : xs.length < 1000000) : F_p_law_alike 8 [.tup (dI xs), .tup (dI xs)] [] = .ok (.bl true) [] := by
  refine alike_self 8 (.tup (dI xs)) ?_ ?_
  · show (decide ((dI xs).length < 1000000) && agBs (dI xs)) = true
    rw [show agBs (dI xs) = true from agBs_map D.int (fun _ => rfl) xs]
    simp [dI]; omega
  · show D.depths (dI xs) + 1 < 8
    have := dps_map D.int 0 (fun _ => Nat.le_refl _) xs
    have : D.depths (dI xs) ≤ 0 := this
    omega
theorem alike_dN {ks : List Nat} (h : ks.length < 1000000) : F_p_law_alike 8 [.tup (dN ks), .tup (dN ks)] [] = .ok (.bl true) [] := by
  rw [dN_up]
  exact alike_dI (by simpa [up] using h)
theorem agB_T (xs : List Int) (h : xs.length < 1000000) : agB (.tup (dI xs)) = true := by
  show (decide ((dI xs).length < 1000000) && agBs (dI xs)) = true
  rw [show agBs (dI xs) = true from agBs_map D.int (fun _ => rfl) xs]
  simp [dI]; omega
theorem dp_T (xs : List Int) : (D.tup (dI xs)).depth ≤ 1 := by
  show D.depths (dI xs) + 1 ≤ 1
  have : D.depths (dI xs) ≤ 0 := dps_map D.int 0 (fun _ => Nat.le_refl _) xs
  omega
theorem alike_F (n : Int) {ps : List Pipe} (h : ps.length ≤ 16) : F_p_law_alike 8 [encF n ps, encF n ps] [] = .ok (.bl true) [] := by
  refine alike_self 8 _ ?_ ?_
  · show (decide ([D.int n, D.tup (ps.map encP)].length < 1000000) && (agB (.int n) && (agB (.tup (ps.map encP)) && true))) = true
    have : agB (.tup (ps.map encP)) = true := by
      show (decide ((ps.map encP).length < 1000000) && agBs (ps.map encP)) = true
      rw [agBs_map encP (fun _ => rfl) ps]
      simp; omega
    rw [this]; rfl
  · show max 0 (max (D.depths (ps.map encP) + 1) 0) + 1 < 8
    have := dps_map encP 1 (fun _ => Nat.le_refl _) ps
    omega
theorem alike_rows {ps : List Pipe} (held word : List Int) (h : held.length = ps.length) (hp : ps.length ≤ 16) {m : Nat} (hm : m < 100000) : F_p_law_alike 8 [.tup (rowsT ps held word m), .tup (rowsT ps held word m)] [] = .ok (.bl true) [] := by
  refine alike_self 8 _ ?_ ?_
  · show (decide ((rowsT ps held word m).length < 1000000) && agBs (rowsT ps held word m)) = true
    unfold rowsT
    rw [agBs_map _ (fun j => agB_T _ (by rw [stT_len h]; omega)) _]
    simp; omega
  · show D.depths (rowsT ps held word m) + 1 < 8
    have := dps_map (fun j => D.tup (dI (stT ps held word j))) 1 (fun j => dp_T _) (List.range (m + 1))
    have : D.depths (rowsT ps held word m) ≤ 1 := this
    omega
theorem alike_str : F_p_law_alike 8 [.str "firing", .str "firing"] [] = .ok (.bl true) [] := isOkB_eq (by decide +kernel)
def iS (c : List Int) : List Ky := c.map Sum.inl
theorem iS_inj {a b : List Int} (h : iS a = iS b) : a = b := by
  unfold iS at h
  exact List.map_inj_right (fun x y z => by injection z) |>.mp h
theorem keysOf_dI : ∀ c : List Int, keysOf (dI c) = some (iS c)
  | [] => rfl
  | x :: c => by
    show (match keyOf (.int x), keysOf (dI c) with | some k, some ks => some (k :: ks) | _, _ => none) = _
    rw [keysOf_dI c]
    rfl
theorem keyT_dI (c : List Int) : keyT (.tup (dI c)) = some (iS c) := keysOf_dI c
abbrev Tw := List (List Int × Int)
def encW (T : Tw) : D := .dcT (T.map fun p => iS p.1) (T.map fun p => D.int p.2)
@[simp] theorem encW_flat (T : Tw) : (encW T).flat = true := flats_map (fun p : List Int × Int => D.int p.2) (fun _ => rfl) T
def valO (T : Tw) (c : List Int) : Option Int := (T.find? fun p => decide (p.1 = c)).map (·.2)
theorem getT_enc (c : List Int) : ∀ T : Tw, J.getT (T.map fun p => iS p.1) (T.map fun p => D.int p.2) (iS c) = (valO T c).map D.int
  | [] => rfl
  | p :: T => by
    have ih := getT_enc c T
    show (if iS p.1 = iS c then some (D.int p.2) else J.getT (T.map fun p => iS p.1) (T.map fun p => D.int p.2) (iS c)) = _
    unfold valO
    by_cases h : p.1 = c
    · rw [if_pos (by rw [h])]
      simp [List.find?_cons, h]
    · rw [if_neg (fun z => h (iS_inj z)), ih]
      simp [List.find?_cons, h, valO]
def putW (T : Tw) (c : List Int) (v : Int) : Tw := if (T.any fun p => decide (p.1 = c)) = true then T.map (fun p => if p.1 = c then (p.1, v) else p) else T ++ [(c, v)]
theorem any_enc (c : List Int) : ∀ T : Tw, ((T.map fun p => iS p.1).any fun q => decide (q = iS c)) = T.any fun p => decide (p.1 = c)
  | [] => rfl
  | p :: T => by
    simp only [List.map_cons, List.any_cons]
    rw [any_enc c T]
    congr 1
    rw [decide_eq_decide]
    exact ⟨iS_inj, fun z => by rw [z]⟩
theorem zip_enc2 (c : List Int) (v : Int) : ∀ T : Tw, List.zipWith (fun q d => if q = iS c then D.int v else d) (T.map fun p => iS p.1) (T.map fun p => D.int p.2) = T.map fun p => D.int (if p.1 = c then (p.1, v) else p).2
  | [] => rfl
  | p :: T => by
    simp only [List.map_cons, List.zipWith_cons_cons]
    rw [zip_enc2 c v T]
    congr 1
    by_cases h : p.1 = c
    · rw [if_pos (by rw [h]), if_pos h]
    · rw [if_neg (fun z => h (iS_inj z)), if_neg h]
theorem putT_enc (T : Tw) (c : List Int) (v : Int) : putAt.putT (T.map fun p => iS p.1) (T.map fun p => D.int p.2) (iS c) (.int v) = encW (putW T c v) := by
  unfold putAt.putT putW
  rw [any_enc]
  split
  · unfold encW
    rw [zip_enc2, List.map_map, List.map_map]
    congr 1
    refine List.map_congr_left fun p _ => ?_
    simp only [Function.comp]
    split <;> rfl
  · unfold encW
    simp
theorem put_enc (T : Tw) (c : List Int) (v : Int) (h : T.length < SL) : putAt (.loc 0) (.tup (dI c)) (.int v) [encW T] = some [encW (putW T c v)] := by
  have e : putAt (.loc 0) (.tup (dI c)) (.int v) [encW T] = (match keyT (.tup (dI c)) with
    | some k => if (T.map fun p => iS p.1).length < SL then some ([encW T].set 0 (putAt.putT (T.map fun p => iS p.1) (T.map fun p => D.int p.2) k (.int v))) else none
    | none => none) := rfl
  rw [e, keyT_dI]
  simp only [List.length_map]
  rw [if_pos h, putT_enc]
  rfl
def encI (p : List Int × Int) : D := .tup [.tup (dI p.1), .int p.2]
theorem items_enc : ∀ T : Tw, itemsT (T.map fun p => iS p.1) (T.map fun p => D.int p.2) = T.map encI
  | [] => rfl
  | p :: T => by
    have ih := items_enc T
    unfold itemsT at ih ⊢
    simp only [List.map_cons, List.zipWith_cons_cons]
    rw [ih]
    congr 1
    unfold encI iS dI
    rw [List.map_map]
    rfl
def valW (T : Tw) (c : List Int) : Int := (valO T c).getD 0
def addW (T : Tw) (c : List Int) (v : Int) : Tw := putW T c (valW T c + v)
def okD (ps : List Pipe) (cs d : List Int) (b : Nat) : Bool := !decide (ik d b = ik cs b) && canT ps (leftT ps d) b
def incL (d : List Int) (b : Nat) : List Int := d.set b (ik d b + 1)
def rowW (ps : List Pipe) (cs : List Int) (L : Tw) (d : List Int) (x : Int) (k : Nat) : Tw := (List.range k).foldl (fun L b => if okD ps cs d b = true then addW L (incL d b) x else L) L
theorem rowW_succ (ps : List Pipe) (cs : List Int) (L : Tw) (d : List Int) (x : Int) (k : Nat) : rowW ps cs L d x (k + 1) = if okD ps cs d k = true then addW (rowW ps cs L d x k) (incL d k) x else rowW ps cs L d x k := by
  unfold rowW
  rw [List.range_succ, List.foldl_append]
  rfl
def stepW (n : Nat) (ps : List Pipe) (cs : List Int) (L T : Tw) : Tw := T.foldl (fun L p => rowW ps cs L p.1 p.2 n) L
/-- keys between nothing and the counts, each once -/
structure KOkW (n : Nat) (cs : List Int) (T : Tw) : Prop where
  nd : (T.map (·.1)).Nodup
  l : ∀ p ∈ T, p.1.length = n
  b : ∀ p ∈ T, ∀ k, k < n → 0 ≤ ik p.1 k ∧ ik p.1 k ≤ ik cs k
theorem nodup_len : ∀ (N : Nat) (l : List Nat), l.Nodup → (∀ x ∈ l, x < N) → l.length ≤ N
  | 0, l, _, h => by
    cases l with
    | nil => simp
    | cons a l => exact absurd (h a (by simp)) (by omega)
  | N + 1, l, hn, h => by
    by_cases hm : N ∈ l
    · have h1 := List.length_erase_of_mem hm
      have h2 := nodup_len N (l.erase N) (hn.erase N) (fun x hx => by
        have h3 := (List.Nodup.mem_erase_iff hn).mp hx
        have := h x h3.2
        omega)
      have : 0 < l.length := List.length_pos_of_mem hm
      omega
    · have := nodup_len N l hn (fun x hx => by
        have := h x hx
        have : x ≠ N := fun z => hm (by rw [← z]; exact hx)
        omega)
      omega
def codeL : List Int → Nat
  | [] => 0
  | x :: c => x.toNat + 4 * codeL c
theorem codeL_inj : ∀ {a b : List Int}, a.length = b.length → (∀ x ∈ a, 0 ≤ x ∧ x ≤ 3) → (∀ x ∈ b, 0 ≤ x ∧ x ≤ 3) → codeL a = codeL b → a = b
  | [], [], _, _, _, _ => rfl
  | x :: a, y :: b, l, ha, hb, h => by
    have h1 := ha x (by simp)
    have h2 := hb y (by simp)
    have h' : x.toNat + 4 * codeL a = y.toNat + 4 * codeL b := h
    have : codeL a = codeL b := by omega
    rw [codeL_inj (by simpa using l) (fun z hz => ha z (by simp [hz])) (fun z hz => hb z (by simp [hz])) this, show x = y by omega]
theorem codeL_lt : ∀ {a : List Int}, (∀ x ∈ a, 0 ≤ x ∧ x ≤ 3) → codeL a < 4 ^ a.length
  | [], _ => by simp [codeL]
  | x :: a, h => by
    have h1 := h x (by simp)
    have := codeL_lt (a := a) (fun z hz => h z (by simp [hz]))
    show x.toNat + 4 * codeL a < _
    rw [List.length_cons, Nat.pow_succ]
    omega
theorem KOkW.len {n : Nat} {cs : List Int} {T : Tw} (h : KOkW n cs T) (hn : n ≤ 5) (hc : ∀ k, k < n → ik cs k ≤ 3) : T.length ≤ 1024 := by
  have hb : ∀ p ∈ T, ∀ x ∈ p.1, 0 ≤ x ∧ x ≤ 3 := fun p hp x hx => by
    obtain ⟨k, hk, rfl⟩ := ik_mem hx
    have hk' : k < n := by rw [← h.l p hp]; exact hk
    have := h.b p hp k hk'
    have := hc k hk'
    omega
  have h1 : (T.map fun p => codeL p.1).length ≤ 1024 := by
    refine nodup_len 1024 _ ?_ fun x hx => ?_
    · have := h.nd
      rw [List.nodup_iff_pairwise_ne, List.pairwise_map] at this ⊢
      refine this.imp_of_mem fun {p q} hp hq hne z => hne ?_
      exact codeL_inj (by rw [h.l p hp, h.l q hq]) (hb p hp) (hb q hq) z
    · obtain ⟨p, hp, rfl⟩ := List.mem_map.mp hx
      have := codeL_lt (hb p hp)
      rw [h.l p hp] at this
      have h2 : 4 ^ n ≤ 4 ^ 5 := Nat.pow_le_pow_right (by decide) hn
      omega
  simpa using h1
theorem putW_keys (T : Tw) (c : List Int) (v : Int) : (putW T c v).map (·.1) = if c ∈ T.map (·.1) then T.map (·.1) else T.map (·.1) ++ [c] := by
  unfold putW
  by_cases h : (T.any fun p => decide (p.1 = c)) = true
  · rw [if_pos h]
    obtain ⟨p, hp, e⟩ := List.any_eq_true.mp h
    rw [if_pos (List.mem_map.mpr ⟨p, hp, of_decide_eq_true e⟩), List.map_map]
    refine List.map_congr_left fun p _ => ?_
    simp only [Function.comp]
    split <;> rfl
  · rw [if_neg h, if_neg (fun z => h (by
      obtain ⟨p, hp, e⟩ := List.mem_map.mp z
      exact List.any_eq_true.mpr ⟨p, hp, decide_eq_true e⟩))]
    simp
theorem KOkW.put {n : Nat} {cs : List Int} {T : Tw} (h : KOkW n cs T) {c : List Int} (hl : c.length = n) (hb : ∀ k, k < n → 0 ≤ ik c k ∧ ik c k ≤ ik cs k) (v : Int) : KOkW n cs (putW T c v) := by
  have hk := putW_keys T c v
  have hm : ∀ p ∈ putW T c v, p.1 = c ∨ ∃ q ∈ T, p.1 = q.1 := fun p hp => by
    have : p.1 ∈ (putW T c v).map (·.1) := List.mem_map.mpr ⟨p, hp, rfl⟩
    rw [hk] at this
    split at this
    · obtain ⟨q, hq, e⟩ := List.mem_map.mp this
      exact .inr ⟨q, hq, e.symm⟩
    · rcases List.mem_append.mp this with z | z
      · obtain ⟨q, hq, e⟩ := List.mem_map.mp z
        exact .inr ⟨q, hq, e.symm⟩
      · exact .inl (List.mem_singleton.mp z)
  refine ⟨?_, fun p hp => ?_, fun p hp => ?_⟩
  · rw [hk]
    split
    · exact h.nd
    · rename_i hc
      rw [List.nodup_append]
      exact ⟨h.nd, by simp, fun a ha b hb z => hc (by rw [← List.mem_singleton.mp hb, ← z]; exact ha)⟩
  · rcases hm p hp with e | ⟨q, hq, e⟩
    · rw [e]; exact hl
    · rw [e]; exact h.l q hq
  · rcases hm p hp with e | ⟨q, hq, e⟩
    · rw [e]; exact hb
    · rw [e]; exact h.b q hq
theorem valO_put (T : Tw) (c d : List Int) (v : Int) : valO (putW T c v) d = if d = c then some v else valO T d := by
  unfold putW
  by_cases h : (T.any fun p => decide (p.1 = c)) = true
  · rw [if_pos h]
    induction T with
    | nil => simp at h
    | cons p T ih =>
      unfold valO
      rw [List.map_cons, List.find?_cons, List.find?_cons]
      by_cases hp : p.1 = c
      · rw [if_pos hp]
        by_cases hd : d = c
        · subst hd
          simp [hp]
        · have : ¬ p.1 = d := fun z => hd (by rw [← z, hp])
          simp only [this, decide_false, hd, if_false]
          have hT : ∀ T : Tw, ((T.map fun p => if p.1 = c then (p.1, v) else p).find? fun p => decide (p.1 = d)) = T.find? fun p => decide (p.1 = d) := fun T => by
            induction T with
            | nil => rfl
            | cons q T ih =>
              rw [List.map_cons, List.find?_cons, List.find?_cons, ih]
              by_cases hq : q.1 = c
              · rw [if_pos hq]
                have : ¬ q.1 = d := fun z => hd (by rw [← z, hq])
                simp [this]
              · rw [if_neg hq]
          rw [hT]
      · rw [if_neg hp]
        have hT : (T.any fun p => decide (p.1 = c)) = true := by
          rw [List.any_cons] at h
          simpa [hp] using h
        have ih' := ih hT
        unfold valO at ih'
        by_cases hpd : p.1 = d
        · have : ¬ d = c := fun z => hp (by rw [hpd, z])
          simp [hpd, this]
        · simp only [hpd, decide_false]
          exact ih'
  · rw [if_neg h]
    unfold valO
    rw [List.find?_append]
    have hn : ∀ p ∈ T, ¬ p.1 = c := fun p hp z => h (List.any_eq_true.mpr ⟨p, hp, decide_eq_true z⟩)
    by_cases hd : d = c
    · subst hd
      have : T.find? (fun p => decide (p.1 = d)) = none := List.find?_eq_none.mpr fun p hp => by simpa using hn p hp
      simp [this]
    · have : ¬ c = d := fun z => hd z.symm
      simp only [hd, if_false, List.find?_cons, this, decide_false, List.find?_nil, Option.or_none]
theorem valW_add (T : Tw) (c d : List Int) (v : Int) : valW (addW T c v) d = if d = c then valW T c + v else valW T d := by
  unfold addW
  rw [show valW (putW T c (valW T c + v)) d = (valO (putW T c (valW T c + v)) d).getD 0 from rfl, valO_put]
  split
  · rfl
  · rfl
theorem incL_eq {d : List Int} {b : Nat} (h : b < d.length) : dI (d.take b) ++ [.int (ik d b + 1)] ++ dI (d.drop (b + 1)) = dI (incL d b) := by
  unfold incL
  rw [List.set_eq_take_append_cons_drop, if_pos h]
  simp [dI]
def kGetT (x y z : D) (S : List D) : R D := match dctT S x, keyT y with
  | some (ks, ds), some q => .ok ((J.getT ks ds q).getD z) S
  | _, _ => .bad
theorem ev_get2T (o a b : ME) (E : Env) (S : List D) : eGet2T o a b E S = (o E S).bind fun x S1 => if (dctT S1 x).isSome = true then (a E S1).bind fun y S2 => (b E S2).bind fun z S3 => kGetT x y z S3 else .bad := rfl
theorem kGetT_loc (T : Tw) (c : List Int) (v : Int) : kGetT (.loc 0) (.tup (dI c)) (.int v) [encW T] = .ok (.int ((valO T c).getD v)) [encW T] := by
  unfold kGetT
  rw [keyT_dI, show dctT [encW T] (.loc 0) = some (T.map fun p => iS p.1, T.map fun p => D.int p.2) from rfl]
  simp only [getT_enc]
  cases valO T c <;> rfl
theorem kGetT_val (T : Tw) (c : List Int) (v : Int) (S : List D) : kGetT (encW T) (.tup (dI c)) (.int v) S = .ok (.int ((valO T c).getD v)) S := by
  unfold kGetT
  rw [keyT_dI, show dctT S (encW T) = some (T.map fun p => iS p.1, T.map fun p => D.int p.2) from rfl]
  simp only [getT_enc]
  cases valO T c <;> rfl
theorem mapM_self {f : D → Option D} : ∀ {ds : List D}, (∀ d ∈ ds, f d = some d) → ds.mapM f = some ds
  | [], _ => rfl
  | d :: ds, h => by
    rw [List.mapM_cons, h d (by simp), mapM_self (fun e he => h e (by simp [he]))]
    rfl
theorem ret_encW (T : Tw) : retF 0 (.loc 0) [encW T] = .ok (encW T) [] := by
  have h1 : fz 0 [encW T] 8 (.loc 0) = some (encW T) := by
    have e : fz 0 [encW T] 8 (.loc 0) = ((T.map fun p => D.int p.2).mapM (fz 0 [encW T] 7)).map (.dcT (T.map fun p => iS p.1)) := rfl
    rw [e, mapM_self fun d hd => by
      obtain ⟨p, _, rfl⟩ := List.mem_map.mp hd
      rfl]
    rfl
  unfold retF
  rw [h1]
  rfl
theorem stepW_snoc (n : Nat) (ps : List Pipe) (cs : List Int) (L T : Tw) (p : List Int × Int) : stepW n ps cs L (T ++ [p]) = rowW ps cs (stepW n ps cs L T) p.1 p.2 n := by
  unfold stepW
  rw [List.foldl_append]
  rfl
theorem take_snoc {α : Type} (T : List α) (i : Nat) (h : i < T.length) : T.take (i + 1) = T.take i ++ [T[i]] := by
  rw [List.take_succ_eq_append_getElem h]
def zeroL (n : Nat) : List Int := List.replicate n 0
def itW (n : Nat) (ps : List Pipe) (cs : List Int) : Nat → Tw
  | 0 => [(zeroL n, 1)]
  | k + 1 => stepW n ps cs [] (itW n ps cs k)
end K16
set_option linter.all false
set_option maxRecDepth 100000
namespace K16
open J
/-! ### what comes: closed sets -/
inductive Cm (n : Nat) (ps : List Pipe) : List Int → Prop
  | z : Cm n ps (marksT ps)
  | s {h : List Int} {b : Nat} : Cm n ps h → b < n → canT ps h b = true → Cm n ps (nextT ps h b)
theorem cm_len {n : Nat} {ps : List Pipe} {h : List Int} (c : Cm n ps h) : h.length = ps.length := by
  induction c with
  | z => exact marks_len ps
  | s _ _ _ ih => exact nextT_len _ ih
/-- h was gone from -/
def Done (n : Nat) (ps : List Pipe) (Ks : List (List Int)) (m : Nat) (h : List Int) : Prop := ∀ b : Nat, b < m → canT ps h b = true → nextT ps h b ∈ Ks
theorem closed_all {n : Nat} {ps : List Pipe} {Ks : List (List Int)} (h0 : marksT ps ∈ Ks) (hc : ∀ h ∈ Ks, Done n ps Ks n h) : ∀ h, Cm n ps h → h ∈ Ks := fun h c => by
  induction c with
  | z => exact h0
  | s _ hb hcan ih => exact hc _ ih _ hb hcan
theorem sub_len {α : Type} [DecidableEq α] : ∀ {xs ys : List α}, xs.Nodup → (∀ x ∈ xs, x ∈ ys) → xs.length ≤ ys.length
  | [], _, _, _ => by simp
  | x :: xs, ys, h, s => by
    rw [List.nodup_cons] at h
    have h1 : x ∈ ys := s x (by simp)
    have h2 := sub_len (ys := ys.erase x) h.2 fun y hy => (List.mem_erase_of_ne (by rintro rfl; exact h.1 hy)).mpr (s y (by simp [hy]))
    have h3 := List.length_erase_of_mem h1
    have h4 := List.length_pos_of_mem h1
    rw [List.length_cons]
    omega
theorem perm_of {α : Type} [DecidableEq α] {xs ys : List α} (h1 : xs.Nodup) (h2 : ys.Nodup) (h : ∀ x, x ∈ xs ↔ x ∈ ys) : xs.Perm ys := (List.perm_ext_iff_of_nodup h1 h2).mpr h
/-! ### dicts of tokens -/
def dT (Ks : List (List Int)) : D := .dcT (Ks.map iS) (Ks.map fun _ => D.bl true)
theorem dT_flat (Ks : List (List Int)) : (dT Ks).flat = true := flats_map (fun _ : List Int => D.bl true) (fun _ => rfl) Ks
theorem any_iS (h : List Int) (Ks : List (List Int)) : ((Ks.map iS).any fun q => decide (q = iS h)) = decide (h ∈ Ks) := by
  induction Ks with
  | nil => simp
  | cons k Ks ih =>
    simp only [List.map_cons, List.any_cons, ih]
    by_cases e : k = h
    · subst e; simp
    · have : ¬ iS k = iS h := fun z => e (iS_inj z)
      simp [this, Ne.symm e]
theorem in_dT {h : List Int} {Ks : List (List Int)} {S : List D} {n : Nat} (e : S[n]? = some (dT Ks)) : oInT (.tup (dI h)) (.loc n) S = .ok (.bl (decide (h ∈ Ks))) S := by
  unfold oInT
  simp only [dctT, e, dT, keyT_dI, keyInT, any_iS]
theorem nin_dT {h : List Int} {Ks : List (List Int)} {S : List D} {n : Nat} (e : S[n]? = some (dT Ks)) : oNinT (.tup (dI h)) (.loc n) S = .ok (.bl (!decide (h ∈ Ks))) S := by
  unfold oNinT
  simp only [dctT, e, dT, keyT_dI, keyInT, any_iS]
theorem put_dT {h : List Int} {Ks : List (List Int)} {S : List D} {n : Nat} (e : S[n]? = some (dT Ks)) (hn : h ∉ Ks) (hl : Ks.length < SL) : putAt (.loc n) (.tup (dI h)) (.bl true) S = some (S.set n (dT (Ks ++ [h]))) := by
  have e2 : putAt (.loc n) (.tup (dI h)) (.bl true) S = (match S[n]? with
    | some (.lst xs) => match (D.tup (dI h)) with
      | .int k => match ixOf xs.length k with
        | some j => some (S.set n (.lst (xs.set j (.bl true))))
        | none => none
      | _ => none
    | some (.dct ks ds) => match keyOf (.tup (dI h)) with
      | some k => if ks.length < SL then some (S.set n (putAt.putK ks ds k (.bl true))) else none
      | none => none
    | some (.dcT ks ds) => match keyT (.tup (dI h)) with
      | some k => if ks.length < SL then some (S.set n (putAt.putT ks ds k (.bl true))) else none
      | none => none
    | _ => none) := rfl
  rw [e2, e]
  simp only [dT, keyT_dI, List.length_map, if_pos hl]
  unfold putAt.putT
  rw [any_iS]
  simp [hn]
theorem tupK_iS (h : List Int) : tupK (iS h) = .tup (dI h) := by
  unfold tupK iS dI
  rw [List.map_map]
  rfl
theorem keys_dT (Ks : List (List Int)) : (Ks.map iS).map tupK = Ks.map fun h => D.tup (dI h) := by
  rw [List.map_map]
  exact List.map_congr_left fun h _ => tupK_iS h
theorem len_dT {Ks : List (List Int)} {S : List D} {n : Nat} (e : S[n]? = some (dT Ks)) : bLenT [.loc n] S = .ok (.int (Ks.length : Nat)) S := by
  rw [b_lenDT e]
  simp
/-! ### sorted -/
theorem allInt_dI : ∀ xs : List Int, allInt (dI xs) = true
  | [] => rfl
  | x :: xs => allInt_dI xs
theorem ord_dI (xs : List Int) : ordOk (.tup (dI xs)) = true := by
  have h1 : D.cmpbs (dI xs) = true := cmpbs_map D.int (fun _ => rfl) xs
  have h2 : D.depths (dI xs) ≤ 0 := depths_map D.int 0 (fun _ => Nat.le_refl _) xs
  unfold ordOk
  have h3 : (D.tup (dI xs)).cmpb = true := h1
  have h4 : (D.tup (dI xs)).depth ≤ 60 := by
    show D.depths (dI xs) + 1 ≤ 60
    omega
  simp [h3, h4]
theorem okSort_T {Ks : List (List Int)} {m : Nat} (hl : ∀ h ∈ Ks, h.length = m) (hn : Ks.Nodup) : okSort (Ks.map fun h => D.tup (dI h)) = true := by
  match Ks, hl, hn with
  | [], _, _ => rfl
  | [x], _, _ => rfl
  | x :: y :: r, hl, hn =>
    have hm : 0 < m := by
      rcases Nat.eq_zero_or_pos m with z | z
      · have h1 := hl x (by simp)
        have h2 := hl y (by simp)
        rw [z] at h1 h2
        rw [List.length_eq_zero_iff] at h1 h2
        rw [h1, h2] at hn
        simp at hn
      · exact z
    show ((List.map (fun h => D.tup (dI h)) (x :: y :: r)).all ordOk && ((List.map (fun h => D.tup (dI h)) (x :: y :: r)).all intTup || _)) = true
    have h1 : (List.map (fun h => D.tup (dI h)) (x :: y :: r)).all ordOk = true := by
      rw [List.all_eq_true]
      intro d hd
      obtain ⟨h, _, rfl⟩ := List.mem_map.mp hd
      exact ord_dI h
    have h2 : (List.map (fun h => D.tup (dI h)) (x :: y :: r)).all intTup = true := by
      rw [List.all_eq_true]
      intro d hd
      obtain ⟨h, hh, rfl⟩ := List.mem_map.mp hd
      have := hl h hh
      cases h with
      | nil => simp at this; omega
      | cons a h => exact allInt_dI (a :: h)
    rw [h1, h2]
    rfl
end K16
set_option linter.all false
set_option maxRecDepth 100000
namespace K16
open J
theorem sort_perm {as bs : List D} (ok : okSort as = true) (p : as.Perm bs) : sortD as = sortD bs := by
  match as, ok, p with
  | [], _, p => rw [p.symm.eq_nil]
  | [x], _, p =>
    have := List.perm_singleton.mp p.symm
    rw [this]
  | x :: y :: r, ok, p =>
    have so := okSort_two ok
    have hm : ∀ d ∈ bs, d ∈ x :: y :: r := fun d hd => p.mem_iff.mpr hd
    refine perm_uniq (le := leP) (fun a ha b hb h1 h2 => leP_anti so ((sortD_perm _).mem_iff.mp ha) ((sortD_perm _).mem_iff.mp hb) h1 h2) (((sortD_perm _).trans p).trans (sortD_perm bs).symm) (sortD_srt so _ fun d hd => hd) (sortD_srt so _ hm)
/-! ### the program's walk -/
def hsD (W : List (List Int)) : List D := W.map fun h => D.tup (dI h)
theorem hsD_flat (W : List (List Int)) : D.flats (hsD W) = true := flats_map (fun h : List Int => D.tup (dI h)) (fun h => flats_ints h) W
structure Wk (n : Nat) (ps : List Pipe) (held : List Int) (Ks Wt : List (List Int)) (i : Nat) : Prop where
  nd : Ks.Nodup
  cm : ∀ h ∈ Ks, Cm n ps h
  z : marksT ps ∈ Ks
  l : Ks.length ≤ 1000
  w : ∀ h ∈ Wt, h ∈ Ks
  hd : held ∈ Ks
  dn : Done n ps Ks i held
  c : ∀ h ∈ Ks, h ∉ Wt → h ≠ held → Done n ps Ks n h
def Env1 (n : Nat) (ps : List Pipe) (x5 x6 x7 : oD) : Env := [some (encF n ps), some (.int (n : Nat)), some (.tup (ps.map encP)), some (.loc 0), some (.loc 1), x5, x6, x7]
def TooM (n : Nat) (ps : List Pipe) (o : O) : Prop := ∃ E S, o = .exc "TooMany" [("most", .int 1000)] E S ∧ ∃ Ks : List (List Int), Ks.Nodup ∧ (∀ h ∈ Ks, Cm n ps h) ∧ Ks.length = 1001
theorem box_turn {n : Nat} {ps : List Pipe} (hp : ps.length ≤ 16) {held : List Int} {Ks Wt : List (List Int)} {i : Nat} (hi : i < n) (I : Wk n ps held Ks Wt i) (hw : Wt.length ≤ 3000) (x6 x7 : oD) :
    TurnO (.nm 6) B1_p_all_come 2 (.int (0 + (i : Nat))) (Env1 n ps (some (.tup (dI held))) x6 x7) [dT Ks, .lst (hsD Wt)] (fun E S => ∃ Ks' Wt' y6 y7, E = Env1 n ps (some (.tup (dI held))) y6 y7 ∧ S = [dT Ks', .lst (hsD Wt')] ∧ Wk n ps held Ks' Wt' (i + 1) ∧ 2 * (1000 - Ks'.length) + Wt'.length ≤ 2 * (1000 - Ks.length) + Wt.length) (TooM n ps) := by
  have hl : held.length = ps.length := cm_len (I.cm _ I.hd)
  have es := short_eq (ps := ps) (held := held) (i : Nat) hp hl
  have eb := behind_eq (ps := ps) (held := held) (i : Nat) hp hl
  have sh : (dN (shortT ps held i)).isEmpty = canT ps held i := by unfold dN canT; rw [List.isEmpty_map]
  have fl : D.flats (dN (shortT ps held i)) = true := flats_map _ (fun _ => rfl) _
  have e0 : (0 : Int) + (i : Nat) = (i : Nat) := by omega
  rw [e0]
  unfold Env1
  by_cases hc : canT ps held i = true
  · by_cases hk : nextT ps held i ∈ Ks
    · refine .inl ⟨_, _, _, _, _, rfl, .inr ?_, gc_same rfl, Ks, Wt, some (.int (i : Nat)), some (.tup (dI (nextT ps held i))), rfl, rfl, ⟨I.nd, I.cm, I.z, I.l, I.w, I.hd, fun b hb hcan => ?_, I.c⟩, Nat.le_refl _⟩
      · unfold B1_p_all_come
        have hin := in_dT (h := nextT ps held i) (Ks := Ks) (S := [dT Ks, .lst (hsD Wt)]) (n := 0) rfl
        simp [es, eb, fl, hc, sh, hin, hk]
      · rcases Nat.lt_succ_iff_lt_or_eq.mp hb with h | h
        · exact I.dn b h hcan
        · rw [h]; exact hk
    · by_cases hm : Ks.length = 1000
      · refine .inr ⟨_, rfl, ?_⟩
        have hin := in_dT (h := nextT ps held i) (Ks := Ks) (S := [dT Ks, .lst (hsD Wt)]) (n := 0) rfl
        have hln := len_dT (Ks := Ks) (S := [dT Ks, .lst (hsD Wt)]) (n := 0) rfl
        have e : B1_p_all_come [some (encF n ps), some (.int (n : Nat)), some (.tup (ps.map encP)), some (.loc 0), some (.loc 1), some (.tup (dI held)), some (.int (i : Nat)), x7] [dT Ks, .lst (hsD Wt)] = .exc "TooMany" [("most", .int 1000)] [some (encF n ps), some (.int (n : Nat)), some (.tup (ps.map encP)), some (.loc 0), some (.loc 1), some (.tup (dI held)), some (.int (i : Nat)), some (.tup (dI (nextT ps held i)))] [dT Ks, .lst (hsD Wt)] := by
          unfold B1_p_all_come
          simp [es, eb, fl, hc, sh, hin, hk, hln, hm, kraiseF (log_small (i := 1000) (by decide) (by decide))]
        simp only [List.set_cons_succ, List.set_cons_zero] at e ⊢
        rw [e]
        exact ⟨rfl, _, _, rfl, Ks ++ [nextT ps held i], List.nodup_append.mpr ⟨I.nd, by simp, fun a ha b hb e => hk (by rw [← List.mem_singleton.mp hb, ← e]; exact ha)⟩, fun h hh => by
          rcases List.mem_append.mp hh with hh | hh
          · exact I.cm h hh
          · rw [List.mem_singleton.mp hh]; exact .s (I.cm _ I.hd) hi hc, by simp [hm]⟩
      · have hlt : Ks.length < 1000 := by have := I.l; omega
        have hSL : Ks.length < SL := by unfold SL; omega
        have hWL : Wt.length < SL := by unfold SL; omega
        refine .inl ⟨_, _, _, _, _, rfl, .inl ?_, gc_same (S := [dT (Ks ++ [nextT ps held i]), .lst (hsD (Wt ++ [nextT ps held i]))]) rfl, Ks ++ [nextT ps held i], Wt ++ [nextT ps held i], some (.int (i : Nat)), some (.tup (dI (nextT ps held i))), rfl, rfl, ?_, by simp; omega⟩
        · unfold B1_p_all_come
          have hin := in_dT (h := nextT ps held i) (Ks := Ks) (S := [dT Ks, .lst (hsD Wt)]) (n := 0) rfl
          have hln := len_dT (Ks := Ks) (S := [dT Ks, .lst (hsD Wt)]) (n := 0) rfl
          have hpt := put_dT (h := nextT ps held i) (Ks := Ks) (S := [dT Ks, .lst (hsD Wt)]) (n := 0) rfl hk hSL
          have hne : ¬ ((Ks.length : Nat) : Int) = 1000 := by omega
          have hrl : (hsD Wt).length < SL := by simpa [hsD] using hWL
          simp [es, eb, fl, hc, sh, hin, hk, hln, hne, hpt, hrl]
          simp [hsD]
        · have up : ∀ {m : Nat} {h : List Int}, Done n ps Ks m h → Done n ps (Ks ++ [nextT ps held i]) m h := fun d b hb hcan => List.mem_append_left _ (d b hb hcan)
          refine ⟨List.nodup_append.mpr ⟨I.nd, by simp, fun a ha b hb e => hk (by rw [← List.mem_singleton.mp hb, ← e]; exact ha)⟩, fun h hh => ?_, List.mem_append_left _ I.z, by simp; omega, fun h hh => ?_, List.mem_append_left _ I.hd, fun b hb hcan => ?_, fun h hh hw' hne => ?_⟩
          · rcases List.mem_append.mp hh with hh | hh
            · exact I.cm h hh
            · rw [List.mem_singleton.mp hh]; exact .s (I.cm _ I.hd) hi hc
          · rcases List.mem_append.mp hh with hh | hh
            · exact List.mem_append_left _ (I.w h hh)
            · exact List.mem_append_right _ hh
          · rcases Nat.lt_succ_iff_lt_or_eq.mp hb with h | h
            · exact up I.dn b h hcan
            · rw [h]; simp
          · rcases List.mem_append.mp hh with hh | hh
            · exact up (I.c h hh (fun z => hw' (List.mem_append_left _ z)) hne)
            · exact absurd (List.mem_append_right _ hh) hw'
  · rw [Bool.not_eq_true] at hc
    refine .inl ⟨_, _, _, _, _, rfl, .inr ?_, gc_same rfl, Ks, Wt, some (.int (i : Nat)), x7, rfl, rfl, ⟨I.nd, I.cm, I.z, I.l, I.w, I.hd, fun b hb hcan => ?_, I.c⟩, Nat.le_refl _⟩
    · unfold B1_p_all_come
      simp [es, fl, sh, hc]
    · rcases Nat.lt_succ_iff_lt_or_eq.mp hb with h | h
      · exact I.dn b h hcan
      · rw [h, hc] at hcan; cases hcan
end K16
set_option linter.all false
set_option maxRecDepth 100000
namespace K16
open J
theorem boxes_ok {n : Nat} {ps : List Pipe} (hp : ps.length ≤ 16) {held : List Int} {Ks Wt : List (List Int)} (I : Wk n ps held Ks Wt 0) (hw : 2 * (1000 - Ks.length) + Wt.length ≤ 2500) (x6 x7 : oD) :
    (∃ E' S', forS (Src.rng 0 n) (.nm 6) B1_p_all_come (Env1 n ps (some (.tup (dI held))) x6 x7) [dT Ks, .lst (hsD Wt)] = .nx E' S' ∧ ∃ Ks' Wt' y6 y7, E' = Env1 n ps (some (.tup (dI held))) y6 y7 ∧ S' = [dT Ks', .lst (hsD Wt')] ∧ Wk n ps held Ks' Wt' n ∧ 2 * (1000 - Ks'.length) + Wt'.length ≤ 2 * (1000 - Ks.length) + Wt.length) ∨
    ((forS (Src.rng 0 n) (.nm 6) B1_p_all_come (Env1 n ps (some (.tup (dI held))) x6 x7) [dT Ks, .lst (hsD Wt)]).out = true ∧ TooM n ps (forS (Src.rng 0 n) (.nm 6) B1_p_all_come (Env1 n ps (some (.tup (dI held))) x6 x7) [dT Ks, .lst (hsD Wt)])) := by
  refine rng_out (fun i E S => ∃ Ks' Wt' y6 y7, E = Env1 n ps (some (.tup (dI held))) y6 y7 ∧ S = [dT Ks', .lst (hsD Wt')] ∧ Wk n ps held Ks' Wt' i ∧ 2 * (1000 - Ks'.length) + Wt'.length ≤ 2 * (1000 - Ks.length) + Wt.length) (TooM n ps) ⟨Ks, Wt, x6, x7, rfl, rfl, I, Nat.le_refl _⟩ ?_
  rintro i E S hi ⟨Ks', Wt', y6, y7, rfl, rfl, I', hm⟩
  rcases box_turn hp hi I' (by omega) y6 y7 with ⟨E1, E2, S2, E3, S3, h1, h2, h3, Ks2, Wt2, z6, z7, e1, e2, e3, e4⟩ | h
  · exact .inl ⟨E1, E2, S2, E3, S3, h1, h2, h3, Ks2, Wt2, z6, z7, e1, e2, e3, by omega⟩
  · exact .inr h
theorem retF_hs {Ks : List (List Int)} (n : Nat) : retF 0 (.lst (sortD (hsD Ks))) [dT Ks, .lst []] = .ok (.lst (sortD (hsD Ks))) [] := by
  have h : D.flats (sortD (hsD Ks)) = true := by
    rw [flats_all, List.all_eq_true]
    intro d hd
    have := (sortD_perm _).mem_iff.mp hd
    simp only [hsD, List.mem_map] at this
    obtain ⟨h, _, rfl⟩ := this
    exact flats_ints h
  exact retF_0 h
theorem allcome_ok {n : Nat} {ps : List Pipe} (hf : FOk n ps) (hn : n ≤ 8) :
    (∃ Ks : List (List Int), Ks.Nodup ∧ (∀ h, h ∈ Ks ↔ Cm n ps h) ∧ Ks.length ≤ 1000 ∧ F_p_all_come [encF n ps] [] = .ok (.lst (sortD (hsD Ks))) []) ∨
    (∃ Ks : List (List Int), Ks.Nodup ∧ (∀ h ∈ Ks, Cm n ps h) ∧ Ks.length = 1001 ∧ F_p_all_come [encF n ps] [] = .exc "TooMany" [("most", .int 1000)] []) := by
  have hp := hf.l
  have key := whileGo_out (t := C3_p_all_come) (b := B2_p_all_come) (n := 2)
    (fun m E S => ∃ (Ks Wt : List (List Int)) (x5 x6 x7 : oD), E = Env1 n ps x5 x6 x7 ∧ S = [dT Ks, .lst (hsD Wt)] ∧ (Ks.Nodup ∧ (∀ h ∈ Ks, Cm n ps h) ∧ marksT ps ∈ Ks ∧ Ks.length ≤ 1000 ∧ (∀ h ∈ Wt, h ∈ Ks) ∧ ∀ h ∈ Ks, h ∉ Wt → Done n ps Ks n h) ∧ m = 2 * (1000 - Ks.length) + Wt.length ∧ m ≤ 2400)
    (fun E S => ∃ (Ks : List (List Int)) (x5 x6 x7 : oD), E = Env1 n ps x5 x6 x7 ∧ S = [dT Ks, .lst []] ∧ Ks.Nodup ∧ (∀ h, h ∈ Ks ↔ Cm n ps h) ∧ Ks.length ≤ 1000) (TooM n ps) (by
      rintro m E S ⟨Ks, Wt, x5, x6, x7, rfl, rfl, ⟨hnd, hcm, hz, hl, hw, hc⟩, rfl, hm⟩
      rcases List.eq_nil_or_concat Wt with rfl | ⟨Ws, here, rfl⟩
      · left
        refine ⟨?_, Ks, x5, x6, x7, rfl, rfl, hnd, fun h => ⟨hcm h, closed_all hz (fun h hh => hc h hh (by simp)) h⟩, hl⟩
        unfold C3_p_all_come Env1
        simp only [ev_tr, ev_var0, ev_varS, bind_ok]
        exact ktt_loc (xs := []) rfl
      · right
        rw [List.concat_eq_append] at *
        have hdn : hsD (Ws ++ [here]) = hsD Ws ++ [.tup (dI here)] := by simp [hsD]
        refine ⟨?_, ?_⟩
        · unfold C3_p_all_come Env1
          simp only [ev_tr, ev_var0, ev_varS, bind_ok]
          rw [ktt_loc (xs := hsD (Ws ++ [here])) rfl]
          simp [hsD]
        · have I : Wk n ps here Ks Ws 0 := ⟨hnd, hcm, hz, hl, fun h hh => hw h (by simp [hh]), hw here (by simp), fun b hb => absurd hb (by omega), fun h hh hw' hne => hc h hh (by simp [hw', hne])⟩
          have e0 : B2_p_all_come (Env1 n ps x5 x6 x7) [dT Ks, .lst (hsD (Ws ++ [here]))] = forS (Src.rng 0 n) (.nm 6) B1_p_all_come (Env1 n ps (some (.tup (dI here))) x6 x7) [dT Ks, .lst (hsD Ws)] := by
            unfold B2_p_all_come Env1
            have hpop : eMeth mPop (eVar 4) aNil [some (encF n ps), some (.int (n : Nat)), some (.tup (ps.map encP)), some (.loc 0), some (.loc 1), x5, x6, x7] [dT Ks, .lst (hsD (Ws ++ [here]))] = .ok (.tup (dI here)) [dT Ks, .lst (hsD Ws)] := by
              simp only [ev_meth, ev_var0, ev_varS, bind_ok]
              rw [km1o (by rfl), hdn]
              simp
            simp only [ev_seq, ev_set, hpop, toO_ok, kset, kseq_nx, List.set_cons_succ, List.set_cons_zero, ev_for, ev_rng1, ev_var0, ev_varS, bind_ok, krng1n (show n < 1000000 by omega), kfor]
          rw [e0]
          rcases boxes_ok hp I (by simp at hm; omega) x6 x7 with ⟨E', S', e, Ks', Wt', y6, y7, rfl, rfl, I', hm'⟩ | h
          · left
            refine ⟨_, _, _, _, 2 * (1000 - Ks'.length) + Wt'.length, .inl e, gc_same rfl, by simp; omega, Ks', Wt', _, y6, y7, rfl, rfl, ⟨I'.nd, I'.cm, I'.z, I'.l, I'.w, fun h hh hw' => ?_⟩, rfl, by simp at hm; omega⟩
            by_cases hne : h = here
            · rw [hne]; exact I'.dn
            · exact I'.c h hh hw' hne
          · exact .inr h) 1000000 (2 * (1000 - 1) + 1) (Env1 n ps none none none) [dT [marksT ps], .lst (hsD [marksT ps])] (by omega)
      ⟨[marksT ps], [marksT ps], none, none, none, rfl, rfl, ⟨by simp, fun h hh => by rw [List.mem_singleton.mp hh]; exact .z, by simp, by simp, fun h hh => hh, fun h hh hw' => absurd hh hw'⟩, by simp, by omega⟩
  have em := marks_eq hf
  have ec := check_ok hf
  have e1 : ∀ E : Env, E[0]? = some (some (encF n ps)) → eDisp1TL (eArgs (callF F_p_marks) (aCons (eVar 0) aNil)) (eC (.bl true)) E [] = .ok (.loc 0) [dT [marksT ps]] := fun E hE => by
    have v0 : eVar 0 E [] = .ok (encF n ps) [] := by unfold eVar; rw [hE]
    have v1 : eArgs (callF F_p_marks) (aCons (eVar 0) aNil) E [] = .ok (.tup (dI (marksT ps))) [] := by
      simp [v0, encF]
      have := em
      unfold encF at this
      rw [this]
      simp
    unfold eDisp1TL
    rw [v1]
    show kDisp1T (.tup (dI (marksT ps))) (.bl true) [] = _
    unfold kDisp1T
    rw [keyT_dI]
    rfl
  have e2 : ∀ E : Env, E[0]? = some (some (encF n ps)) → eArgs bLstL (aCons (eArgs (callF F_p_marks) (aCons (eVar 0) aNil)) aNil) E [dT [marksT ps]] = .ok (.loc 1) [dT [marksT ps], .lst (hsD [marksT ps])] := fun E hE => by
    have v0 : eVar 0 E [dT [marksT ps]] = .ok (encF n ps) [dT [marksT ps]] := by unfold eVar; rw [hE]
    simp [v0, encF]
    have := em
    unfold encF at this
    rw [this]
    simp [hsD]
  have e3 : S_p_all_come [some (encF n ps), none, none, none, none, none, none, none] [] = kSeq (sRet (eArgs bSortedD (aCons (eArgs bListT (aCons (eVar 3) aNil)) aNil))) (whileGo C3_p_all_come B2_p_all_come 2 1000000 (Env1 n ps none none none) [dT [marksT ps], .lst (hsD [marksT ps])]) := by
    unfold S_p_all_come
    have ec' := ec
    simp only [ev_seq, ev_expr, ev_args, ev_cons, ev_nil, ev_var0, bind_ok, kcons1, kcons2]
    have : callF F_p_check_flow [encF n ps] [] = .ok .non [] := by
      unfold encF at ec ⊢
      simp [ec]
    rw [this]
    simp only [toO_ok, kexpr, kseq_nx, ev_seq]
    have ea : sAsg (.tp [.nm 1, .nm 2]) (eVar 0) [some (encF n ps), none, none, none, none, none, none, none] [] = .nx [some (encF n ps), some (.int (n : Nat)), some (.tup (ps.map encP)), none, none, none, none, none] [] := by
      simp [encF]
    rw [ea]
    simp only [kseq_nx, ev_seq, ev_set]
    rw [e1 _ rfl]
    simp only [toO_ok, kset, kseq_nx, ev_seq, ev_set, List.set_cons_succ, List.set_cons_zero]
    rw [e2 _ rfl]
    simp only [toO_ok, kset, kseq_nx, ev_seq, ev_set, List.set_cons_succ, List.set_cons_zero, ev_while]
    rfl
  unfold F_p_all_come
  rw [fn_ev 1 8 _ rfl]
  simp only [List.map_cons, List.map_nil, List.cons_append, List.nil_append, List.replicate, List.length_nil]
  rcases key with ⟨E', S', e, Ks, x5, x6, x7, rfl, rfl, h1, h2, h3⟩ | ⟨_, E, S, e, Ks, h1, h2, h3⟩
  · left
    refine ⟨Ks, h1, h2, h3, ?_⟩
    rw [e3, e]
    have hl : bListT [.loc 0] [dT Ks, .lst []] = .ok (.lst (hsD Ks)) [dT Ks, .lst []] := by
      rw [b_listDT (ks := Ks.map iS) (ds := Ks.map fun _ => D.bl true) rfl (by simp [SL]; omega), keys_dT]
      rfl
    have hok : okSort (hsD Ks) = true := okSort_T (m := ps.length) (fun h hh => cm_len ((h2 h).mp hh)) h1
    have hs : bSortedD [.lst (hsD Ks)] [dT Ks, .lst []] = .ok (.lst (sortD (hsD Ks))) [dT Ks, .lst []] := by
      unfold bSortedD
      simp [lstAny, hok]
    unfold Env1
    simp [hl, hs]
    exact retF_hs 0
  · right
    refine ⟨Ks, h1, h2, h3, ?_⟩
    rw [e3, e]
    simp
end K16
set_option linter.all false
set_option maxRecDepth 100000
namespace K16
open J
/-! ### the law's walk -/
theorem Done.up {n : Nat} {ps : List Pipe} {Ks Ks' : List (List Int)} {m : Nat} {h : List Int} (d : Done n ps Ks m h) (s : ∀ x ∈ Ks, x ∈ Ks') : Done n ps Ks' m h := fun b hb hc => s _ (d b hb hc)
def EnvL (sc : D) (n : Nat) (ps : List Pipe) (x4 x5 x6 x7 x8 x9 x10 : oD) : Env := [some sc, some (.loc 0), some (encF n ps), some (.loc 1), x4, x5, x6, x7, x8, x9, x10]
structure In1 (n : Nat) (ps : List Pipe) (Ks0 More : List (List Int)) : Prop where
  nd : (Ks0 ++ More).Nodup
  cm : ∀ h ∈ Ks0 ++ More, Cm n ps h
theorem law_box {n : Nat} {ps : List Pipe} (hp : ps.length ≤ 16) {sc : D} {r : Row} {Ks0 Rows More : List (List Int)} {here : List Int} {i : Nat} (hi : i < n) (I : In1 n ps Ks0 More) (hh : here ∈ Ks0) (dn : Done n ps (Ks0 ++ More) i here) (hl1 : (Ks0 ++ More).length ≤ 100000) (x7 x8 x9 x10 : oD) :
    Turn (.nm 7) B1_p_law 3 (.int (0 + (i : Nat))) (EnvL sc n ps (some (.lst (hsD Rows))) (some (.loc 2)) (some (.tup (dI here))) x7 x8 x9 x10) [encRow r, dT (Ks0 ++ More), .lst (hsD More)] (fun E S => ∃ More' y7 y8, E = EnvL sc n ps (some (.lst (hsD Rows))) (some (.loc 2)) (some (.tup (dI here))) y7 y8 x9 x10 ∧ S = [encRow r, dT (Ks0 ++ More'), .lst (hsD More')] ∧ In1 n ps Ks0 More' ∧ Done n ps (Ks0 ++ More') (i + 1) here ∧ (∀ x ∈ More, x ∈ More') ∧ More'.length ≤ More.length + 1) := by
  have hl : here.length = ps.length := cm_len (I.cm _ (List.mem_append_left _ hh))
  have ec := can_eq (ps := ps) (held := here) n (i : Nat) hp hl
  have en := next_eq (ps := ps) (held := here) n (i : Nat) hp hl
  have e0 : (0 : Int) + (i : Nat) = (i : Nat) := by omega
  rw [e0]
  have ev : ∀ S : List D, eIf (tTr (eArgs (callF F_p_law_can) (aCons (eVar 2) (aCons (eVar 6) (aCons (eVar 7) aNil))))) (eArgs (callF F_p_law_next) (aCons (eVar 2) (aCons (eVar 6) (aCons (eVar 7) aNil)))) (eVar 6) [some sc, some (.loc 0), some (encF n ps), some (.loc 1), some (.lst (hsD Rows)), some (.loc 2), some (.tup (dI here)), some (.int (i : Nat)), x8, x9, x10] S = .ok (.tup (dI (if canT ps here i = true then nextT ps here i else here))) S := fun S => by
    unfold encF at ec en ⊢
    cases hc : canT ps here i <;> simp [ec, en, hc]
  generalize hth : (if canT ps here i = true then nextT ps here i else here) = th at ev
  have hcm : Cm n ps th := by
    rw [← hth]
    split
    · rename_i hc; exact .s (I.cm _ (List.mem_append_left _ hh)) hi hc
    · exact I.cm _ (List.mem_append_left _ hh)
  unfold EnvL
  by_cases hk : th ∈ Ks0 ++ More
  · refine ⟨_, _, _, _, _, rfl, .inl ?_, gc_same (S := [encRow r, dT (Ks0 ++ More), .lst (hsD More)]) rfl, More, some (.int (i : Nat)), some (.tup (dI th)), rfl, rfl, I, fun b hb hcan => ?_, fun x h => h, by omega⟩
    · unfold B1_p_law
      have hin := nin_dT (h := th) (Ks := Ks0 ++ More) (S := [encRow r, dT (Ks0 ++ More), .lst (hsD More)]) (n := 1) rfl
      have hk' : th ∈ Ks0 ∨ th ∈ More := by simpa using hk
      simp [-ev_if, ev, hin, hk']
    · rcases Nat.lt_succ_iff_lt_or_eq.mp hb with h | h
      · exact dn b h hcan
      · rw [h] at hcan ⊢
        rw [if_pos hcan] at hth
        rw [hth]; exact hk
  · have hSL : (Ks0 ++ More).length < SL := by unfold SL; omega
    have hML : (hsD More).length < SL := by simp [hsD] at hl1 ⊢; unfold SL; omega
    refine ⟨_, _, _, _, _, rfl, .inl ?_, gc_same (S := [encRow r, dT (Ks0 ++ (More ++ [th])), .lst (hsD (More ++ [th]))]) rfl, More ++ [th], some (.int (i : Nat)), some (.tup (dI th)), rfl, rfl, ?_, fun b hb hcan => ?_, fun x h => List.mem_append_left _ h, by simp⟩
    · unfold B1_p_law
      have hin := nin_dT (h := th) (Ks := Ks0 ++ More) (S := [encRow r, dT (Ks0 ++ More), .lst (hsD More)]) (n := 1) rfl
      have hpt := put_dT (h := th) (Ks := Ks0 ++ More) (S := [encRow r, dT (Ks0 ++ More), .lst (hsD More)]) (n := 1) rfl hk hSL
      have hk' : ¬ (th ∈ Ks0 ∨ th ∈ More) := by simpa using hk
      simp [-ev_if, ev, hin, hk', hpt, hML]
      simp [hsD]
    · refine ⟨?_, fun h hh => ?_⟩
      · rw [← List.append_assoc]
        exact List.nodup_append.mpr ⟨I.nd, by simp, fun a ha b hb e => hk (by rw [← List.mem_singleton.mp hb, ← e]; exact ha)⟩
      · rw [← List.append_assoc] at hh
        rcases List.mem_append.mp hh with hh | hh
        · exact I.cm h hh
        · rw [List.mem_singleton.mp hh]; exact hcm
    · rw [← List.append_assoc]
      rcases Nat.lt_succ_iff_lt_or_eq.mp hb with h | h
      · exact List.mem_append_left _ (dn b h hcan)
      · rw [h] at hcan ⊢
        rw [if_pos hcan] at hth
        rw [hth]; simp
theorem law_rows {n : Nat} {ps : List Pipe} (hn : n ≤ 8) (hp : ps.length ≤ 16) {sc : D} {r : Row} {Ks0 Rows : List (List Int)} (I : In1 n ps Ks0 []) (hr : ∀ h ∈ Rows, h ∈ Ks0) (hl : Rows.length ≤ 1000) (hk : Ks0.length ≤ 10000) (x6 x7 x8 x9 x10 : oD) :
    ∃ More y6 y7 y8, forS (.its (hsD Rows)) (.nm 6) B2_p_law (EnvL sc n ps (some (.lst (hsD Rows))) (some (.loc 2)) x6 x7 x8 x9 x10) [encRow r, dT Ks0, .lst []] = .nx (EnvL sc n ps (some (.lst (hsD Rows))) (some (.loc 2)) y6 y7 y8 x9 x10) [encRow r, dT (Ks0 ++ More), .lst (hsD More)] ∧ In1 n ps Ks0 More ∧ (∀ h ∈ Rows, Done n ps (Ks0 ++ More) n h) ∧ More.length ≤ 8000 := by
  obtain ⟨E', S', e, More, y6, y7, y8, rfl, rfl, h1, h2, h3⟩ := for_its Rows (fun h => D.tup (dI h)) (t := .nm 6) (b := B2_p_law) (E := EnvL sc n ps (some (.lst (hsD Rows))) (some (.loc 2)) x6 x7 x8 x9 x10) (S := [encRow r, dT Ks0, .lst []])
    (fun i E S => ∃ More y6 y7 y8, E = EnvL sc n ps (some (.lst (hsD Rows))) (some (.loc 2)) y6 y7 y8 x9 x10 ∧ S = [encRow r, dT (Ks0 ++ More), .lst (hsD More)] ∧ In1 n ps Ks0 More ∧ (∀ h ∈ Rows.take i, Done n ps (Ks0 ++ More) n h) ∧ More.length ≤ 8 * i) ⟨[], x6, x7, x8, rfl, by simp [hsD], I, by simp, by simp⟩ (by
      rintro i E S hi ⟨More, y6, y7, y8, rfl, rfl, I1, d1, l1⟩
      have hm : Rows[i] ∈ Ks0 := hr _ (List.getElem_mem hi)
      obtain ⟨E2, S2, e2, More2, z7, z8, rfl, rfl, I2, d2, s2, l2⟩ := for_rng (lo := 0) (n := n) (t := .nm 7) (b := B1_p_law) (E := EnvL sc n ps (some (.lst (hsD Rows))) (some (.loc 2)) (some (.tup (dI Rows[i]))) y7 y8 x9 x10) (S := [encRow r, dT (Ks0 ++ More), .lst (hsD More)])
        (fun j E S => ∃ More2 z7 z8, E = EnvL sc n ps (some (.lst (hsD Rows))) (some (.loc 2)) (some (.tup (dI Rows[i]))) z7 z8 x9 x10 ∧ S = [encRow r, dT (Ks0 ++ More2), .lst (hsD More2)] ∧ In1 n ps Ks0 More2 ∧ Done n ps (Ks0 ++ More2) j Rows[i] ∧ (∀ x ∈ More, x ∈ More2) ∧ More2.length ≤ More.length + j) ⟨More, y7, y8, rfl, rfl, I1, fun b hb => absurd hb (by omega), fun x h => h, by omega⟩ (by
          rintro j E S hj ⟨More2, z7, z8, rfl, rfl, I2, d2, s2, l2⟩
          obtain ⟨F1, F2, T2, F3, T3, h1, h2, h3, More3, w7, w8, rfl, rfl, I3, d3, s3, l3⟩ := law_box hp (sc := sc) (r := r) (Rows := Rows) hj I2 hm d2 (by simp; omega) z7 z8 x9 x10
          exact ⟨F1, F2, T2, _, _, h1, h2, h3, More3, w7, w8, rfl, rfl, I3, d3, fun x h => s3 x (s2 x h), by omega⟩)
      refine turn_nx (E2 := EnvL sc n ps (some (.lst (hsD Rows))) (some (.loc 2)) (some (.tup (dI Rows[i]))) z7 z8 x9 x10) (S2 := [encRow r, dT (Ks0 ++ More2), .lst (hsD More2)]) rfl ?_ rfl ⟨More2, _, z7, z8, rfl, rfl, I2, fun h hh => ?_, by omega⟩
      · unfold B2_p_law EnvL at *
        have k1 : ∀ S, kRng1 (.int ((n : Nat) : Int)) S = .ok (.rng 0 n) S := fun S => krng1n (by omega)
        simp only [List.set_cons_succ, List.set_cons_zero, ev_for, ev_rng1, ev_op, ev_var0, ev_varS, ev_c, bind_ok, kop1, kop2, encF, o_ixT, at0, List.getElem?_cons_zero, okO_s, k1, kfor]
        exact e2
      · rw [List.take_succ] at hh
        rcases List.mem_append.mp hh with hh | hh
        · exact (d1 h hh).up fun x hx => by
            rcases List.mem_append.mp hx with hx | hx
            · exact List.mem_append_left _ hx
            · exact List.mem_append_right _ (s2 x hx)
        · rw [List.getElem?_eq_getElem hi] at hh
          have : h = Rows[i] := by simpa using hh
          rw [this]; exact d2)
  exact ⟨More, y6, y7, y8, e, h1, fun h hh => h2 h (by simpa using hh), by omega⟩
end K16
set_option linter.all false
set_option maxRecDepth 100000
namespace K16
open J
theorem cmp_hs (Rs : List (List Int)) : cmpOk (.lst (hsD Rs)) = true := by
  have h1 : D.cmpbs (hsD Rs) = true := cmpbs_map (fun h : List Int => D.tup (dI h)) (fun h => cmpbs_map D.int (fun _ => rfl) h) Rs
  have h2 : D.depths (hsD Rs) ≤ 1 := depths_map (fun h : List Int => D.tup (dI h)) 1 (fun h => by
    have : D.depths (dI h) ≤ 0 := depths_map D.int 0 (fun _ => Nat.le_refl _) h
    show D.depths (dI h) + 1 ≤ 1
    omega) Rs
  have h3 : (D.lst (hsD Rs)).cmpb = true := h1
  have h4 : (D.lst (hsD Rs)).depth ≤ 64 := by
    show D.depths (hsD Rs) + 1 ≤ 64
    omega
  unfold cmpOk
  rw [h3]
  simp [h4]
theorem ne_hs (Rs : List (List Int)) (S : List D) : oNe (.lst (hsD Rs)) (.lst []) S = .ok (.bl (!Rs.isEmpty)) S := by
  rw [o_ne (x := .lst (hsD Rs)) (y := .lst []) (cmp_hs Rs) rfl]
  cases Rs <;> rfl
structure Wl (n : Nat) (ps : List Pipe) (Ks Rows : List (List Int)) : Prop where
  nd : Ks.Nodup
  cm : ∀ h ∈ Ks, Cm n ps h
  z : marksT ps ∈ Ks
  r : ∀ h ∈ Rows, h ∈ Ks
  rl : Rows.length ≤ Ks.length
  c : ∀ h ∈ Ks, h ∉ Rows → Done n ps Ks n h
def msr (Ks Rows : List (List Int)) : Nat := if Rows = [] then 0 else (1001 - Ks.length) + 1
theorem law_walk {n : Nat} {ps : List Pipe} (hn : n ≤ 8) (hp : ps.length ≤ 16) {sc : D} (hsc : sc.flat = true) {r : Row} :
    ∃ (Ks : List (List Int)) (x4 x5 x6 x7 x8 : oD), whileGoF C4_p_law B3_p_law 2 1000000 (EnvL sc n ps (some (.lst (hsD [marksT ps]))) none none none none none none) [encRow r, dT [marksT ps]] = .nx (EnvL sc n ps x4 x5 x6 x7 x8 none none) [encRow r, dT Ks] ∧ Ks.Nodup ∧ (∀ h ∈ Ks, Cm n ps h) ∧ (Ks.length ≤ 1000 → ∀ h, Cm n ps h → h ∈ Ks) ∧ Ks.length ≤ 10000 := by
  obtain ⟨E', S', e, Ks, x4, x5, x6, x7, x8, rfl, rfl, h1, h2, h3, h4⟩ := whileGoF_inv (t := C4_p_law) (b := B3_p_law) (n := 2)
    (fun m E S => ∃ (Ks Rows : List (List Int)) (x5 x6 x7 x8 : oD), E = EnvL sc n ps (some (.lst (hsD Rows))) x5 x6 x7 x8 none none ∧ S = [encRow r, dT Ks] ∧ Wl n ps Ks Rows ∧ m = msr Ks Rows ∧ Ks.length ≤ 10000)
    (fun E S => ∃ (Ks : List (List Int)) (x4 x5 x6 x7 x8 : oD), E = EnvL sc n ps x4 x5 x6 x7 x8 none none ∧ S = [encRow r, dT Ks] ∧ Ks.Nodup ∧ (∀ h ∈ Ks, Cm n ps h) ∧ (Ks.length ≤ 1000 → ∀ h, Cm n ps h → h ∈ Ks) ∧ Ks.length ≤ 10000) (by
      rintro m E S ⟨Ks, Rows, x5, x6, x7, x8, rfl, rfl, I, rfl, hb⟩
      have hln := len_dT (Ks := Ks) (S := [encRow r, dT Ks]) (n := 1) rfl
      by_cases hR : Rows = []
      · subst hR
        left
        refine ⟨?_, Ks, _, x5, x6, x7, x8, rfl, rfl, I.nd, I.cm, fun _ => closed_all I.z fun h hh => I.c h hh (by simp), hb⟩
        unfold C4_p_law EnvL
        simp only [ev_tand, ev_tv, ev_op, ev_var0, ev_varS, bind_ok, kop1, ev_args, ev_nil, b_lst0, kop2, ne_hs, ktv]
        rfl
      · have hne : (!Rows.isEmpty) = true := by cases Rows with | nil => exact absurd rfl hR | cons _ _ => rfl
        by_cases hk : Ks.length ≤ 1000
        · right
          have hk' : ((Ks.length : Nat) : Int) ≤ 1000 := by omega
          obtain ⟨More, y6, y7, y8, e, I2, d2, l2⟩ := law_rows hn hp (sc := sc) (r := r) (Ks0 := Ks) (Rows := Rows) ⟨by simpa using I.nd, by simpa using I.cm⟩ I.r (Nat.le_trans I.rl hk) (by omega) x6 x7 x8 none none
          refine ⟨?_, EnvL sc n ps (some (.loc 2)) (some (.loc 2)) y6 y7 y8 none none, [encRow r, dT (Ks ++ More), .lst (hsD More)], (EnvL sc n ps (some (.loc 2)) (some (.loc 2)) y6 y7 y8 none none).map (goneF 2 [encRow r, dT (Ks ++ More), .lst (hsD More)]), [encRow r, dT (Ks ++ More)], msr (Ks ++ More) More, .inl ?_, ?_, ?_, Ks ++ More, More, some (.lst (hsD More)), goneF 2 [encRow r, dT (Ks ++ More), .lst (hsD More)] y6, goneF 2 [encRow r, dT (Ks ++ More), .lst (hsD More)] y7, goneF 2 [encRow r, dT (Ks ++ More), .lst (hsD More)] y8, ?_, rfl, ?_, rfl, ?_⟩
          · unfold C4_p_law EnvL
            simp only [ev_tand, ev_tv, ev_op, ev_var0, ev_varS, bind_ok, kop1, ev_args, ev_cons, ev_nil, b_lst0, kop2, ne_hs, ktv, hne, ktand_t, kcons1, kcons2, hln, ev_c, o_le, hk', decide_true]
          · unfold B3_p_law
            unfold EnvL at *
            simp only [ev_seq, ev_set, ev_args, ev_nil, bind_ok, b_lstL0, toO_ok, kset, kseq_nx, List.set_cons_succ, List.set_cons_zero, List.length_cons, List.length_nil, List.cons_append, List.nil_append, ev_for, ev_iseq, ev_var0, ev_varS, kseqi, src_lst, kSrc_s, kfor]
            rw [show (0 + 1 + 1 : Nat) = 2 from rfl, e]
            simp
          · unfold gcF
            rw [if_neg (by simp)]
            rw [if_pos ⟨by simp, by simp [encRow, dT_flat]⟩]
            rfl
          · unfold msr
            rw [if_neg hR]
            by_cases hM : More = []
            · rw [if_pos hM]; omega
            · rw [if_neg hM]
              have := List.length_pos_iff.mpr hM
              simp only [List.length_append]
              omega
          · unfold EnvL
            have hfl : (D.lst (hsD More)).flat = true := hsD_flat More
            have hff : (encF n ps).flat = true := by
              unfold encF
              simp [flats_map encP (fun _ => rfl)]
            simp only [List.map_cons, List.map_nil, goneF_flat hsc, goneF_lt (show 0 < 2 by omega), goneF_lt (show 1 < 2 by omega), goneF_flat hff, goneF_new (n := 2) (k := 2) (S := [encRow r, dT (Ks ++ More), .lst (hsD More)]) (Nat.le_refl _) rfl hfl, goneF_none]
          · refine ⟨I2.nd, I2.cm, List.mem_append_left _ I.z, fun h hh => List.mem_append_right _ hh, by simp, fun h hh hw => ?_⟩
            rcases List.mem_append.mp hh with hh | hh
            · by_cases hr : h ∈ Rows
              · exact d2 h hr
              · exact (I.c h hh hr).up fun x hx => List.mem_append_left _ hx
            · exact absurd hh hw
          · simp; omega
        · left
          have hk' : ¬ ((Ks.length : Nat) : Int) ≤ 1000 := by omega
          refine ⟨?_, Ks, _, x5, x6, x7, x8, rfl, rfl, I.nd, I.cm, fun h => absurd h hk, hb⟩
          unfold C4_p_law EnvL
          simp only [ev_tand, ev_tv, ev_op, ev_var0, ev_varS, bind_ok, kop1, ev_args, ev_cons, ev_nil, b_lst0, kop2, ne_hs, ktv, hne, ktand_t, kcons1, kcons2, hln, ev_c, o_le, hk', decide_false]) 1000000 (msr [marksT ps] [marksT ps]) (EnvL sc n ps (some (.lst (hsD [marksT ps]))) none none none none none none) [encRow r, dT [marksT ps]] (by unfold msr; rw [if_neg (by simp)]; simp)
      ⟨[marksT ps], [marksT ps], none, none, none, none, rfl, rfl, ⟨by simp, fun h hh => by rw [List.mem_singleton.mp hh]; exact .z, by simp, fun h hh => hh, by simp, fun h hh hw' => absurd hh hw'⟩, rfl, by simp⟩
  exact ⟨Ks, x4, x5, x6, x7, x8, e, h1, h2, h3, h4⟩
end K16
set_option linter.all false
set_option maxRecDepth 100000
namespace K16
open J
theorem alike_int (i : Int) : F_p_law_alike 8 [.int i, .int i] [] = .ok (.bl true) [] := alike_self 8 (.int i) rfl (by show 0 < 8; omega)
theorem sort_shape (Ks : List (List Int)) : ∃ Ls : List (List Int), sortD (hsD Ks) = hsD Ls ∧ Ls.length = Ks.length := by
  have hp : (sortD (hsD Ks)).Perm (hsD Ks) := sortD_perm _
  have : ∀ xs : List D, (∀ d ∈ xs, ∃ h : List Int, d = .tup (dI h)) → ∃ Ls, xs = hsD Ls := fun xs => by
    induction xs with
    | nil => intro _; exact ⟨[], rfl⟩
    | cons d xs ih =>
      intro h
      obtain ⟨a, rfl⟩ := h d (by simp)
      obtain ⟨L, rfl⟩ := ih fun e he => h e (by simp [he])
      exact ⟨a :: L, rfl⟩
  obtain ⟨Ls, e⟩ := this _ fun d hd => by
    have := hp.mem_iff.mp hd
    simp only [hsD, List.mem_map] at this
    obtain ⟨h, _, rfl⟩ := this
    exact ⟨h, rfl⟩
  refine ⟨Ls, e, ?_⟩
  have := hp.length_eq
  rw [e] at this
  simpa [hsD] using this
theorem alike_hs {Ls : List (List Int)} (h : Ls.length < 1000000) (hl : ∀ x ∈ Ls, x.length < 1000000) : F_p_law_alike 8 [.lst (hsD Ls), .lst (hsD Ls)] [] = .ok (.bl true) [] := by
  refine alike_self 8 _ ?_ ?_
  · show (decide ((hsD Ls).length < 1000000) && agBs (hsD Ls)) = true
    have : ∀ L : List (List Int), (∀ x ∈ L, x.length < 1000000) → agBs (hsD L) = true := fun L => by
      induction L with
      | nil => intro _; rfl
      | cons a L ih =>
        intro h
        show (agB (.tup (dI a)) && agBs (hsD L)) = true
        rw [agB_T a (h a (by simp)), ih fun x hx => h x (by simp [hx])]
        rfl
    rw [this Ls hl]
    simp [hsD]; omega
  · show D.depths (hsD Ls) + 1 < 8
    have : D.depths (hsD Ls) ≤ 1 := dps_map (fun h : List Int => D.tup (dI h)) 1 (fun h => dp_T h) Ls
    omega
theorem law_true (ns : List Int) (h : ns.length ≤ 63) : ∃ S, F_p_law [.rdl (ns.map D.int)] [] = .ok (.bl true) S := by
  refine ⟨[], ?_⟩
  unfold F_p_law S_p_law
  rw [fn_ev 1 11 _ rfl]
  let r0 : Row := ⟨ns, 0, 9816, 0⟩
  have hr0 : D.lst [.rdl (ns.map D.int), .int 0, .int 9816, .int 0] = encRow r0 := rfl
  obtain ⟨n1', ps1, r1, e1, a1, a2, a3, a4, q1⟩ := any_ok r0 (by simp [r0])
  obtain ⟨n1, rfl⟩ := Int.eq_ofNat_of_zero_le (show 0 ≤ n1' by omega)
  obtain ⟨n2, ps2, r2, e2, b1, b2, b3, b4, q2⟩ := live_ok (mo := 4) (tp := 2) (by omega) (by omega) (by omega) r1 q1
  obtain ⟨n3, ps3, c3, r3, e3, d1, d2, d3, d4, d5, q3⟩ := flow_ok (mo := 3) (tp := 4) (by omega) (by omega) (by omega) r2 q2
  obtain ⟨d, r4, hd, e4, q4⟩ := pick_ok r3 [encF n1 ps1, encF n2 ps2, encF n3 ps3] (by simp) q3 (by simp) (by simp)
  have hq : ∃ (n : Nat) (q : List Pipe), d = encF n q ∧ 1 ≤ n ∧ n ≤ 5 ∧ q.length ≤ 6 ∧ ∀ p ∈ q, POk n 8 40000 p := by
    simp at hd
    rcases hd with rfl | rfl | rfl
    · exact ⟨n1, ps1, rfl, by omega, by omega, a3, fun p hp => (a4 p hp).le (by omega) (by omega)⟩
    · exact ⟨n2, ps2, rfl, b1, by omega, b3, b4⟩
    · exact ⟨n3, ps3, rfl, d1, by omega, d3, fun p hp => (d5 p hp).ok.le (by omega) (by omega)⟩
  obtain ⟨n, q, rfl, hn1, hn5, hl6, hP⟩ := hq
  have hF : FOk n q := ⟨by omega, by omega, by omega, fun p hp => (hP p hp).le (by omega) (by omega)⟩
  have hsc : (D.rdl (ns.map D.int)).flat = true := by simp
  generalize hscr : D.rdl (ns.map D.int) = scr at *
  have hsome := some_eq n (ps := q) (show q.length ≤ 16 by omega)
  obtain ⟨Ks, y4, y5, y6, y7, y8, eW, w1, w2, w3, w4⟩ := law_walk (n := n) (ps := q) (by omega) (by omega) hsc (r := r4)
  have hlen : ∀ h ∈ Ks, h.length < 1000000 := fun h hh => by rw [cm_len (w2 h hh)]; omega
  have hokS : okSort (hsD Ks) = true := okSort_T (m := q.length) (fun h hh => cm_len (w2 h hh)) w1
  -- found, rows = ..
  have e5 : ∀ E : Env, E[2]? = some (some (encF n q)) → eDisp1TL (eArgs (callF F_p_law_some) (aCons (eVar 2) aNil)) (eC (.bl true)) E [encRow r4] = .ok (.loc 1) [encRow r4, dT [marksT q]] := fun E hE => by
    have v0 : ∀ S, eVar 2 E S = .ok (encF n q) S := fun S => by unfold eVar; rw [hE]
    have v1 : eArgs (callF F_p_law_some) (aCons (eVar 2) aNil) E [encRow r4] = .ok (.tup (dI (marksT q))) [encRow r4] := by
      unfold encF at hsome v0
      simp [v0, hsome]
    unfold eDisp1TL
    rw [v1]
    show kDisp1T (.tup (dI (marksT q))) (.bl true) [encRow r4] = _
    unfold kDisp1T
    rw [keyT_dI]
    rfl
  have e6 : ∀ E : Env, E[2]? = some (some (encF n q)) → eArgs bLst (aCons (eArgs (callF F_p_law_some) (aCons (eVar 2) aNil)) aNil) E [encRow r4, dT [marksT q]] = .ok (.lst (hsD [marksT q])) [encRow r4, dT [marksT q]] := fun E hE => by
    have v0 : ∀ S, eVar 2 E S = .ok (encF n q) S := fun S => by unfold eVar; rw [hE]
    unfold encF at hsome v0
    simp [v0, hsome, hsD]
  have e7 : ∀ E : Env, E[2]? = some (some (encF n q)) → (aCons (eDisp1TL (eArgs (callF F_p_law_some) (aCons (eVar 2) aNil)) (eC (.bl true))) (aCons (eArgs bLst (aCons (eArgs (callF F_p_law_some) (aCons (eVar 2) aNil)) aNil)) aNil)) E [encRow r4] = .ok [.loc 1, .lst (hsD [marksT q])] [encRow r4, dT [marksT q]] := fun E hE => by
    rw [ev_cons, e5 E hE, bind_ok, kcons1, ev_cons, e6 E hE, bind_ok, kcons1, ev_nil]
    rfl
  have k1 : kPar [3, 4] [some scr, some (.loc 0), some (encF n q), none, none, none, none, none, none, none, none] ((aCons (eDisp1TL (eArgs (callF F_p_law_some) (aCons (eVar 2) aNil)) (eC (.bl true))) (aCons (eArgs bLst (aCons (eArgs (callF F_p_law_some) (aCons (eVar 2) aNil)) aNil)) aNil)) [some scr, some (.loc 0), some (encF n q), none, none, none, none, none, none, none, none] [encRow r4]) = .nx (EnvL scr n q (some (.lst (hsD [marksT q]))) none none none none none none) [encRow r4, dT [marksT q]] := by
    rw [e7 _ rfl]
    rfl
  have kW : ∀ (m : MS), kSeq m (sWhileF 1000000 C4_p_law B3_p_law (EnvL scr n q (some (.lst (hsD [marksT q]))) none none none none none none) [encRow r4, dT [marksT q]]) = m (EnvL scr n q y4 y5 y6 y7 y8 none none) [encRow r4, dT Ks] := fun m => by
    unfold sWhileF
    rw [show ([encRow r4, dT [marksT q]] : List D).length = 2 from rfl, eW, kseq_nx]
  have hln := len_dT (Ks := Ks) (S := [encRow r4, dT Ks]) (n := 1) rfl
  have hst : okSort (hsD Ks) = true → kSortT (.loc 1) [encRow r4, dT Ks] = .ok (.lst (sortD (hsD Ks))) [encRow r4, dT Ks] := fun ok => by
    rw [ksortT (ks := Ks.map iS) (ds := Ks.map fun _ => D.bl true) rfl (by rw [keys_dT]; exact ok), keys_dT]
    rfl
  have hst := hst hokS
  obtain ⟨Ls, eLs, lLs⟩ := sort_shape Ks
  have hLs : ∀ x ∈ Ls, x.length < 1000000 := fun x hx => by
    have h1 : D.tup (dI x) ∈ sortD (hsD Ks) := by rw [eLs]; exact List.mem_map.mpr ⟨x, hx, rfl⟩
    have h2 := (sortD_perm _).mem_iff.mp h1
    simp only [hsD, List.mem_map] at h2
    obtain ⟨y, hy, e⟩ := h2
    injection e with e
    have := hlen y hy
    have e3 : (dI y).length = (dI x).length := by rw [e]
    simp [dI] at e3
    omega
  have hal := alike_hs (Ls := Ls) (by omega) hLs
  have hai := alike_int 1000
  -- the row's start
  have hst0 : sSeq (sSet 1 (eArgs bLstL (aCons (eVar 0) (aCons (eC (.int 0)) (aCons (eC (.int 9816)) (aCons (eC (.int 0)) aNil)))))) sNext [some scr, none, none, none, none, none, none, none, none, none, none] [] = .nx [some scr, some (.loc 0), none, none, none, none, none, none, none, none, none] [encRow r0] := by
    simp [hr0]
  have fl : D.flats (sortD (hsD Ks)) = true := by rw [eLs]; exact hsD_flat Ls
  have flL : D.flats (hsD Ls) = true := hsD_flat Ls
  have cal : callF F_p_all_come [encF n q] [encRow r4, dT Ks] = kC0 [encRow r4, dT Ks] (F_p_all_come [encF n q] []) := call0 _ (by simp [encF, flats_map encP (fun _ => rfl)])
  have flP : D.flats (q.map encP) = true := flats_map encP (fun _ => rfl) q
  have e2' : F_p_law_live [.loc 0, .int 4, .int 2] [encRow r1] = .ok (encF n2 ps2) [encRow r2] := e2
  have e3' : F_p_law_flow [.loc 0, .int 3, .int 4] [encRow r2] = .ok (encF n3 ps3) [encRow r3] := e3
  have A1 : sSet 1 (eArgs bLstL (aCons (eVar 0) (aCons (eC (.int 0)) (aCons (eC (.int 9816)) (aCons (eC (.int 0)) aNil))))) [some scr, none, none, none, none, none, none, none, none, none, none] [] = .nx [some scr, some (.loc 0), none, none, none, none, none, none, none, none, none] [encRow r0] := by
    simp [hr0]
  have A2 : sSet 2 (eArgs (callF F_p_law_pick) (aCons (eVar 1) (aCons (eArgs bLst (aCons (eArgs (callF F_p_law_any) (aCons (eVar 1) aNil)) (aCons (eArgs (callF F_p_law_live) (aCons (eVar 1) (aCons (eC (.int 4)) (aCons (eC (.int 2)) aNil)))) (aCons (eArgs (callF F_p_law_flow) (aCons (eVar 1) (aCons (eC (.int 3)) (aCons (eC (.int 4)) aNil)))) aNil)))) aNil))) [some scr, some (.loc 0), none, none, none, none, none, none, none, none, none] [encRow r0] = .nx [some scr, some (.loc 0), some (encF n q), none, none, none, none, none, none, none, none] [encRow r4] := by
    have f1 := flats_map encP (fun _ => rfl) ps1
    have f2 := flats_map encP (fun _ => rfl) ps2
    have f3 := flats_map encP (fun _ => rfl) ps3
    unfold encF at e1 e2' e3' e4 ⊢
    simp [e1, e2', e3', f1, f2, f3, e4, flP]
  have A5 : sSet 9 (eC .non) (EnvL scr n q y4 y5 y6 y7 y8 none none) [encRow r4, dT Ks] = .nx (EnvL scr n q y4 y5 y6 y7 y8 (some .non) none) [encRow r4, dT Ks] := rfl
  simp only [List.map_cons, List.map_nil, List.cons_append, List.nil_append, List.replicate, List.length_nil]
  rw [ev_seq, A1, kseq_nx, ev_seq, A2, kseq_nx, ev_seq, ev_par, k1, kseq_nx, ev_seq, kW, ev_seq, A5, kseq_nx, ev_seq, ev_tryFld]
  rcases allcome_ok hF (by omega) with ⟨Kp, p1, p2, p3, ep⟩ | ⟨Kp, p1, p2, p3, ep⟩
  · have hsub : ∀ h, h ∈ Ks → h ∈ Kp := fun h hh => (p2 h).mpr (w2 h hh)
    have hk1000 : Ks.length ≤ 1000 := Nat.le_trans (sub_len w1 hsub) p3
    have hperm : Kp.Perm Ks := perm_of p1 w1 fun h => ⟨fun hh => w3 hk1000 h ((p2 h).mp hh), hsub h⟩
    have hse : sortD (hsD Kp) = sortD (hsD Ks) := (sort_perm hokS (hperm.symm.map _)).symm
    rw [hse, eLs] at ep
    rw [eLs] at hst
    have hk' : ((Ks.length : Nat) : Int) ≤ 1000 := by omega
    rw [ep] at cal
    have A6 : sSet 9 (eArgs (callF F_p_all_come) (aCons (eVar 2) aNil)) (EnvL scr n q y4 y5 y6 y7 y8 (some .non) none) [encRow r4, dT Ks] = .nx (EnvL scr n q y4 y5 y6 y7 y8 (some (.lst (hsD Ls))) none) [encRow r4, dT Ks] := by
      unfold EnvL
      simp only [ev_set, ev_args, ev_cons, ev_nil, ev_var0, ev_varS, bind_ok, kcons1, kcons2, cal, kc0 (show D.flat (.lst (hsD Ls)) = true from flL), toO_ok, kset, List.set_cons_succ, List.set_cons_zero]
    rw [A6, ktryf_nx, kseq_nx]
    unfold EnvL
    simp [hln, hk', hst, flL, hal]
  · have hk1000 : ¬ Ks.length ≤ 1000 := fun hk => by
      have := sub_len p1 fun h hh => w3 hk h (p2 h hh)
      omega
    have hk' : ¬ ((Ks.length : Nat) : Int) ≤ 1000 := by omega
    rw [ep] at cal
    have A6 : sSet 9 (eArgs (callF F_p_all_come) (aCons (eVar 2) aNil)) (EnvL scr n q y4 y5 y6 y7 y8 (some .non) none) [encRow r4, dT Ks] = .exc "TooMany" [("most", .int 1000)] (EnvL scr n q y4 y5 y6 y7 y8 (some .non) none) [encRow r4, dT Ks] := by
      unfold EnvL
      simp only [ev_set, ev_args, ev_cons, ev_nil, ev_var0, ev_varS, bind_ok, kcons1, kcons2, cal, kc0_excf]
      rfl
    rw [A6, ktryf_exc (by simp [EnvL]) rfl, kseq_nx]
    unfold EnvL
    simp [hln, hk', hai]
end K16
open PySem PySem.W PyProof.Rows
set_option maxHeartbeats 0 in
theorem PySem.Challenge.cw_rateflows_k16_whole_all_tokens_that_come_holds : PySem.Challenge.rw_rateflows_k16_whole_all_tokens_that_come.Holds := by
  w_on; o_law; k_head; (case hw => w_witness2)
  k_fill
  refine L2.walk_of (l := PySem.Challenge.rw_rateflows_k16_whole_all_tokens_that_come) (n := 63) (k := 10) (x := "script") (CX := fun w => L2.CX PySem.Challenge.rw_rateflows_k16_whole_all_tokens_that_come.prog w) (sp := fun w => K16.spLaw _) rfl (by decide) rfl ⟨rfl, by decide, by decide⟩ (fun w h Y => PySem.W.kIn_of Y) ?F (fun _ _ a ns hl _ hS => ⟨a, ns, rfl, hS, hl, fun _ => rfl⟩) (fun _ _ _ _ _ h => K16.no_exc h)
  case F =>
    intro w mg fa h KX G hmg
    refine' K16.all_mk KX G hmg (K16.law_true) ?a0 ?l0 ?c0 ?k0 ?a1 ?l1 ?c1 ?k1 ?a2 ?l2 ?c2 ?k2 ?a3 ?l3 ?c3 ?k3 ?a4 ?l4 ?c4 ?k4 ?a5 ?l5 ?c5 ?k5 ?a6 ?l6 ?c6 ?k6 ?a7 ?l7 ?c7 ?k7 ?a8 ?l8 ?c8 ?k8 ?a9 ?l9 ?c9 ?k9 ?a10 ?l10 ?c10 ?k10 ?a11 ?l11 ?c11 ?k11 ?a12 ?l12 ?c12 ?k12 ?a13 ?l13 ?c13 ?k13 ?a14 ?l14 ?c14 ?k14 ?a15 ?l15 ?c15 ?k15 ?a16 ?l16 ?c16 ?k16 ?a17 ?l17 ?c17 ?k17 ?a18 ?l18 ?c18 ?k18 ?a19 ?l19 ?c19 ?k19 ?a20 ?l20 ?c20 ?k20 ?a21 ?l21 ?c21 ?k21 ?a22 ?l22 ?c22 ?k22 ?a23 ?l23 ?c23 ?k23 ?a24 ?l24 ?c24 ?k24 ?a25 ?l25 ?c25 ?k25 ?z_abs ?z_bool ?z_enumerate ?z_int ?z_isinstance ?z_len ?z_list ?z_range ?z_sorted ?z_str ?z_sum ?z_tuple ?z_MOST_BOXES ?z_MOST_MARKS ?z_MOST_PIPES ?z_MOST_RATE ?z_MOST_TOKENS ?xa_FlowError ?xb_FlowError ?xt_FlowError ?xa_TooMany ?xb_TooMany ?xt_TooMany ?xd_FlowError ?xd_TooMany ?xs_TooMany_FlowError ?xg_TooMany ?xh_TooMany ?xl_TooMany ?xm_TooMany ?xn ?xq ?xo_TooMany ?xk_TooMany ?xS_TooMany ?xL_TooMany ?xI_TooMany ?xT_TooMany ?xl2_TooMany ?xc_TooMany ?xki_TooMany ?xG_FlowError ?xR_FlowError ?xV_FlowError
    (case a0 => k_is)
    (case l0 => k_is)
    (case c0 => k_is)
    (case k0 => k_is)
    (case a1 => k_is)
    (case l1 => k_is)
    (case c1 => k_is)
    (case k1 => k_is)
    (case a2 => k_is)
    (case l2 => k_is)
    (case c2 => k_is)
    (case k2 => k_is)
    (case a3 => k_is)
    (case l3 => k_is)
    (case c3 => k_is)
    (case k3 => k_is)
    (case a4 => k_is)
    (case l4 => k_is)
    (case c4 => k_is)
    (case k4 => k_is)
    (case a5 => k_is)
    (case l5 => k_is)
    (case c5 => k_is)
    (case k5 => k_is)
    (case a6 => k_is)
    (case l6 => k_is)
    (case c6 => k_is)
    (case k6 => k_is)
    (case a7 => k_is)
    (case l7 => k_is)
    (case c7 => k_is)
    (case k7 => k_is)
    (case a8 => k_is)
    (case l8 => k_is)
    (case c8 => k_is)
    (case k8 => k_is)
    (case a9 => k_is)
    (case l9 => k_is)
    (case c9 => k_is)
    (case k9 => k_is)
    (case a10 => k_is)
    (case l10 => k_is)
    (case c10 => k_is)
    (case k10 => k_is)
    (case a11 => k_is)
    (case l11 => k_is)
    (case c11 => k_is)
    (case k11 => k_is)
    (case a12 => k_is)
    (case l12 => k_is)
    (case c12 => k_is)
    (case k12 => k_is)
    (case a13 => k_is)
    (case l13 => k_is)
    (case c13 => k_is)
    (case k13 => k_is)
    (case a14 => k_is)
    (case l14 => k_is)
    (case c14 => k_is)
    (case k14 => k_is)
    (case a15 => k_is)
    (case l15 => k_is)
    (case c15 => k_is)
    (case k15 => k_is)
    (case a16 => k_is)
    (case l16 => k_is)
    (case c16 => k_is)
    (case k16 => k_is)
    (case a17 => k_is)
    (case l17 => k_is)
    (case c17 => k_is)
    (case k17 => k_is)
    (case a18 => k_is)
    (case l18 => k_is)
    (case c18 => k_is)
    (case k18 => k_is)
    (case a19 => k_is)
    (case l19 => k_is)
    (case c19 => k_is)
    (case k19 => k_is)
    (case a20 => k_is)
    (case l20 => k_is)
    (case c20 => k_is)
    (case k20 => k_is)
    (case a21 => k_is)
    (case l21 => k_is)
    (case c21 => k_is)
    (case k21 => k_is)
    (case a22 => k_is)
    (case l22 => k_is)
    (case c22 => k_is)
    (case k22 => k_is)
    (case a23 => k_is)
    (case l23 => k_is)
    (case c23 => k_is)
    (case k23 => k_is)
    (case a24 => k_is)
    (case l24 => k_is)
    (case c24 => k_is)
    (case k24 => k_is)
    (case a25 => k_is)
    (case l25 => k_is)
    (case c25 => k_is)
    (case k25 => k_is)
    (case z_abs => k_is)
    (case z_bool => k_is)
    (case z_enumerate => k_is)
    (case z_int => k_is)
    (case z_isinstance => k_is)
    (case z_len => k_is)
    (case z_list => k_is)
    (case z_range => k_is)
    (case z_sorted => k_is)
    (case z_str => k_is)
    (case z_sum => k_is)
    (case z_tuple => k_is)
    (case z_MOST_BOXES => k_is)
    (case z_MOST_MARKS => k_is)
    (case z_MOST_PIPES => k_is)
    (case z_MOST_RATE => k_is)
    (case z_MOST_TOKENS => k_is)
    (case xa_FlowError => k_is)
    (case xb_FlowError => k_is)
    (case xt_FlowError => k_is)
    (case xa_TooMany => k_is)
    (case xb_TooMany => k_is)
    (case xt_TooMany => k_is)
    (case xd_FlowError => k_is)
    (case xd_TooMany => k_is)
    (case xs_TooMany_FlowError => k_is)
    (case xg_TooMany => k_is)
    (case xh_TooMany => k_is)
    (case xl_TooMany => k_is)
    (case xm_TooMany => k_is)
    (case xn => k_is)
    (case xq => k_is)
    (case xo_TooMany => k_is)
    (case xk_TooMany => k_is)
    (case xS_TooMany => k_is)
    (case xL_TooMany => k_is)
    (case xI_TooMany => k_is)
    (case xT_TooMany => k_is)
    (case xl2_TooMany => k_is)
    (case xc_TooMany => k_is)
    (case xki_TooMany => k_is)
    (case xG_FlowError => k_is)
    (case xR_FlowError => k_is)
    (case xV_FlowError => k_is)
