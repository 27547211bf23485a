import PyProof.Rows.All
import PySem.PyData
import HandS.Text
import HandS.ForMost
import HandS.ForExc
import HandS.TupAny
import HandS.IsInst
import HandS.Deep
import HandS.TupMul
import KE.KTupSum
import HandS.WordsDict
import HandS.Zip
import KE.GoesEnum
import KE.GoesZip
import KE.GoesMore
import HandS.Flt
import HandS.Conv
import KE.DatumOrd
import HandS.Style
import HandS.SortInts
import KE.DataFind
import HandS.DictComp
import HandS.TupSets
import HandS.Iter
import HandS.Gcd
import HandS.SortKw
import HandS.DictTup
import HandS.ExcIs
import PyProof.DictStraight
import KE.SortData
import HandS.SortOrd
import HandS.ExcInit
import HandS.ExcField
import HandS.FStr
import KE.KExcIs
import KE.DatumIndex
import KE.DataMinMax
import HandS.SetKeys
import PyProof.DictMoreH
import PyProof.ListMulRight
import KE.DataMinKey
import HandS.TryOnly
import KE.KDictSum
import KE.KDictCopyH
import KE.KDictWalk
import HandS.TupLen
import PyProof.EnumStmt
import PyProof.ListRange
import PyProof.ListNew
import HandS.SetFor
import PySem.Challenge.RW_rateflows_k76_across_folds
/-! The plain reading of a program: values without a heap, what an expression, a statement, a def gives. -/
set_option linter.all false
namespace J
open PySem (Str)
abbrev Ky := Sum Int Str
inductive D where
  | non | bl (b : Bool) | int (i : Int) | str (x : Str) | ty (n : String)
  | tup (ds : List D) | lst (ds : List D) | rdl (ds : List D) | dct (ks : List Ky) (ds : List D)
  | dcT (ks : List (List Ky)) (ds : List D)
  | tuk (ds : List D)
  | loc (n : Nat)
instance : Inhabited D := ⟨.non⟩
abbrev Env := List (Option D)
inductive R (α : Type) where
  | ok (a : α) (S : List D)
  | exc (c : Str) (fs : List (Str × D)) (S : List D)
  | bad
inductive O where
  | nx (E : Env) (S : List D)
  | rt (d : D) (S : List D)
  | bk (E : Env) (S : List D)
  | ct (E : Env) (S : List D)
  | exc (c : Str) (fs : List (Str × D)) (E : Env) (S : List D)
  | bad
abbrev ME := Env → List D → R D
abbrev MA := Env → List D → R (List D)
abbrev MT := Env → List D → R Bool
abbrev MS := Env → List D → O
abbrev MF := List D → List D → R D

mutual
def D.flat : D → Bool
  | .tup ds => D.flats ds
  | .lst ds => D.flats ds
  | .rdl ds => D.flats ds
  | .dct _ ds => D.flats ds
  | .dcT _ ds => D.flats ds
  | .tuk ds => D.flats ds
  | .loc _ => false
  | _ => true
def D.flats : List D → Bool
  | [] => true
  | d :: ds => d.flat && D.flats ds
end
mutual
def D.depth : D → Nat
  | .tup ds => D.depths ds + 1
  | .lst ds => D.depths ds + 1
  | .rdl ds => D.depths ds + 1
  | .dct _ ds => D.depths ds + 1
  | .dcT _ ds => D.depths ds + 1
  | .tuk ds => D.depths ds + 1
  | _ => 0
def D.depths : List D → Nat
  | [] => 0
  | d :: ds => max d.depth (D.depths ds)
end
mutual
def D.eqB : D → D → Bool
  | .non, .non => true
  | .bl a, .bl b => a == b
  | .bl a, .int j => (if a then 1 else 0) == j
  | .int i, .bl b => i == (if b then 1 else 0)
  | .int i, .int j => i == j
  | .str x, .str y => x == y
  | .tup xs, .tup ys => D.eqBs xs ys
  | .lst xs, .lst ys => D.eqBs xs ys
  | .rdl xs, .lst ys => D.eqBs xs ys
  | .lst xs, .rdl ys => D.eqBs xs ys
  | .rdl xs, .rdl ys => D.eqBs xs ys
  | _, _ => false
def D.eqBs : List D → List D → Bool
  | [], [] => true
  | x :: xs, y :: ys => x.eqB y && D.eqBs xs ys
  | _, _ => false
end
mutual
def D.cmpb : D → Bool
  | .tup ds => D.cmpbs ds
  | .lst ds => D.cmpbs ds
  | .rdl ds => D.cmpbs ds
  | .dct _ _ => false
  | .dcT _ _ => false
  | .tuk _ => false
  | .loc _ => false
  | .ty _ => false
  | .str x => x.cps.all (· < 1114112)
  | .non => true
  | .bl _ => true
  | .int _ => true
def D.cmpbs : List D → Bool
  | [] => true
  | d :: ds => d.cmpb && D.cmpbs ds
end

/-! ### ends in a row -/
def R.bind {α β : Type} (r : R α) (k : α → List D → R β) : R β := match r with
  | .ok a S => k a S
  | .exc c fs S => .exc c fs S
  | .bad => .bad
def R.toO (r : R D) (E : Env) (k : D → List D → O) : O := match r with
  | .ok a S => k a S
  | .exc c fs S => .exc c fs E S
  | .bad => .bad
def R.tO (r : R Bool) (E : Env) (k : Bool → List D → O) : O := match r with
  | .ok a S => k a S
  | .exc c fs S => .exc c fs E S
  | .bad => .bad
@[simp] theorem bind_ok {α β : Type} (a : α) (S : List D) (k : α → List D → R β) : (R.ok a S).bind k = k a S := id rfl
@[simp] theorem toO_ok (a : D) (S : List D) (E : Env) (k : D → List D → O) : (R.ok a S).toO E k = k a S := id rfl
@[simp] theorem tO_ok (a : Bool) (S : List D) (E : Env) (k : Bool → List D → O) : (R.ok a S).tO E k = k a S := id rfl
def onBl {α : Type} (d : D) (k : Bool → R α) : R α := match d with
  | .bl c => k c
  | _ => .bad
@[simp] theorem onBl_bl {α : Type} (c : Bool) (k : Bool → R α) : onBl (.bl c) k = k c := id rfl
def SL : Nat := 16777216

/-! ### what is in a value -/
def lstOf (S : List D) : D → Option (List D)
  | .lst ds => some ds
  | .loc n => match S[n]? with
    | some (.lst ds) => some ds
    | _ => none
  | _ => none
def seqOf (S : List D) : D → Option (List D)
  | .tup ds => some ds
  | .lst ds => some ds
  | .rdl ds => some ds
  | .loc n => match S[n]? with
    | some (.lst ds) => some ds
    | _ => none
  | _ => none
def seen (S : List D) : D → D
  | .loc n => match S[n]? with
    | some (.lst ds) => .lst ds
    | _ => .loc n
  | d => d
def keyOf : D → Option Ky
  | .int i => some (.inl i)
  | .str x => some (.inr x)
  | _ => none
def keysOf : List D → Option (List Ky)
  | [] => some []
  | d :: ds => match keyOf d, keysOf ds with
    | some k, some ks => some (k :: ks)
    | _, _ => none
def keyT : D → Option (List Ky)
  | .tup ds => keysOf ds
  | _ => none
def dctOf (S : List D) : D → Option (List Ky × List D)
  | .dct ks ds => some (ks, ds)
  | .loc n => match S[n]? with
    | some (.dct ks ds) => some (ks, ds)
    | _ => none
  | _ => none
def ixOf (n : Nat) (i : Int) : Option Nat := if 0 ≤ i then (if i < n then some i.toNat else none) else if -(n : Int) ≤ i then some (i + n).toNat else none
def atOf (xs : List D) (i : Int) : Option D := (ixOf xs.length i).bind fun j => xs[j]?

/-! ### expressions -/
def eVar (i : Nat) : ME := fun E S => match E[i]? with
  | some (some d) => .ok d S
  | _ => .bad
def eC (d : D) : ME := fun _ S => .ok d S
def eOp (f : D → D → List D → R D) (a b : ME) : ME := fun E S => (a E S).bind fun x S1 => (b E S1).bind fun y S2 => f x y S2
def eUn (f : D → List D → R D) (a : ME) : ME := fun E S => (a E S).bind fun x S1 => f x S1
def aNil : MA := fun _ S => .ok [] S
def aCons (a : ME) (r : MA) : MA := fun E S => (a E S).bind fun x S1 => (r E S1).bind fun xs S2 => .ok (x :: xs) S2
def eArgs (f : List D → List D → R D) (a : MA) : ME := fun E S => (a E S).bind fun xs S1 => f xs S1
def eIf (t : MT) (a b : ME) : ME := fun E S => (t E S).bind fun c S1 => if c = true then a E S1 else b E S1
def eAnd (a b : ME) : ME := fun E S => (a E S).bind fun x S1 => onBl x fun c => if c = true then b E S1 else .ok (.bl false) S1
def eOr (a b : ME) : ME := fun E S => (a E S).bind fun x S1 => onBl x fun c => if c = true then .ok (.bl true) S1 else b E S1
def eNot (a : ME) : ME := fun E S => (a E S).bind fun x S1 => onBl x fun c => .ok (.bl (!c)) S1
def eChain (f h : D → D → List D → R D) (a b c : ME) : ME := fun E S => (a E S).bind fun x S1 => (b E S1).bind fun y S2 => (f x y S2).bind fun t S3 => onBl t fun k => if k = true then (c E S3).bind fun z S4 => h y z S4 else .ok (.bl false) S3
/-! tests -/
def tV (a : ME) : MT := fun E S => (a E S).bind fun x S1 => onBl x fun c => .ok c S1
def truth (S : List D) : D → Option Bool
  | .bl c => some c
  | .int i => some (i != 0)
  | .non => some false
  | .dct ks _ => some (!ks.isEmpty)
  | .tup ds => some (!ds.isEmpty)
  | .lst ds => some (!ds.isEmpty)
  | .rdl ds => some (!ds.isEmpty)
  | .loc n => match S[n]? with
    | some (.lst ds) => some (!ds.isEmpty)
    | some (.dct ks _) => some (!ks.isEmpty)
    | _ => none
  | _ => none
def tTr (a : ME) : MT := fun E S => (a E S).bind fun x S1 => match truth S1 x with
  | some c => .ok c S1
  | none => .bad
def tAnd (a b : MT) : MT := fun E S => (a E S).bind fun c S1 => if c = true then b E S1 else .ok false S1
def tOr (a b : MT) : MT := fun E S => (a E S).bind fun c S1 => if c = true then .ok true S1 else b E S1
def tNot (a : MT) : MT := fun E S => (a E S).bind fun c S1 => .ok (!c) S1
def tYes : MT := fun _ S => .ok true S

/-! ### operators by values -/
def oAdd : D → D → List D → R D
  | .int i, .int j, S => .ok (.int (i + j)) S
  | .tup xs, .tup ys, S => if xs.length + ys.length ≤ SL then .ok (.tup (xs ++ ys)) S else .bad
  | x, y, S => match lstOf S x, lstOf S y with
    | some xs, some ys => if xs.length + ys.length ≤ SL then .ok (.lst (xs ++ ys)) S else .bad
    | _, _ => .bad
def iAdd : D → D → List D → R D
  | .int i, .int j, S => .ok (.int (i + j)) S
  | _, _, _ => .bad
def oSub : D → D → List D → R D
  | .int i, .int j, S => .ok (.int (i - j)) S
  | _, _, _ => .bad
def smallI (i : Int) : Bool := decide (-(18446744073709551616) < i) && decide (i < 18446744073709551616)
def oMul : D → D → List D → R D
  | .int i, .int j, S => if smallI i = true ∨ smallI j = true then .ok (.int (i * j)) S else .bad
  | .tup xs, .int k, S => if xs ≠ [] ∧ 1 ≤ k ∧ k ≤ 1000 ∧ xs.length ≤ 1000 then .ok (.tup (List.replicate k.toNat xs).flatten) S else .bad
  | x, .int k, S => match lstOf S x with
    | some xs => if -9223372036854775808 ≤ k ∧ k < 9223372036854775808 ∧ xs.length * k.toNat ≤ SL then .ok (.lst (List.replicate k.toNat xs).flatten) S else .bad
    | none => .bad
  | _, _, _ => .bad
def mkL : R D → R D
  | .ok (.lst ds) S => .ok (.loc S.length) (S ++ [.lst ds])
  | _ => .bad
def oMulL (x y : D) (S : List D) : R D := mkL (oMul x y S)
def oDiv : D → D → List D → R D
  | .int i, .int j, S => if j ≠ 0 ∧ j.natAbs < 1073741824 then .ok (.int (i.fdiv j)) S else .bad
  | _, _, _ => .bad
def oMod : D → D → List D → R D
  | .int i, .int j, S => if j ≠ 0 then .ok (.int (i.fmod j)) S else .bad
  | _, _, _ => .bad
def oPow : D → D → List D → R D
  | .int i, .int j, S => if 0 ≤ j ∧ j ≤ 1000000 ∧ i.natAbs < 18446744073709551616 then .ok (.int (i ^ j.toNat)) S else .bad
  | _, _, _ => .bad
def oLt : D → D → List D → R D
  | .int i, .int j, S => .ok (.bl (decide (i < j))) S
  | _, _, _ => .bad
def oLe : D → D → List D → R D
  | .int i, .int j, S => .ok (.bl (decide (i ≤ j))) S
  | _, _, _ => .bad
def oGt : D → D → List D → R D
  | .int i, .int j, S => .ok (.bl (decide (j < i))) S
  | _, _, _ => .bad
def oGe : D → D → List D → R D
  | .int i, .int j, S => .ok (.bl (decide (j ≤ i))) S
  | _, _, _ => .bad
def cmpOk (x : D) : Bool := x.cmpb && decide (x.depth ≤ 64)
def oEq (x y : D) (S : List D) : R D := if cmpOk (seen S x) = true ∧ cmpOk (seen S y) = true then .ok (.bl (D.eqB (seen S x) (seen S y))) S else .bad
def oNe (x y : D) (S : List D) : R D := if cmpOk (seen S x) = true ∧ cmpOk (seen S y) = true then .ok (.bl (!D.eqB (seen S x) (seen S y))) S else .bad
def D.isNon : D → Bool
  | .non => true
  | _ => false
def oIsN (x : D) (S : List D) : R D := .ok (.bl x.isNon) S
def oNotN (x : D) (S : List D) : R D := .ok (.bl (!x.isNon)) S
def oNeg : D → List D → R D
  | .int i, S => .ok (.int (-i)) S
  | _, _ => .bad
def keyIn (ks : List Ky) (k : Ky) : Bool := ks.any fun q => decide (q = k)
def inD (x : D) (xs : List D) : Bool := xs.any fun y => y.eqB x
def oIn (x y : D) (S : List D) : R D := match seqOf S y with
  | some xs => if cmpOk (seen S x) = true ∧ xs.all cmpOk = true then .ok (.bl (inD (seen S x) xs)) S else .bad
  | none => match dctOf S y, keyOf x with
    | some (ks, _), some k => .ok (.bl (keyIn ks k)) S
    | _, _ => .bad
def oNin (x y : D) (S : List D) : R D := match seqOf S y with
  | some xs => if cmpOk (seen S x) = true ∧ xs.all cmpOk = true then .ok (.bl (!inD (seen S x) xs)) S else .bad
  | none => match dctOf S y, keyOf x with
    | some (ks, _), some k => .ok (.bl (!keyIn ks k)) S
    | _, _ => .bad
def getK : List Ky → List D → Ky → Option D
  | q :: ks, d :: ds, k => if q = k then some d else getK ks ds k
  | _, _, _ => none
def oIx (x i : D) (S : List D) : R D := match seqOf S x, i with
  | some xs, .int k => match atOf xs k with
    | some d => .ok d S
    | none => .bad
  | _, _ => match dctOf S x, keyOf i with
    | some (ks, ds), some k => match getK ks ds k with
      | some d => .ok d S
      | none => .bad
    | _, _ => .bad
def sIxOf (n d : Nat) : Option Int → Nat
  | none => d
  | some v => if v < 0 then (v + (n : Int)).toNat else min v.toNat n
def cutOf (xs : List D) (lo hi : Option Int) : List D := (xs.drop (sIxOf xs.length 0 lo)).take (sIxOf xs.length xs.length hi - sIxOf xs.length 0 lo)
def ePart (a : Option ME) : Env → List D → R (Option Int) := match a with
  | none => fun _ S => .ok none S
  | some m => fun E S => (m E S).bind fun x S1 => match x with
    | .int i => .ok (some i) S1
    | _ => .bad
def oSl (x : D) (lo hi : Option Int) (S : List D) : R D := match x with
  | .tup xs => .ok (.tup (cutOf xs lo hi)) S
  | _ => match seqOf S x with
    | some xs => .ok (.lst (cutOf xs lo hi)) S
    | none => .bad
def eSl (a : ME) (lo hi : Option ME) : ME := fun E S => (a E S).bind fun x S1 => (ePart lo E S1).bind fun l S2 => (ePart hi E S2).bind fun h S3 => oSl x l h S3

/-! ### built-ins by their arguments -/
def bTup (xs : List D) (S : List D) : R D := if xs.length ≤ SL then .ok (.tup xs) S else .bad
def bLst (xs : List D) (S : List D) : R D := if xs.length ≤ SL then .ok (.lst xs) S else .bad
def bLstL (xs : List D) (S : List D) : R D := if xs.length ≤ SL then .ok (.loc S.length) (S ++ [.lst xs]) else .bad
def bLen : List D → List D → R D
  | [x], S => match seqOf S x with
    | some xs => .ok (.int xs.length) S
    | none => match dctOf S x with
      | some (ks, _) => .ok (.int ks.length) S
      | none => .bad
  | _, _ => .bad
def bInt : List D → List D → R D
  | [.int i], S => .ok (.int i) S
  | [.bl b], S => .ok (.int (if b then 1 else 0)) S
  | _, _ => .bad
def bAbs : List D → List D → R D
  | [.int i], S => .ok (.int (if i < 0 then -i else i)) S
  | _, _ => .bad
def intsOf : List D → Option (List Int)
  | [] => some []
  | .int i :: r => (intsOf r).map (i :: ·)
  | _ :: _ => none
def bSum : List D → List D → R D
  | [x], S => match seqOf S x with
    | some xs => match intsOf xs with
      | some ns => .ok (.int ns.sum) S
      | none => .bad
    | none => .bad
  | _, _ => .bad
def bTuple : List D → List D → R D
  | [x], S => match seqOf S x with
    | some xs => .ok (.tup xs) S
    | none => .bad
  | _, _ => .bad
def bList : List D → List D → R D
  | [x], S => match seqOf S x with
    | some xs => .ok (.lst xs) S
    | none => .bad
  | _, _ => .bad
def bListL : List D → List D → R D
  | [x], S => match seqOf S x with
    | some xs => .ok (.loc S.length) (S ++ [.lst xs])
    | none => .bad
  | _, _ => .bad
def tyOf (S : List D) : D → Option String
  | .non => some "NoneType"
  | .bl _ => some "bool"
  | .int _ => some "int"
  | .str _ => some "str"
  | .tup _ => some "tuple"
  | .tuk _ => some "tuple"
  | .lst _ => some "list"
  | .rdl _ => some "list"
  | .dct _ _ => some "dict"
  | .loc n => match S[n]? with
    | some (.lst _) => some "list"
    | some (.dct _ _) => some "dict"
    | _ => none
  | _ => none
def isiB (t n : String) : Bool := t == n || (t == "bool" && n == "int")
def isiNames : List String := ["bool", "int", "str", "tuple", "list", "dict"]
def oIsi (ns : List String) (x : D) (S : List D) : R D := match tyOf S x with
  | some t => .ok (.bl (ns.any (isiB t))) S
  | none => .bad
def bMax3 : List D → List D → R D
  | [.int i, .int j, .int k], S => .ok (.int (if k > (if j > i then j else i) then k else (if j > i then j else i))) S
  | _, _ => .bad
def kDisp1 (x y : D) (S : List D) : R D := match keyOf x with
  | some q => .ok (.loc S.length) (S ++ [.dct [q] [y]])
  | none => .bad
def eDisp1L (k v : ME) : ME := fun E S => (k E S).bind fun x S1 => (v E S1).bind fun y S2 => kDisp1 x y S2
def eDctL : ME := fun _ S => .ok (.loc S.length) (S ++ [.dct [] []])
def eDct : ME := fun _ S => .ok (.dct [] []) S
def bMax2 : List D → List D → R D
  | [.int i, .int j], S => .ok (.int (if j > i then j else i)) S
  | _, _ => .bad
def bMin2 : List D → List D → R D
  | [.int i, .int j], S => .ok (.int (if j < i then j else i)) S
  | _, _ => .bad
def bMax1 : List D → List D → R D
  | [x], S => match seqOf S x with
    | some xs => match intsOf xs with
      | some (n :: ns) => .ok (.int (ns.foldl (fun a y => if a < y then y else a) n)) S
      | _ => .bad
    | none => .bad
  | _, _ => .bad
def bMin1 : List D → List D → R D
  | [x], S => match seqOf S x with
    | some xs => match intsOf xs with
      | some (n :: ns) => .ok (.int (ns.foldl (fun a y => if y < a then y else a) n)) S
      | _ => .bad
    | none => .bad
  | _, _ => .bad
def scal : D → Option Bool
  | .bl b => some b
  | .int i => some (i != 0)
  | _ => none
def scals : List D → Option (List Bool)
  | [] => some []
  | d :: ds => (scal d).bind fun b => (scals ds).map (b :: ·)
def bAny : List D → List D → R D
  | [x], S => match lstOf S x with
    | some xs => match scals xs with
      | some bs => .ok (.bl (bs.any id)) S
      | none => .bad
    | none => .bad
  | _, _ => .bad
def bAll : List D → List D → R D
  | [x], S => match lstOf S x with
    | some xs => match scals xs with
      | some bs => .ok (.bl (bs.all id)) S
      | none => .bad
    | none => .bad
  | _, _ => .bad
def eLstRgL (a : ME) : ME := fun E S => (a E S).bind fun x S1 => match x with
  | .int n => if 0 ≤ n ∧ n ≤ SL then .ok (.loc S1.length) (S1 ++ [.lst ((List.range n.toNat).map fun i : Nat => .int (i : Int))]) else .bad
  | _ => .bad
/-! ### statements -/
def sSeq (a b : MS) : MS := fun E S => match a E S with
  | .nx E1 S1 => b E1 S1
  | o => o
def sNext : MS := fun E S => .nx E S
def sBreak : MS := fun E S => .bk E S
def sCont : MS := fun E S => .ct E S
def sNever : MS := fun _ _ => .bad
def sExpr (a : ME) : MS := fun E S => (a E S).toO E fun _ S1 => .nx E S1
def sRet (a : ME) : MS := fun E S => (a E S).toO E fun d S1 => .rt d S1
def sRetN : MS := fun _ S => .rt .non S
def sIf (t : MT) (a b : MS) : MS := fun E S => (t E S).tO E fun c S1 => if c = true then a E S1 else b E S1
def sSet (i : Nat) (a : ME) : MS := fun E S => (a E S).toO E fun d S1 => .nx (E.set i (some d)) S1
def sAug (i : Nat) (f : D → D → List D → R D) (a : ME) : MS := fun E S => match E[i]? with
  | some (some x) => (a E S).toO E fun y S1 => (f x y S1).toO E fun z S2 => .nx (E.set i (some z)) S2
  | _ => .bad
inductive Tg where
  | nm (i : Nat)
  | tp (ts : List Tg)
mutual
def Tg.bind : Tg → D → Env → Option Env
  | .nm i, d, E => some (E.set i (some d))
  | .tp ts, .tup ds, E => Tg.binds ts ds E
  | .tp _, _, _ => none
def Tg.binds : List Tg → List D → Env → Option Env
  | [], [], E => some E
  | t :: ts, d :: ds, E => match t.bind d E with
    | some E1 => Tg.binds ts ds E1
    | none => none
  | _, _, _ => none
end
def sAsg (t : Tg) (a : ME) : MS := fun E S => (a E S).toO E fun d S1 => match t.bind d E with
  | some E1 => .nx E1 S1
  | none => .bad
def sTry (b : MS) : MS := fun E S => match b E S with
  | .exc _ _ _ _ => .bad
  | o => o
def sPar (is_ : List Nat) (a : MA) : MS := fun E S => match a E S with
  | .ok ds S1 => match Tg.binds (is_.map .nm) ds E with
    | some E1 => .nx E1 S1
    | none => .bad
  | .exc c fs S1 => .exc c fs E S1
  | .bad => .bad
def putAt (o i v : D) (S : List D) : Option (List D) := match o with
  | .loc n => match S[n]? with
    | some (.lst xs) => match i with
      | .int k => match ixOf xs.length k with
        | some j => some (S.set n (.lst (xs.set j v)))
        | none => none
      | _ => none
    | some (.dct ks ds) => match keyOf i with
      | some k => if ks.length < SL then some (S.set n (putK ks ds k v)) else none
      | none => none
    | some (.dcT ks ds) => match keyT i with
      | some k => if ks.length < SL then some (S.set n (putT ks ds k v)) else none
      | none => none
    | _ => none
  | _ => none
where
  putT (ks : List (List Ky)) (ds : List D) (k : List Ky) (v : D) : D := if (ks.any fun q => decide (q = k)) = true then .dcT ks (ks.zipWith (fun q d => if q = k then v else d) ds) else .dcT (ks ++ [k]) (ds ++ [v])
  putK (ks : List Ky) (ds : List D) (k : Ky) (v : D) : D := if keyIn ks k = true then .dct ks (ks.zipWith (fun q d => if q = k then v else d) ds) else .dct (ks ++ [k]) (ds ++ [v])
def sPut (o i e : ME) : MS := fun E S => (e E S).toO E fun v S1 => (o E S1).toO E fun x S2 => (i E S2).toO E fun k S3 => match putAt x k v S3 with
  | some S4 => .nx E S4
  | none => .bad
def sAsgSub (i j l : Nat) (a : ME) : MS := fun E S => (a E S).toO E fun d S1 => match d with
  | .tup [dx, dy] => match (E.set i (some dx))[j]?, (E.set i (some dx))[l]? with
    | some (some ov), some (some kv) => match putAt ov kv dy S1 with
      | some S2 => .nx (E.set i (some dx)) S2
      | none => .bad
    | _, _ => .bad
  | _ => .bad
def sPutAug (f : D → D → List D → R D) (o i e : ME) : MS := fun E S => (o E S).toO E fun x S1 => (i E S1).toO E fun k S2 => (oIx x k S2).toO E fun y S3 => (e E S3).toO E fun z S4 => (f y z S4).toO E fun v S5 => match putAt x k v S5 with
  | some S6 => .nx E S6
  | none => .bad
def mAppend : D → List D → List D → R D
  | .loc n, [y], S => match S[n]? with
    | some (.lst xs) => if xs.length < SL then .ok .non (S.set n (.lst (xs ++ [y]))) else .bad
    | _ => .bad
  | _, _, _ => .bad
def mPop : D → List D → List D → R D
  | .loc n, [], S => match S[n]? with
    | some (.lst xs) => match xs[xs.length - 1]? with
      | some y => .ok y (S.set n (.lst xs.dropLast))
      | none => .bad
    | _ => .bad
  | _, _, _ => .bad
def eMeth (f : D → List D → List D → R D) (o : ME) (a : MA) : ME := fun E S => (o E S).bind fun x S1 => if (lstOf S1 x).isSome = true then (a E S1).bind fun xs S2 => f x xs S2 else .bad

/-! ### what a loop goes over -/
structure Src where
  len : Nat
  at_ : List D → Nat → Option D
  alive : List D → Bool
def Src.its (ds : List D) : Src := ⟨ds.length, fun _ i => ds[i]?, fun _ => true⟩
def Src.live (n len : Nat) : Src := ⟨len, fun S i => match S[n]? with | some (.lst ds) => ds[i]? | _ => none, fun S => match S[n]? with | some (.lst ds) => ds.length == len | _ => false⟩
def Src.rng (lo : Int) (n : Nat) : Src := ⟨n, fun _ i => some (.int (lo + i)), fun _ => true⟩
def Src.enum (s : Src) : Src := ⟨s.len, fun S i => (s.at_ S i).map fun d => .tup [.int i, d], s.alive⟩
def Src.zip (s t : Src) : Src := ⟨min s.len t.len, fun S i => match s.at_ S i, t.at_ S i with | some a, some b => some (.tup [a, b]) | _, _ => none, fun S => s.alive S && t.alive S⟩
abbrev MI := Env → List D → R Src
def srcOf (S : List D) : D → Option Src
  | .tup ds => some (.its ds)
  | .tuk ds => some (.its ds)
  | .lst ds => some (.its ds)
  | .rdl ds => some (.its ds)
  | .loc n => match S[n]? with
    | some (.lst ds) => some (.live n ds.length)
    | _ => none
  | _ => none
def iSeq (a : ME) : MI := fun E S => (a E S).bind fun x S1 => match srcOf S1 x with
  | some s => .ok s S1
  | none => .bad
def okR (i : Int) : Bool := decide (-4611686018427387904 ≤ i) && decide (i < 4611686018427387904)
def iRng1 (a : ME) : MI := fun E S => (a E S).bind fun x S1 => match x with
  | .int j => if okR j = true then .ok (.rng 0 j.toNat) S1 else .bad
  | _ => .bad
def iRng2 (a b : ME) : MI := fun E S => (a E S).bind fun x S1 => (b E S1).bind fun y S2 => match x, y with
  | .int i, .int j => if okR i = true ∧ okR j = true then .ok (.rng i (j - i).toNat) S2 else .bad
  | _, _ => .bad
def iEnum (a : ME) : MI := fun E S => (a E S).bind fun x S1 => match srcOf S1 x with
  | some s => .ok s.enum S1
  | none => .bad
def iZip (a b : ME) : MI := fun E S => (a E S).bind fun x S1 => (b E S1).bind fun y S2 => match srcOf S2 x, srcOf S2 y with
  | some s, some t => .ok (s.zip t) S2
  | _, _ => .bad

/-! ### loops -/
def gone (n : Nat) : Option D → Option D
  | some d => if D.flat d = true then some d else match d with
    | .loc k => if k < n then some (.loc k) else none
    | _ => none
  | none => none
def gcE (n : Nat) (E : Env) (S : List D) : Option (Env × List D) :=
  if S.length = n then some (E, S) else if n ≤ S.length ∧ (S.take n).all D.flat = true then some (E.map (gone n), S.take n) else none
def forGo (src : Src) (t : Tg) (b : MS) (n : Nat) : Nat → Nat → Env → List D → O
  | 0, _, E, S => if src.alive S = true then .nx E S else .bad
  | k + 1, i, E, S => if src.alive S = true then match src.at_ S i with
    | none => .bad
    | some d => match t.bind d E with
      | none => .bad
      | some E1 => match b E1 S with
        | .nx E2 S2 => match gcE n E2 S2 with
          | some (E3, S3) => forGo src t b n k (i + 1) E3 S3
          | none => .bad
        | .ct E2 S2 => match gcE n E2 S2 with
          | some (E3, S3) => forGo src t b n k (i + 1) E3 S3
          | none => .bad
        | .bk E2 S2 => .nx E2 S2
        | o => o
    else .bad
def sFor (t : Tg) (m : MI) (b : MS) : MS := fun E S => match m E S with
  | .ok src S1 => forGo src t b S1.length src.len 0 E S1
  | .exc c fs S1 => .exc c fs E S1
  | .bad => .bad
def whileGo (t : MT) (b : MS) (n : Nat) : Nat → Env → List D → O
  | 0, _, _ => .bad
  | k + 1, E, S => (t E S).tO E fun c S1 => if c = true then match b E S1 with
      | .nx E2 S2 => match gcE n E2 S2 with
        | some (E3, S3) => whileGo t b n k E3 S3
        | none => .bad
      | .ct E2 S2 => match gcE n E2 S2 with
        | some (E3, S3) => whileGo t b n k E3 S3
        | none => .bad
      | .bk E2 S2 => .nx E2 S2
      | o => o
    else .nx E S1
def sWhile (fuel : Nat) (t : MT) (b : MS) : MS := fun E S => whileGo t b S.length fuel E S
def wipeE (E : Env) : List Nat → Env
  | [] => E
  | v :: vs => (wipeE E vs).set v none
def lcGo (src : Src) (t : Tg) (c : MT) (e : ME) (E : Env) (n : Nat) : Nat → Nat → List D → List D → R (List D)
  | 0, _, acc, S => if src.alive S = true then .ok acc S else .bad
  | k + 1, i, acc, S => if src.alive S = true then match src.at_ S i with
    | none => .bad
    | some d => match t.bind d E with
      | none => .bad
      | some E1 => match c E1 S with
        | .ok b S1 => if b = true then match e E1 S1 with
            | .ok x S2 => if n ≤ S2.length then lcGo src t c e E n k (i + 1) (acc ++ [x]) S2 else .bad
            | _ => .bad
          else if n ≤ S1.length then lcGo src t c e E n k (i + 1) acc S1 else .bad
        | _ => .bad
    else .bad
def lcRun (own : List Nat) (t : Tg) (m : MI) (c : MT) (e : ME) : Env → List D → R (List D) := fun E S => match m E S with
  | .ok src S1 => if src.len ≤ SL then lcGo src t c e (wipeE E own) S1.length src.len 0 [] S1 else .bad
  | .exc c fs S1 => .exc c fs S1
  | .bad => .bad
def eLc (own : List Nat) (t : Tg) (m : MI) (c : MT) (e : ME) : ME := fun E S => (lcRun own t m c e E S).bind fun acc S1 => .ok (.lst acc) S1
def eLcL (own : List Nat) (t : Tg) (m : MI) (c : MT) (e : ME) : ME := fun E S => (lcRun own t m c e E S).bind fun acc S1 => .ok (.loc S1.length) (S1 ++ [.lst acc])

/-! ### defs -/
def fz (n : Nat) (S : List D) : Nat → D → Option D
  | 0, _ => none
  | k + 1, d => if d.flat = true then some d else match d with
    | .loc m => if m < n then none else match S[m]? with
      | some (.lst ds) => ((ds.mapM (fz n S k)).map .lst)
      | some (.dct ks ds) => ((ds.mapM (fz n S k)).map (.dct ks))
      | some (.dcT ks ds) => ((ds.mapM (fz n S k)).map (.dcT ks))
      | _ => none
    | .tup ds => (ds.mapM (fz n S k)).map .tup
    | .lst ds => (ds.mapM (fz n S k)).map .lst
    | _ => none
def retF (n : Nat) (d : D) (S : List D) : R D := if n ≤ S.length ∧ (S.take n).all D.flat = true then match fz n S 8 d with
    | some d' => .ok d' (S.take n)
    | none => .bad
  else .bad
def excF (n : Nat) (c : Str) (fs : List (Str × D)) (S : List D) : R D := if n ≤ S.length ∧ (S.take n).all D.flat = true ∧ fs.all (fun p => p.2.flat) = true then .exc c fs (S.take n) else .bad
def fnF (np nn : Nat) (b : MS) : MF := fun ds S => if ds.length = np then match b (ds.map some ++ List.replicate (nn - np) none) S with
    | .nx _ S1 => retF S.length .non S1
    | .rt d S1 => retF S.length d S1
    | .exc c fs _ S1 => excF S.length c fs S1
    | _ => .bad
  else .bad
def byRef : List D → Nat → Option (List D × List Nat)
  | [], _ => some ([], [])
  | .loc n :: r, k => (byRef r (k + 1)).bind fun (ds, ns) => if ns.contains n then none else some (.loc k :: ds, n :: ns)
  | d :: r, k => if d.flat = true then (byRef r k).map fun (ds, ns) => (d :: ds, ns) else none
def setAll : List D → List Nat → List D → List D
  | S, n :: ns, d :: ds => setAll (S.set n d) ns ds
  | S, _, _ => S
def callF (F : MF) (xs : List D) (S : List D) : R D := match byRef xs 0 with
  | none => .bad
  | some (ds, ns) => match ns.mapM (fun n => S[n]?) with
    | none => .bad
    | some Sc => if Sc.all D.flat = true then match F ds Sc with
        | .ok d S' => if d.flat = true ∧ S'.length = ns.length ∧ S'.all D.flat = true then .ok d (setAll S ns S') else .bad
        | .exc c fs S' => if S'.length = ns.length ∧ S'.all D.flat = true ∧ fs.all (fun p => p.2.flat) = true then .exc c fs (setAll S ns S') else .bad
        | .bad => .bad
      else .bad
end J
set_option linter.all false
namespace J
open PySem (Str)
def oRev : D → List D → R D
  | .tup ds, S => .ok (.tup ds.reverse) S
  | x, S => match lstOf S x with
    | some ds => .ok (.lst ds.reverse) S
    | none => .bad
def eRev (ma : ME) : ME := eUn oRev ma
def insI (n : Int) : List Int → List Int
  | [] => [n]
  | m :: ms => if n ≤ m then n :: m :: ms else m :: insI n ms
def sortI : List Int → List Int
  | [] => []
  | n :: ns => insI n (sortI ns)
def bSorted : List D → List D → R D
  | [x], S => match seqOf S x with
    | some xs => match intsOf xs with
      | some ns => .ok (.lst ((sortI ns).map D.int)) S
      | none => .bad
    | none => .bad
  | _, _ => .bad
def bBool : List D → List D → R D
  | [.int i], S => .ok (.bl (i != 0)) S
  | [.bl b], S => .ok (.bl b) S
  | _, _ => .bad
def mCountT : D → List D → List D → R D
  | .tup xs, [.int k], S => match intsOf xs with
    | some ns => .ok (.int (ns.count k : Nat)) S
    | none => .bad
  | _, _, _ => .bad
def oMulT : D → D → List D → R D
  | .tup xs, .int 0, S => if xs ≠ [] then .ok (.tup []) S else .bad
  | x, y, S => oMul x y S
def putKs (ks : List Ky) (k : Ky) : List Ky := if keyIn ks k = true then ks else ks ++ [k]
def putDs (ks : List Ky) (ds : List D) (k : Ky) (v : D) : List D := if keyIn ks k = true then ks.zipWith (fun q d => if q = k then v else d) ds else ds ++ [v]
def dcGo (src : Src) (t : Tg) (c : MT) (ek ev : ME) (E : Env) (n : Nat) : Nat → Nat → List Ky → List D → List D → R D
  | 0, _, ks, ds, S => if src.alive S = true then .ok (.dct ks ds) S else .bad
  | k + 1, i, ks, ds, S => if src.alive S = true then match src.at_ S i with
    | none => .bad
    | some d => match t.bind d E with
      | none => .bad
      | some E1 => match c E1 S with
        | .ok b S1 => if b = true then match ek E1 S1 with
            | .ok x S2 => match keyOf x with
              | none => .bad
              | some q => match ev E1 S2 with
                | .ok y S3 => if n ≤ S3.length then dcGo src t c ek ev E n k (i + 1) (putKs ks q) (putDs ks ds q y) S3 else .bad
                | _ => .bad
            | _ => .bad
          else if n ≤ S1.length then dcGo src t c ek ev E n k (i + 1) ks ds S1 else .bad
        | _ => .bad
    else .bad
def eDc (own : List Nat) (t : Tg) (m : MI) (c : MT) (ek ev : ME) : ME := fun E S => match m E S with
  | .ok src S1 => if src.len ≤ SL then dcGo src t c ek ev (wipeE E own) S1.length src.len 0 [] [] S1 else .bad
  | .exc c fs S1 => .exc c fs S1
  | .bad => .bad
def intKys : List Ky → Option (List Int)
  | [] => some []
  | .inl i :: ks => (intKys ks).map (i :: ·)
  | _ :: _ => none
def bMinD : List D → List D → R D
  | [x], S => match dctOf S x with
    | some (ks, _) => match intKys ks with
      | some (n :: ns) => .ok (.int (ns.foldl (fun a y => if y < a then y else a) n)) S
      | _ => .bad
    | none => .bad
  | _, _ => .bad
def eGet2 (o a b : ME) : ME := fun E S => (o E S).bind fun x S1 => if (dctOf S1 x).isSome = true then (a E S1).bind fun y S2 => (b E S2).bind fun z S3 => match dctOf S3 x, keyOf y with
  | some (ks, ds), some q => .ok ((getK ks ds q).getD z) S3
  | _, _ => .bad else .bad
def oIsB : D → D → List D → R D
  | .bl a, .bl b, S => .ok (.bl (decide (a = b))) S
  | _, _, _ => .bad
def eTupRg (a : ME) : ME := fun E S => (a E S).bind fun x S1 => match x with
  | .int n => if 0 ≤ n ∧ n ≤ SL then .ok (.tup ((List.range n.toNat).map fun i : Nat => .int (i : Int))) S1 else .bad
  | _ => .bad
def kD : Ky → D
  | .inl i => .int i
  | .inr x => .str x
def itemsS (ks : List Ky) (ds : List D) : List D := List.zipWith (fun k d => D.tup [kD k, d]) ks ds
def iItemsJ (ma : ME) : MI := fun E S => (ma E S).bind fun x S1 => match x with
  | .dct ks ds => .ok (Src.its (itemsS ks ds)) S1
  | _ => .bad
def iMul : D → D → List D → R D
  | .int i, .int j, S => if smallI i = true ∨ smallI j = true then .ok (.int (i * j)) S else .bad
  | _, _, _ => .bad
def bGcd : List D → List D → R D
  | [.int i, .int j], S => .ok (.int (Nat.gcd i.natAbs j.natAbs : Nat)) S
  | _, _ => .bad
def bLcm : List D → List D → R D
  | [.int i, .int j], S => if i.natAbs < 18446744073709551616 ∧ j.natAbs < 18446744073709551616 then .ok (.int (Nat.lcm i.natAbs j.natAbs : Nat)) S else .bad
  | _, _ => .bad
end J
set_option linter.all false
set_option maxRecDepth 100000
/-! more values and operations: `is not True` -/
namespace J
def oNotB : D → D → List D → R D
  | .bl a, .bl b, S => .ok (.bl (!decide (a = b))) S
  | _, _, _ => .bad
end J
namespace J
def bMinN : List D → List D → R D
  | [x], S => match seqOf S x with
    | some xs => match intsOf xs with
      | some (n :: ns) => .ok (.int (ns.foldl (fun a y => if y < a then y else a) n)) S
      | some [] => .ok .non S
      | none => .bad
    | none => .bad
  | _, _ => .bad
end J
namespace J
def bAnyS : List D → List D → R D
  | [x], S => match seqOf S x with
    | some xs => match scals xs with
      | some bs => .ok (.bl (bs.any id)) S
      | none => .bad
    | none => .bad
  | _, _ => .bad
end J
set_option linter.all false
set_option maxRecDepth 100000
/-! dicts whose keys are tuples -/
namespace J
def dctT (S : List D) : D → Option (List (List Ky) × List D)
  | .dcT ks ds => some (ks, ds)
  | .loc n => match S[n]? with
    | some (.dcT ks ds) => some (ks, ds)
    | _ => none
  | _ => none
def getT : List (List Ky) → List D → List Ky → Option D
  | q :: ks, d :: ds, k => if q = k then some d else getT ks ds k
  | _, _, _ => none
def eDctTL : ME := fun _ S => .ok (.loc S.length) (S ++ [.dcT [] []])
def kDispT (x y : D) (S : List D) : R D := match keyT x with
  | some q => .ok (.dcT [q] [y]) S
  | none => .bad
def eDispT (k v : ME) : ME := fun E S => (k E S).bind fun x S1 => (v E S1).bind fun y S2 => kDispT x y S2
def eGet2T (o a b : ME) : ME := fun E S => (o E S).bind fun x S1 => if (dctT S1 x).isSome = true then (a E S1).bind fun y S2 => (b E S2).bind fun z S3 => match dctT S3 x, keyT y with
  | some (ks, ds), some q => .ok ((getT ks ds q).getD z) S3
  | _, _ => .bad else .bad
def itemsT (ks : List (List Ky)) (ds : List D) : List D := List.zipWith (fun k d => D.tup [.tup (k.map kD), d]) ks ds
def iItemsT (ma : ME) : MI := fun E S => (ma E S).bind fun x S1 => match x with
  | .dcT ks ds => .ok (Src.its (itemsT ks ds)) S1
  | _ => .bad
end J
set_option linter.all false
set_option maxRecDepth 100000
/-! exceptions of own classes without fields; tuples of known make -/
namespace J
open PySem (Str)
def sRaise (c : Str) : MS := fun E S => .exc c [] E S
def sTryIs (kt : Str → Option Bool) (i j : Nat) (u v : D) (mb : MS) : MS := fun E S => match mb E S with
  | .exc c fs E1 S1 => if (fs.isEmpty && decide (i < E1.length)) = true then (match kt c with
    | some b => .nx ((E1.set j (some (if b = true then u else v))).set i none) S1
    | none => .bad) else .bad
  | o => o
def bTupK : List D → List D → R D
  | [x], S => match lstOf S x with
    | some xs => .ok (.tuk xs) S
    | none => .bad
  | _, _ => .bad
def mCountK : D → List D → List D → R D
  | .tuk xs, [.int k], S => match intsOf xs with
    | some ns => .ok (.int (ns.count k : Nat)) S
    | none => .bad
  | _, _, _ => .bad
def isTuk : D → Bool
  | .tuk _ => true
  | _ => false
def eMethK (f : D → List D → List D → R D) (o : ME) (a : MA) : ME := fun E S => (o E S).bind fun x S1 => if isTuk x = true then (a E S1).bind fun xs S2 => f x xs S2 else .bad
end J
set_option linter.all false
set_option maxRecDepth 100000
/-! comprehensions with two fors: the new list stands at the end of the store while the second source is gone over -/
namespace J
def lcIn (src : Src) (t : Tg) (c : MT) (e : ME) (E : Env) (p : Nat) : Nat → Nat → List D → Option (List D)
  | 0, _, S => if src.alive S = true then some S else none
  | k + 1, i, S => if src.alive S = true then match src.at_ S i with
    | none => none
    | some d => match t.bind d E with
      | none => none
      | some E1 => match c E1 S with
        | .ok b S1 => if b = true then match e E1 S1 with
            | .ok x S2 => match S2[p]? with
              | some (.lst acc) => if S2.length = p + 1 ∧ acc.length < SL then lcIn src t c e E p k (i + 1) (S2.set p (.lst (acc ++ [x]))) else none
              | _ => none
            | _ => none
          else if S1.length = p + 1 then lcIn src t c e E p k (i + 1) S1 else none
        | _ => none
    else none
def lcGo2 (src : Src) (t : Tg) (c : MT) (own1 : List Nat) (m1 : MI) (t1 : Tg) (c1 : MT) (e : ME) (E : Env) : Nat → Nat → List D → List D → R (List D)
  | 0, _, acc, S => if src.alive S = true then .ok acc S else .bad
  | k + 1, i, acc, S => if src.alive S = true then match src.at_ S i with
    | none => .bad
    | some d => match t.bind d E with
      | none => .bad
      | some E1 => match c E1 S with
        | .ok b S1 => if b = true then match m1 E1 (S1 ++ [.lst acc]) with
            | .ok src1 S2 => match lcIn src1 t1 c1 e (wipeE E1 own1) S1.length src1.len 0 S2 with
              | some S3 => if S2.length = S1.length + 1 ∧ S3.length = S1.length + 1 ∧ S3.all D.flat = true then match S3[S1.length]? with
                | some (.lst acc3) => lcGo2 src t c own1 m1 t1 c1 e E k (i + 1) acc3 (S3.take S1.length)
                | _ => .bad else .bad
              | none => .bad
            | _ => .bad
          else lcGo2 src t c own1 m1 t1 c1 e E k (i + 1) acc S1
        | _ => .bad
    else .bad
def lcRun2 (own : List Nat) (t : Tg) (m : MI) (c : MT) (own1 : List Nat) (m1 : MI) (t1 : Tg) (c1 : MT) (e : ME) : Env → List D → R (List D) := fun E S => match m E S with
  | .ok src S1 => lcGo2 src t c own1 m1 t1 c1 e (wipeE E own) src.len 0 [] S1
  | .exc c fs S1 => .exc c fs S1
  | .bad => .bad
def eLc2 (own : List Nat) (t : Tg) (m : MI) (c : MT) (own1 : List Nat) (m1 : MI) (t1 : Tg) (c1 : MT) (e : ME) : ME := fun E S => (lcRun2 own t m c own1 m1 t1 c1 e E S).bind fun acc S1 => .ok (.lst acc) S1
def eLc2L (own : List Nat) (t : Tg) (m : MI) (c : MT) (own1 : List Nat) (m1 : MI) (t1 : Tg) (c1 : MT) (e : ME) : ME := fun E S => (lcRun2 own t m c own1 m1 t1 c1 e E S).bind fun acc S1 => .ok (.loc S1.length) (S1 ++ [.lst acc])
end J
set_option linter.all false
set_option maxRecDepth 100000
/-! order of tuples: sorted, min, max of data -/
namespace J
mutual
def D.lt : D → D → Bool
  | .int a, .int b => decide (a < b)
  | .tup xs, .tup ys => D.lts xs ys
  | _, _ => false
def D.lts : List D → List D → Bool
  | [], [] => false
  | [], _ :: _ => true
  | _ :: _, [] => false
  | x :: xs, y :: ys => if D.eqB x y = true then D.lts xs ys else D.lt x y
end
mutual
def D.shp : D → D → Bool
  | .int _, .int _ => true
  | .tup xs, .tup ys => D.shps xs ys
  | _, _ => false
def D.shps : List D → List D → Bool
  | [], [] => true
  | x :: xs, y :: ys => x.shp y && D.shps xs ys
  | _, _ => false
end
def allInt : List D → Bool
  | [] => true
  | .int _ :: r => allInt r
  | _ :: _ => false
def intTup : D → Bool
  | .tup (x :: xs) => allInt (x :: xs)
  | _ => false
def sortHd : D → Bool
  | .tup (_ :: _) => true
  | .int _ => true
  | _ => false
def insD (n : D) : List D → List D
  | [] => [n]
  | m :: ms => if D.lt m n = true then m :: insD n ms else n :: m :: ms
def sortD : List D → List D
  | [] => []
  | n :: ns => insD n (sortD ns)
def ordOk (x : D) : Bool := x.cmpb && decide (x.depth ≤ 60)
def okSort (xs : List D) : Bool := match xs with
  | [] => true
  | [_] => true
  | x :: _ => xs.all ordOk && (xs.all intTup || (sortHd x && xs.all fun y => x.shp y))
def lstAny (S : List D) : D → Option (List D)
  | .lst ds => some ds
  | .rdl ds => some ds
  | .loc n => match S[n]? with
    | some (.lst ds) => some ds
    | _ => none
  | _ => none
def bSortedD : List D → List D → R D
  | [x], S => match lstAny S x with
    | some xs => if okSort xs = true then .ok (.lst (sortD xs)) S else .bad
    | none => .bad
  | _, _ => .bad
end J
namespace J
def sDrop (ids : List Nat) (m : MS) : MS := fun E S => match m E S with
  | .nx E1 S1 => .nx (wipeE E1 ids) S1
  | _ => .bad
end J
set_option linter.all false
set_option maxRecDepth 100000
/-! exceptions of own classes that keep a whole number as their field -/
namespace J
open PySem (Str)
def sRaiseF (c f : Str) (a : ME) : MS := fun E S => (a E S).toO E fun d S1 => match d with
  | .int i => if i.natAbs.log2 < 1920 then .exc c [(f, .int i)] E S1 else .bad
  | _ => .bad
def sTryFld (kt : Str → Option Bool) (f : Str) (i j : Nat) (v : D) (mb : MS) : MS := fun E S => match mb E S with
  | .exc c fs E1 S1 => if i < E1.length then (match kt c with
    | some true => (match fs with
      | [(g, d)] => if g = f then .nx ((E1.set j (some d)).set i none) S1 else .bad
      | _ => .bad)
    | some false => .nx ((E1.set j (some v)).set i none) S1
    | none => .bad) else .bad
  | o => o
end J
set_option linter.all false
set_option maxRecDepth 100000
/-! more of tuples of known make: len, in, index; list(range(n)) -/
namespace J
def bLenK : List D → List D → R D
  | [.tuk xs], S => .ok (.int xs.length) S
  | xs, S => bLen xs S
def oInK (x y : D) (S : List D) : R D := match y with
  | .tuk xs => if cmpOk (seen S x) = true ∧ xs.all cmpOk = true then .ok (.bl (inD (seen S x) xs)) S else .bad
  | _ => oIn x y S
def oNinK (x y : D) (S : List D) : R D := match y with
  | .tuk xs => if cmpOk (seen S x) = true ∧ xs.all cmpOk = true then .ok (.bl (!inD (seen S x) xs)) S else .bad
  | _ => oNin x y S
def mIndexK : D → List D → List D → R D
  | .tuk xs, [.int k], S => match intsOf xs with
    | some ns => if k ∈ ns then .ok (.int (ns.idxOf k : Nat)) S else .bad
    | none => .bad
  | _, _, _ => .bad
def mIndexL : D → List D → List D → R D
  | x, [.int k], S => match lstAny S x with
    | some xs => match intsOf xs with
      | some ns => if k ∈ ns then .ok (.int (ns.idxOf k : Nat)) S else .bad
      | none => .bad
    | none => .bad
  | _, _, _ => .bad
def eLstRg (a : ME) : ME := fun E S => (a E S).bind fun x S1 => match x with
  | .int n => if 0 ≤ n ∧ n ≤ SL then .ok (.lst ((List.range n.toNat).map fun i : Nat => .int (i : Int))) S1 else .bad
  | _ => .bad
end J
set_option linter.all false
set_option maxRecDepth 100000
/-! l.extend(l2) -/
namespace J
def mExtend : D → List D → List D → R D
  | .loc n, [y], S => match S[n]? with
    | some (.lst xs) => match lstOf S y with
      | some zs => if xs.length + zs.length ≤ SL then .ok .non (S.set n (.lst (xs ++ zs))) else .bad
      | none => .bad
    | _ => .bad
  | _, _, _ => .bad
end J
set_option linter.all false
set_option maxRecDepth 100000
/-! min of tuples of one shape -/
namespace J
def minT (x : D) (xs : List D) : D := xs.foldl (fun a y => if D.lt y a = true then y else a) x
def okMin (x : D) (xs : List D) : Bool := (x :: xs).all ordOk && (x :: xs).all fun y => x.shp y
def bMinT : List D → List D → R D
  | [x], S => match lstAny S x with
    | some (y :: ys) => if okMin y ys = true then .ok (minT y ys) S else .bad
    | _ => .bad
  | _, _ => .bad
end J
set_option linter.all false
set_option maxRecDepth 100000
/-! an except that returns -/
namespace J
open PySem (Str)
def sTryRet (kt : Str → Option Bool) (f : Str) (i : Nat) (k : Int) (mb : MS) : MS := fun E S => match mb E S with
  | .exc c fs E1 S1 => if i < E1.length then (match kt c with
    | some true => (match fs with
      | [(g, .int m)] => if g = f then .rt (.bl (decide (m = k))) S1 else .bad
      | _ => .bad)
    | some false => .rt (.bl false) S1
    | none => .bad) else .bad
  | o => o
end J
set_option linter.all false
set_option maxRecDepth 100000
/-! range(a, b, -1); d.setdefault(k, x) of a dict that changes -/
namespace J
def iRngDn (a b c : ME) : MI := fun E S => (a E S).bind fun x S1 => (b E S1).bind fun y S2 => (c E S2).bind fun z S3 => match x, y, z with
  | .int i, .int j, .int k => if okR i = true ∧ okR j = true ∧ k = -1 then .ok (.its ((List.range (i - j).toNat).map fun t : Nat => .int (i + (t : Nat) * -1))) S3 else .bad
  | _, _, _ => .bad
def isDctB (S : List D) : D → Bool
  | .loc n => match S[n]? with
    | some (.dct _ _) => true
    | some (.dcT _ _) => true
    | _ => false
  | _ => false
def kSetd (x y z : D) (S : List D) : R D := match x with
  | .loc n => match S[n]? with
    | some (.dct ks ds) => match keyOf y with
      | some k => match getK ks ds k with
        | some d => if ks.length < SL then .ok d S else .bad
        | none => if ks.length < SL then .ok z (S.set n (.dct (ks ++ [k]) (ds ++ [z]))) else .bad
      | none => .bad
    | some (.dcT ks ds) => match keyT y with
      | some k => match getT ks ds k with
        | some d => if ks.length < SL then .ok d S else .bad
        | none => if ks.length < SL then .ok z (S.set n (.dcT (ks ++ [k]) (ds ++ [z]))) else .bad
      | none => .bad
    | _ => .bad
  | _ => .bad
def eSetd (o a b : ME) : ME := fun E S => (o E S).bind fun x S1 => if isDctB S1 x = true then (a E S1).bind fun y S2 => (b E S2).bind fun z S3 => kSetd x y z S3 else .bad
def forGoN (src : Src) (t : Tg) (b : MS) : Nat → Nat → Env → List D → O
  | 0, _, E, S => if src.alive S = true then .nx E S else .bad
  | k + 1, i, E, S => if src.alive S = true then match src.at_ S i with
    | none => .bad
    | some d => match t.bind d E with
      | none => .bad
      | some E1 => match b E1 S with
        | .nx E2 S2 => forGoN src t b k (i + 1) E2 S2
        | .ct E2 S2 => forGoN src t b k (i + 1) E2 S2
        | .bk E2 S2 => .nx E2 S2
        | o => o
    else .bad
def sForN (t : Tg) (m : MI) (b : MS) : MS := fun E S => match m E S with
  | .ok src S1 => forGoN src t b src.len 0 E S1
  | .exc c fs S1 => .exc c fs E S1
  | .bad => .bad
def oMulR : D → D → List D → R D
  | .int k, .tup xs, S => if xs ≠ [] ∧ 2 ≤ k ∧ k ≤ 1000 ∧ xs.length ≤ 1000 then .ok (.tup (List.replicate k.toNat xs).flatten) S else .bad
  | .int k, y, S => match lstOf S y with
    | some xs => if -9223372036854775808 ≤ k ∧ k < 9223372036854775808 ∧ xs.length * k.toNat ≤ SL then .ok (.lst (List.replicate k.toNat xs).flatten) S else .bad
    | none => .bad
  | _, _, _ => .bad
def dcGoL (src : Src) (t : Tg) (c : MT) (ek ev : ME) (E : Env) (n : Nat) : Nat → Nat → List Ky → List D → List D → R D
  | 0, _, ks, ds, S => if src.alive S = true then .ok (.loc S.length) (S ++ [.dct ks ds]) else .bad
  | k + 1, i, ks, ds, S => if src.alive S = true then match src.at_ S i with
    | none => .bad
    | some d => match t.bind d E with
      | none => .bad
      | some E1 => match c E1 S with
        | .ok b S1 => if b = true then match ek E1 S1 with
            | .ok x S2 => match keyOf x with
              | none => .bad
              | some q => match ev E1 S2 with
                | .ok y S3 => if n ≤ S3.length then dcGoL src t c ek ev E n k (i + 1) (putKs ks q) (putDs ks ds q y) S3 else .bad
                | _ => .bad
            | _ => .bad
          else if n ≤ S1.length then dcGoL src t c ek ev E n k (i + 1) ks ds S1 else .bad
        | _ => .bad
    else .bad
def eDcL (own : List Nat) (t : Tg) (m : MI) (c : MT) (ek ev : ME) : ME := fun E S => match m E S with
  | .ok src S1 => if src.len ≤ SL then dcGoL src t c ek ev (wipeE E own) S1.length src.len 0 [] [] S1 else .bad
  | .exc c fs S1 => .exc c fs S1
  | .bad => .bad
def bListD : List D → List D → R D
  | [.loc n], S => match S[n]? with
    | some (.dct ks _) => .ok (.lst (ks.map kD)) S
    | _ => .bad
  | _, _ => .bad
end J
set_option linter.all false
set_option maxRecDepth 100000
/-! min(xs, key=f), f a def that gives an int and changes nothing -/
namespace J
def keyF (F : MF) (d : D) : Option (D × Int) := if d.flat = true then match F [d] [] with
  | .ok (.int k) [] => some (d, k)
  | _ => none else none
def minK (p : D × Int) (ps : List (D × Int)) : D × Int := ps.foldl (fun a y => if decide (y.2 < a.2) = true then y else a) p
def bMinK (F : MF) : List D → List D → R D
  | [x], S => match lstAny S x with
    | some ys => match ys.mapM (keyF F) with
      | some (p :: ps) => .ok (minK p ps).1 S
      | _ => .bad
    | none => .bad
  | _, _ => .bad
/-! dicts whose keys are tuples: d[k], in; {k: v} that changes -/
def keyInT (ks : List (List Ky)) (k : List Ky) : Bool := ks.any fun q => decide (q = k)
def oIxT (x i : D) (S : List D) : R D := match dctT S x with
  | some (ks, ds) => match keyT i with
    | some k => match getT ks ds k with
      | some d => .ok d S
      | none => .bad
    | none => .bad
  | none => .bad
def oInT (x y : D) (S : List D) : R D := match dctT S y with
  | some (ks, _) => match keyT x with
    | some k => .ok (.bl (keyInT ks k)) S
    | none => .bad
  | none => .bad
def oNinT (x y : D) (S : List D) : R D := match dctT S y with
  | some (ks, _) => match keyT x with
    | some k => .ok (.bl (!keyInT ks k)) S
    | none => .bad
  | none => .bad
def kDisp1T (x y : D) (S : List D) : R D := match keyT x with
  | some q => .ok (.loc S.length) (S ++ [.dcT [q] [y]])
  | none => .bad
def eDisp1TL (k v : ME) : ME := fun E S => (k E S).bind fun x S1 => (v E S1).bind fun y S2 => kDisp1T x y S2
end J
namespace J
open PySem (Str)
def sTryC (kt : Str → Option Bool) (v : D) (mb : MS) : MS := fun E S => match mb E S with
  | .exc c _ _ S1 => match kt c with
    | some _ => .rt v S1
    | none => .bad
  | o => o
end J
namespace J
def oAddL (x y : D) (S : List D) : R D := mkL (oAdd x y S)
end J
set_option linter.all false
set_option maxRecDepth 100000
/-! tuples of known make that are made by +, slices, * n; what else is asked of them -/
namespace J
def bTupD (xs : List D) (S : List D) : R D := if xs.length ≤ SL then .ok (.tuk xs) S else .bad
def oAddK (x y : D) (S : List D) : R D := match x, y with
  | .tuk xs, .tuk ys => if xs.length + ys.length ≤ SL then .ok (.tuk (xs ++ ys)) S else .bad
  | _, _ => oAdd x y S
def oSlK (x : D) (lo hi : Option Int) (S : List D) : R D := match x with
  | .tuk xs => .ok (.tuk (cutOf xs lo hi)) S
  | _ => oSl x lo hi S
def eSlK (a : ME) (lo hi : Option ME) : ME := fun E S => (a E S).bind fun x S1 => (ePart lo E S1).bind fun l S2 => (ePart hi E S2).bind fun h S3 => oSlK x l h S3
def oRevK (x : D) (S : List D) : R D := match x with
  | .tuk xs => .ok (.tuk xs.reverse) S
  | _ => .bad
def eRevK (ma : ME) : ME := eUn oRevK ma
def oMulK (x y : D) (S : List D) : R D := match x, y with
  | .tuk [d], .int k => if 0 ≤ k ∧ k ≤ 1000 then .ok (.tuk (List.replicate k.toNat d)) S else .bad
  | _, _ => .bad
def oIxK (x i : D) (S : List D) : R D := match x with
  | .tuk xs => match i with
    | .int k => match atOf xs k with
      | some d => .ok d S
      | none => .bad
    | _ => .bad
  | _ => oIx x i S
def oNeK (x y : D) (S : List D) : R D := match x, y with
  | .tuk xs, .tup [] => if cmpOk (.tup xs) = true then .ok (.bl (!xs.isEmpty)) S else .bad
  | _, _ => oNe x y S
def bListK : List D → List D → R D
  | [.tuk xs], S => .ok (.lst xs) S
  | xs, S => bList xs S
def bSortedK : List D → List D → R D
  | [.tuk xs], S => match intsOf xs with
    | some ns => .ok (.lst ((sortI ns).map D.int)) S
    | none => .bad
  | xs, S => bSorted xs S
end J
set_option linter.all false
set_option maxRecDepth 100000
/-! a tuple of known make of any items, n times -/
namespace J
def oMulG (x y : D) (S : List D) : R D := match x, y with
  | .tuk xs, .int k => if xs ≠ [] ∧ 2 ≤ k ∧ k ≤ 1000 ∧ xs.length ≤ 1000 then .ok (.tuk (List.replicate k.toNat xs).flatten) S else .bad
  | _, _ => .bad
end J
set_option linter.all false
set_option maxRecDepth 100000
/-! dicts whose keys are tuples: list(d), sorted(d.keys()) -/
namespace J
open PySem (Str)
def tupK (k : List Ky) : D := .tup (k.map kD)
def bListT : List D → List D → R D
  | [x], S => match dctT S x with
    | some (ks, _) => if ks.length ≤ SL then .ok (.lst (ks.map tupK)) S else .bad
    | none => .bad
  | _, _ => .bad
def kSortT (x : D) (S : List D) : R D := match dctT S x with
  | some (ks, _) => if okSort (ks.map tupK) = true then .ok (.lst (sortD (ks.map tupK))) S else .bad
  | none => .bad
def eSortT (a : ME) : ME := fun E S => (a E S).bind fun x S1 => kSortT x S1
def bLenT : List D → List D → R D
  | [.loc n], S => match S[n]? with
    | some (.dcT ks _) => .ok (.int ks.length) S
    | _ => .bad
  | _, _ => .bad
/-! loops whose turns leave new objects in names: these stay as they are from then on -/
def goneF (n : Nat) (S : List D) : Option D → Option D
  | some d => if D.flat d = true then some d else match d with
    | .loc k => if k < n then some (.loc k) else match S[k]? with
      | some o => if D.flat o = true then some o else none
      | none => none
    | _ => none
  | none => none
def gcF (n : Nat) (E : Env) (S : List D) : Option (Env × List D) :=
  if S.length = n then some (E, S) else if n ≤ S.length ∧ (S.take n).all D.flat = true then some (E.map (goneF n S), S.take n) else none
def forGoF (src : Src) (t : Tg) (b : MS) (n : Nat) : Nat → Nat → Env → List D → O
  | 0, _, E, S => if src.alive S = true then .nx E S else .bad
  | k + 1, i, E, S => if src.alive S = true then match src.at_ S i with
    | none => .bad
    | some d => match t.bind d E with
      | none => .bad
      | some E1 => match b E1 S with
        | .nx E2 S2 => match gcF n E2 S2 with
          | some (E3, S3) => forGoF src t b n k (i + 1) E3 S3
          | none => .bad
        | .ct E2 S2 => match gcF n E2 S2 with
          | some (E3, S3) => forGoF src t b n k (i + 1) E3 S3
          | none => .bad
        | .bk E2 S2 => .nx E2 S2
        | o => o
    else .bad
def sForF (t : Tg) (m : MI) (b : MS) : MS := fun E S => match m E S with
  | .ok src S1 => forGoF src t b S1.length src.len 0 E S1
  | .exc c fs S1 => .exc c fs E S1
  | .bad => .bad
def whileGoF (t : MT) (b : MS) (n : Nat) : Nat → Env → List D → O
  | 0, _, _ => .bad
  | k + 1, E, S => (t E S).tO E fun c S1 => if c = true then match b E S1 with
      | .nx E2 S2 => match gcF n E2 S2 with
        | some (E3, S3) => whileGoF t b n k E3 S3
        | none => .bad
      | .ct E2 S2 => match gcF n E2 S2 with
        | some (E3, S3) => whileGoF t b n k E3 S3
        | none => .bad
      | .bk E2 S2 => .nx E2 S2
      | o => o
    else .nx E S1
def sWhileF (fuel : Nat) (t : MT) (b : MS) : MS := fun E S => whileGoF t b S.length fuel E S
end J
namespace J
/-! for .. in d.keys(), the keys tuples; statements whose new objects stay behind them -/
def iKeysT (ma : ME) : MI := fun E S => (ma E S).bind fun x S1 => match x with
  | .dcT ks _ => .ok (Src.its (ks.map tupK)) S1
  | _ => .bad
def sGcF (m : MS) : MS := fun E S => match m E S with
  | .nx E1 S1 => match gcF S.length E1 S1 with
    | some (E2, S2) => .nx E2 S2
    | none => .bad
  | o => o
end J
set_option linter.all false
set_option maxRecDepth 100000
/-! permutations(range(n)) -/
namespace J
def pnx (n : Nat) : Nat → List Nat → List Nat → Option (List Nat × List Nat)
  | 0 => fun _ _ => none
  | p + 1 => fun ix cy =>
    if (cy.getD p 0 - 1 == 0) = true then pnx n p (ix.take p ++ ix.drop (p + 1) ++ [ix.getD p 0]) (cy.set p (n - p))
    else some ((ix.set p (ix.getD (n - (cy.getD p 0 - 1)) 0)).set (n - (cy.getD p 0 - 1)) (ix.getD p 0), cy.set p (cy.getD p 0 - 1))
def permRun (n : Nat) : Nat → List Nat → List Nat → Option (List (List Nat))
  | 0, _, _ => none
  | f + 1, ix, cy => match pnx n n ix cy with
    | none => some [ix]
    | some (a, b) => (permRun n f a b).map (ix :: ·)
def permsOf (n : Nat) : Option (List (List Nat)) := permRun n 100000 (List.range n) ((List.range n).map fun i => n - i)
def rowD (fz : Bool) (row : List Nat) : D := if fz = true then .tuk (row.map fun k : Nat => D.int k) else .tup (row.map fun k : Nat => D.int k)
def kPerm (fz : Bool) (x : D) (S : List D) : R Src := match x with
  | .int j => if 0 ≤ j ∧ j ≤ 100 then match permsOf j.toNat with
    | some L => .ok (Src.its (L.map (rowD fz))) S
    | none => .bad
    else .bad
  | _ => .bad
def iPermRg (fz : Bool) (a : ME) : MI := fun E S => (a E S).bind fun x S1 => kPerm fz x S1
end J
set_option linter.all false
set_option maxRecDepth 100000
/-! combinations(range(n), m) -/
namespace J
def cnx (n : Nat) (ix : List Nat) : Option (List Nat) :=
  ((List.range ix.length).reverse.find? fun i => ix.getD i 0 != i + n - ix.length).map fun i => ix.take i ++ (List.range (ix.length - i)).map fun j => ix.getD i 0 + 1 + j
def combRun (n : Nat) : Nat → List Nat → Option (List (List Nat))
  | 0, _ => none
  | f + 1, ix => match cnx n ix with
    | none => some [ix]
    | some a => (combRun n f a).map (ix :: ·)
def combsOf (n m : Nat) : Option (List (List Nat)) := combRun n 100000 (List.range m)
def kComb (x : D) (y : Option (Option D)) (S : List D) : R Src := match x, y with
  | .int i, some (some (.int j)) => if 0 ≤ i ∧ i ≤ 100 ∧ 0 ≤ j ∧ j ≤ i then match combsOf i.toNat j.toNat with
    | some L => .ok (Src.its (L.map (rowD false))) S
    | none => .bad
    else .bad
  | _, _ => .bad
def iCombRg (a : ME) (k : Nat) : MI := fun E S => (a E S).bind fun x S1 => kComb x (E[k]?) S1
end J
set_option linter.all false
set_option maxRecDepth 100000
/-! truth of tuples of known make -/
namespace J
def tTrK (a : ME) : MT := fun E S => (a E S).bind fun x S1 => match x with
  | .tuk xs => .ok (!xs.isEmpty) S1
  | x => match truth S1 x with
    | some c => .ok c S1
    | none => .bad
end J
namespace J
def mExtendS : D → List D → List D → R D
  | .loc n, [y], S => match S[n]? with
    | some (.lst xs) => match y with
      | .tup zs => if xs.length + zs.length ≤ SL then .ok .non (S.set n (.lst (xs ++ zs))) else .bad
      | .tuk zs => if xs.length + zs.length ≤ SL then .ok .non (S.set n (.lst (xs ++ zs))) else .bad
      | y => mExtend (.loc n) [y] S
    | _ => .bad
  | _, _, _ => .bad
end J
set_option linter.all false
set_option maxRecDepth 100000
/-! sorted of a list of tuples of known make, of ints -/
namespace J
def tukRow : D → Option D
  | .tuk (z :: r) => if allInt (z :: r) = true then some (.tup (z :: r)) else none
  | _ => none
def tukRows : List D → Option (List D)
  | [] => some []
  | d :: ds => match tukRow d, tukRows ds with
    | some a, some b => some (a :: b)
    | _, _ => none
def toTuk : D → D
  | .tup es => .tuk es
  | d => d
def bSortedU : List D → List D → R D
  | [x], S => match lstAny S x with
    | some xs => match tukRows xs with
      | some rows => if rows.all ordOk = true then .ok (.lst ((sortD rows).map toTuk)) S else .bad
      | none => .bad
    | none => .bad
  | _, _ => .bad
end J
set_option linter.all false
set_option maxRecDepth 100000
/-! min of a list of tuples of known make, of one shape -/
namespace J
def unTuks : List D → Option (List D)
  | [] => some []
  | .tuk es :: ds => (unTuks ds).map (.tup es :: ·)
  | _ :: _ => none
def bMinU : List D → List D → R D
  | [x], S => match lstAny S x with
    | some xs => match unTuks xs with
      | some (y :: ys) => if okMin y ys = true then .ok (toTuk (minT y ys)) S else .bad
      | _ => .bad
    | none => .bad
  | _, _ => .bad
def oNeU (x y : D) (S : List D) : R D := match x, y with
  | .lst ds, .lst [] => match unTuks ds with
    | some rows => if cmpOk (.lst rows) = true then .ok (.bl (!rows.isEmpty)) S else .bad
    | none => oNe (.lst ds) (.lst []) S
  | _, _ => oNe x y S
end J
set_option linter.all false
set_option maxRecDepth 100000
/-! texts; copies of dicts; values that stay as they are made -/
namespace J
open PySem (Str)
def oIxS (x y : D) (S : List D) : R D := match x, y with
  | .str z, .int i => if 0 ≤ i ∧ i < z.length ∧ z.length ≤ 1000000 then match z.cps[i.toNat]? with
    | some c => .ok (.str ⟨#[c]⟩) S
    | none => .bad
    else .bad
  | _, _ => .bad
def oInS (x y : D) (S : List D) : R D := match x, y with
  | .str a, .str z => match a.cps.toList with
    | [c] => .ok (.bl (decide (c ∈ z.cps.toList))) S
    | _ => .bad
  | _, _ => .bad
def bLenS : List D → List D → R D
  | [.str y], S => if y.length ≤ SL then .ok (.int y.length) S else .bad
  | xs, S => bLen xs S
def bIntS : List D → List D → R D
  | [.str a], S => match PySem.intText? a with
    | some n => if a.length ≤ 640 then .ok (.int n) S else .bad
    | none => .bad
  | xs, S => bInt xs S
def bStrI : List D → List D → R D
  | [.int i], S => if i.natAbs.log2 < 1920 then .ok (.str (toString i)) S else .bad
  | _, _ => .bad
def kFmt (x : D) (S : List D) : R D := match x with
  | .str y => if y.length ≤ SL then .ok (.str y) S else .bad
  | .int i => if i.natAbs.log2 < 1920 then .ok (.str (toString i)) S else .bad
  | _ => .bad
def eFmt (a : ME) : ME := fun E S => (a E S).bind kFmt
def jsRun : List ME → Str → Env → List D → R D
  | [], acc, _, S => .ok (.str acc) S
  | p :: ps, acc, E, S => (p E S).bind fun x S1 => match x with
    | .str y => if (acc ++ y).length ≤ SL then jsRun ps (acc ++ y) E S1 else .bad
    | _ => .bad
def eJs (ps : List ME) : ME := jsRun ps Str.empty
def strsOf : List D → Option (List Str)
  | [] => some []
  | .str y :: r => (strsOf r).map (y :: ·)
  | _ :: _ => none
def kJoin (x y : D) (S : List D) : R D := match x with
  | .str a => match seqOf S y with
    | some ds => match strsOf ds with
      | some ys => if (ys.map (·.length)).sum + ys.length * a.length ≤ SL then .ok (.str (PySem.Txt.join a ys)) S else .bad
      | none => .bad
    | none => .bad
  | _ => .bad
def eJoin (a b : ME) : ME := fun E S => (a E S).bind fun x S1 => match x with
  | .str _ => (b E S1).bind fun y S2 => kJoin x y S2
  | _ => .bad
def bDictL : List D → List D → R D
  | [x], S => match dctOf S x with
    | some (ks, ds) => .ok (.loc S.length) (S ++ [.dct ks ds])
    | none => .bad
  | _, _ => .bad
def eFrz (m : ME) : ME := fun E S => match m E S with
  | .ok d S1 => match gcF S.length [some d] S1 with
    | some ([some d'], S') => .ok d' S'
    | _ => .bad
  | _ => .bad
end J
set_option linter.all false
set_option maxRecDepth 100000
/-! max(xs, default=0); len(set(t)) of ints -/
namespace J
def bMaxZ : List D → List D → R D
  | [x], S => match seqOf S x with
    | some xs => match intsOf xs with
      | some (n :: ns) => .ok (.int (ns.foldl (fun a y => if y > a then y else a) n)) S
      | some [] => .ok (.int 0) S
      | none => .bad
    | none => .bad
  | _, _ => .bad
def dedupI (ns : List Int) : List Int := ns.foldl (fun acc x => if acc.any (· == x) then acc else acc ++ [x]) []
def eLenSetT (a : ME) : ME := fun E S => (a E S).bind fun x S1 => match x with
  | .tup xs => match intsOf xs with
    | some ns => if ns.length ≤ 1000 then .ok (.int (dedupI ns).length) S1 else .bad
    | none => .bad
  | _ => .bad
def oMulE (x y : D) (S : List D) : R D := match x, y with
  | .tup [], .int k => if 1 ≤ k ∧ k ≤ 1000 then .ok (.tup []) S else .bad
  | x, y => oMul x y S
end J
set_option Elab.async false
set_option linter.all false
set_option maxRecDepth 100000
namespace J
open PySem PySem.Spec PyProof.Rows L2

/-! ### the world: which addresses may change, which of them stand in the store, the heap -/
structure W where
  thA : Addr → Prop
  rhA : List Addr
  H : Hp
structure G where
  K : PySem.W.Frag
  mg : Str → Option Value
def WrT (K : PySem.W.Frag) (a : Addr) (xs : List V) : Prop :=
  ∃ (o : Obj) (its : Array Value) (n : Nat), K.lookup a = some o ∧ o.cls = .type "tuple" ∧ o.data = .seq its n ∧ its.size ≤ sizeLine ∧ Vals xs its.toList
def WrL (K : PySem.W.Frag) (a : Addr) (xs : List V) : Prop :=
  ∃ (o : Obj) (its : Array Value) (n : Nat), K.lookup a = some o ∧ o.cls = .type "list" ∧ o.dict = none ∧ o.data = .seq its n ∧ its.size ≤ sizeLine ∧ Vals xs its.toList
def TupAt (g : G) (w : W) (a : Addr) (xs : List V) : Prop := w.H a = some (.tup xs) ∧ ¬ w.thA a
def RdlAt (g : G) (w : W) (a : Addr) (xs : List V) : Prop := (Rd w.H a (.lst xs) ∧ ¬ w.thA a) ∨ WrL g.K a xs
theorem TupAt.sq {g : G} {w : W} {a : Addr} {xs : List V} (h : TupAt g w a xs) : SqT g.K w.H a xs := .inl (.inl h.1)
theorem RdlAt.sq {g : G} {w : W} {a : Addr} {xs : List V} (h : RdlAt g w a xs) : SqL g.K w.H a xs := h.elim (fun h => .inl h.1) .inr

mutual
def RD (g : G) (w : W) : D → V → Prop
  | .non, v => v = .non
  | .bl b, v => v = .bl b
  | .int i, v => v = .int i
  | .str x, v => v = .str x
  | .ty n, v => v = .ty n
  | .tup ds, v => ∃ a vs, v = .ref a ∧ TupAt g w a vs ∧ RDs g w ds vs
  | .lst ds, v => ∃ a vs, v = .ref a ∧ w.H a = some (.lst vs) ∧ ¬ w.thA a ∧ RDs g w ds vs
  | .rdl ds, v => ∃ a vs, v = .ref a ∧ RdlAt g w a vs ∧ RDs g w ds vs
  | .dct ks ds, v => ∃ a vs, v = .ref a ∧ Rd w.H a (.dK (ks.zip vs)) ∧ ks.length = vs.length ∧ ¬ w.thA a ∧ RDs g w ds vs
  | .dcT ks ds, v => ∃ a vs, v = .ref a ∧ Rd w.H a (.dT (ks.zip vs)) ∧ ks.length = vs.length ∧ ¬ w.thA a ∧ RDs g w ds vs
  | .tuk ds, v => ∃ a vs o, v = .ref a ∧ w.H a = some (.frz o (.tup vs)) ∧ o.dict = none ∧ ¬ w.thA a ∧ RDs g w ds vs
  | .loc n, v => ∃ a, v = .ref a ∧ w.rhA[n]? = some a
def RDs (g : G) (w : W) : List D → List V → Prop
  | [], vs => vs = []
  | d :: ds, vs => ∃ v r, vs = v :: r ∧ RD g w d v ∧ RDs g w ds r
end
def RO (g : G) (w : W) : D → Addr → Prop
  | .lst ds, a => ∃ vs, w.H a = some (.lst vs) ∧ RDs g w ds vs
  | .dct ks ds, a => ∃ vs, w.H a = some (.dK (ks.zip vs)) ∧ ks.length = vs.length ∧ RDs g w ds vs
  | .dcT ks ds, a => ∃ vs, w.H a = some (.dT (ks.zip vs)) ∧ ks.length = vs.length ∧ RDs g w ds vs
  | _, _ => False
def dkt : Sum (List (Key × V)) (List (List Key × V)) → HO
  | .inl k => .dK k
  | .inr k => .dT k
theorem dkt_frz {o : Obj} {u : HO} (k : Sum (List (Key × V)) (List (List Key × V))) : HO.frz o u ≠ dkt k := by
  cases k <;> (intro z; simp [dkt] at z)
theorem dkt_lst {u : List V} (k : Sum (List (Key × V)) (List (List Key × V))) : HO.lst u ≠ dkt k := by
  cases k <;> (intro z; simp [dkt] at z)
theorem dkt_tup {u : List V} (k : Sum (List (Key × V)) (List (List Key × V))) : HO.tup u ≠ dkt k := by
  cases k <;> (intro z; simp [dkt] at z)
structure Good (w : W) : Prop where
  nd : w.rhA.Nodup
  sub : ∀ a, a ∈ w.rhA → w.thA a
  al : ∀ a, w.thA a → w.H a ≠ none
  nt : ∀ a, w.thA a → ∀ xs, w.H a ≠ some (.tup xs)
structure Ext (w w' : W) : Prop where
  rho : ∃ τ, w'.rhA = w.rhA ++ τ ∧ ∀ a, a ∈ τ → w.H a = none
  th1 : ∀ a, w.thA a → w'.thA a
  th2 : ∀ a, w'.thA a → w.thA a ∨ w.H a = none
  kp : ∀ a o, w.H a = some o → a ∉ w.rhA → w'.H a = some o ∨ (¬ w.thA a ∧ ∃ od kvs, o = dkt kvs ∧ w'.H a = some (.frz od (dkt kvs)))
  al : ∀ a, w.H a ≠ none → w'.H a ≠ none
theorem Ext.refl (w : W) : Ext w w := ⟨⟨[], by simp, by simp⟩, fun _ h => h, fun _ h => .inl h, fun _ _ h _ => .inl h, fun _ h => h⟩
theorem none_or {H : Hp} (a : Addr) : H a = none ∨ ∃ o, H a = some o := by
  cases h : H a with
  | none => exact .inl rfl
  | some o => exact .inr ⟨o, rfl⟩
theorem Ext.trans {w w1 w2 : W} (x : Ext w w1) (y : Ext w1 w2) : Ext w w2 := by
  obtain ⟨τ, e1, f1⟩ := x.rho
  obtain ⟨τ2, e2, f2⟩ := y.rho
  have back : ∀ a, w1.H a = none → w.H a = none := fun a h => by
    rcases none_or (H := w.H) a with q | ⟨o, q⟩
    · exact q
    · exact absurd h (x.al a (by rw [q]; simp))
  refine ⟨⟨τ ++ τ2, by rw [e2, e1, List.append_assoc], fun a h => ?_⟩, fun a h => y.th1 a (x.th1 a h), fun a h => ?_, fun a o h n => ?_, fun a h => y.al a (x.al a h)⟩
  · rcases List.mem_append.mp h with h | h
    · exact f1 a h
    · exact back a (f2 a h)
  · rcases y.th2 a h with h | h
    · exact x.th2 a h
    · exact .inr (back a h)
  · have n1 : a ∉ w1.rhA := fun h2 => by
      rw [e1] at h2
      rcases List.mem_append.mp h2 with h2 | h2
      · exact n h2
      · rw [f1 a h2] at h; cases h
    rcases x.kp a o h n with q | ⟨nt, od, kvs, eo, q⟩
    · rcases y.kp a o q n1 with q2 | ⟨nt, od, kvs, eo, q2⟩
      · exact .inl q2
      · exact .inr ⟨fun z => nt (x.th1 a z), od, kvs, eo, q2⟩
    · rcases y.kp a _ q n1 with q2 | ⟨_, od2, kvs2, eo2, q2⟩
      · exact .inr ⟨nt, od, kvs, eo, q2⟩
      · exact absurd eo2 (dkt_frz _)
theorem Ext.kpN {w w' : W} (x : Ext w w') {a : Addr} {o : HO} (h : w.H a = some o) (n : a ∉ w.rhA) (hn : ∀ kvs, o ≠ dkt kvs) : w'.H a = some o := by
  rcases x.kp a o h n with q | ⟨_, od, kvs, eo, q⟩
  · exact q
  · exact absurd eo (hn kvs)
theorem Ext.kpT {w w' : W} (x : Ext w w') {a : Addr} {o : HO} (h : w.H a = some o) (n : a ∉ w.rhA) (ht : w.thA a) : w'.H a = some o := by
  rcases x.kp a o h n with q | ⟨nt, od, kvs, eo, q⟩
  · exact q
  · exact absurd ht nt
theorem Ext.free {w w' : W} (x : Ext w w') {a : Addr} (h : w'.H a = none) : w.H a = none := by
  rcases none_or (H := w.H) a with q | ⟨o, q⟩
  · exact q
  · exact absurd h (x.al a (by rw [q]; simp))
theorem Ext.get {w w' : W} (x : Ext w w') {n : Nat} {a : Addr} (h : w.rhA[n]? = some a) : w'.rhA[n]? = some a := by
  obtain ⟨τ, e, _⟩ := x.rho
  rw [e, List.getElem?_append_left (List.getElem?_eq_some_iff.mp h).1]
  exact h
theorem Ext.th {w w' : W} (x : Ext w w') {a : Addr} {o : HO} (h : w.H a = some o) (n : ¬ w.thA a) : ¬ w'.thA a := fun z => by
  rcases x.th2 a z with z | z
  · exact n z
  · rw [h] at z; cases z
theorem Ext.fz {w w' : W} (G : Good w) (x : Ext w w') {a : Addr} {o : HO} (h : w.H a = some o) (n : ¬ w.thA a) (hn : ∀ kvs, o ≠ dkt kvs := by first | exact dkt_lst | exact dkt_tup | exact dkt_frz) : w'.H a = some o := x.kpN h (fun z => n (G.sub a z)) hn
theorem Ext.fzD {w w' : W} (G : Good w) (x : Ext w w') {a : Addr} {u : HO} (h : Rd w.H a u) (n : ¬ w.thA a) : Rd w'.H a u := by
  have na : a ∉ w.rhA := fun z => n (G.sub a z)
  rcases h with h | ⟨o, h⟩
  · rcases x.kp a _ h na with q | ⟨_, od, kvs2, eo, q⟩
    · exact .inl q
    · exact .inr ⟨od, by rw [eo]; exact q⟩
  · exact .inr ⟨o, x.kpN h na dkt_frz⟩
theorem Ext.thD {w w' : W} (x : Ext w w') {a : Addr} {u : HO} (h : Rd w.H a u) (n : ¬ w.thA a) : ¬ w'.thA a := by
  rcases h with h | ⟨o, h⟩
  · exact x.th h n
  · exact x.th h n
theorem TupAt.mono {g : G} {w w' : W} (G : Good w) (x : Ext w w') {a : Addr} {vs : List V} (h : TupAt g w a vs) : TupAt g w' a vs :=
  ⟨x.fz G h.1 h.2, x.th h.1 h.2⟩
theorem RdlAt.mono {g : G} {w w' : W} (G : Good w) (x : Ext w w') {a : Addr} {vs : List V} (h : RdlAt g w a vs) : RdlAt g w' a vs := by
  rcases h with ⟨h | ⟨o, h⟩, n⟩ | h
  · exact .inl ⟨.inl (x.fz G h n), x.th h n⟩
  · exact .inl ⟨.inr ⟨o, x.fz G h n⟩, x.th h n⟩
  · exact .inr h
mutual
theorem RD.mono {g : G} {w w' : W} (G : Good w) (x : Ext w w') : ∀ (d : D) (v : V), RD g w d v → RD g w' d v
  | .non, _, h => h
  | .bl _, _, h => h
  | .int _, _, h => h
  | .str _, _, h => h
  | .ty _, _, h => h
  | .tup ds, v, h => by
    obtain ⟨a, vs, e, t, r⟩ := h
    exact ⟨a, vs, e, t.mono G x, RDs.mono G x ds vs r⟩
  | .lst ds, v, h => by
    obtain ⟨a, vs, e, t, n, r⟩ := h
    exact ⟨a, vs, e, x.fz G t n, x.th t n, RDs.mono G x ds vs r⟩
  | .rdl ds, v, h => by
    obtain ⟨a, vs, e, t, r⟩ := h
    exact ⟨a, vs, e, t.mono G x, RDs.mono G x ds vs r⟩
  | .dct ks ds, v, h => by
    obtain ⟨a, vs, e, t, l, n, r⟩ := h
    exact ⟨a, vs, e, x.fzD G t n, l, x.thD t n, RDs.mono G x ds vs r⟩
  | .dcT ks ds, v, h => by
    obtain ⟨a, vs, e, t, l, n, r⟩ := h
    exact ⟨a, vs, e, x.fzD G t n, l, x.thD t n, RDs.mono G x ds vs r⟩
  | .tuk ds, v, h => by
    obtain ⟨a, vs, o, e, t, l, n, r⟩ := h
    exact ⟨a, vs, o, e, x.fz G t n, l, x.th t n, RDs.mono G x ds vs r⟩
  | .loc n, v, h => by
    obtain ⟨a, e, t⟩ := h
    exact ⟨a, e, x.get t⟩
theorem RDs.mono {g : G} {w w' : W} (G : Good w) (x : Ext w w') : ∀ (ds : List D) (vs : List V), RDs g w ds vs → RDs g w' ds vs
  | [], _, h => h
  | d :: ds, vs, h => by
    obtain ⟨v, r, e, h1, h2⟩ := h
    exact ⟨v, r, e, RD.mono G x d v h1, RDs.mono G x ds r h2⟩
end
/-! lists of values -/
theorem RDs.length {g : G} {w : W} : ∀ {ds : List D} {vs : List V}, RDs g w ds vs → vs.length = ds.length
  | [], _, h => by cases h; rfl
  | d :: ds, _, h => by
    obtain ⟨v, r, rfl, _, h2⟩ := h
    simp [RDs.length h2]
theorem RDs.get {g : G} {w : W} : ∀ {ds : List D} {vs : List V} {i : Nat} {d : D}, RDs g w ds vs → ds[i]? = some d → ∃ v, vs[i]? = some v ∧ RD g w d v
  | [], _, _, _, _, e => by simp at e
  | d :: ds, _, 0, _, h, e => by
    obtain ⟨v, r, rfl, h1, h2⟩ := h
    simp at e
    subst e
    exact ⟨v, rfl, h1⟩
  | d :: ds, _, i + 1, _, h, e => by
    obtain ⟨v, r, rfl, h1, h2⟩ := h
    obtain ⟨u, h3, h4⟩ := RDs.get (i := i) h2 (by simpa using e)
    exact ⟨u, by simpa using h3, h4⟩
theorem RDs.back {g : G} {w : W} {ds : List D} {vs : List V} {i : Nat} {v : V} (h : RDs g w ds vs) (e : vs[i]? = some v) : ∃ d, ds[i]? = some d ∧ RD g w d v := by
  have l := h.length
  have hi : i < ds.length := by rw [← l]; exact (List.getElem?_eq_some_iff.mp e).1
  obtain ⟨v', h1, h2⟩ := h.get (List.getElem?_eq_getElem hi)
  rw [e] at h1
  cases h1
  exact ⟨_, List.getElem?_eq_getElem hi, h2⟩
theorem RDs.append {g : G} {w : W} : ∀ {ds es : List D} {vs us : List V}, RDs g w ds vs → RDs g w es us → RDs g w (ds ++ es) (vs ++ us)
  | [], _, _, _, h, k => by cases h; exact k
  | d :: ds, _, _, _, h, k => by
    obtain ⟨v, r, rfl, h1, h2⟩ := h
    exact ⟨v, r ++ _, rfl, h1, RDs.append h2 k⟩
theorem RDs.one {g : G} {w : W} {d : D} {v : V} (h : RD g w d v) : RDs g w [d] [v] := ⟨v, [], rfl, h, rfl⟩
theorem RDs.cons {g : G} {w : W} {d : D} {v : V} {ds : List D} {vs : List V} (h : RD g w d v) (t : RDs g w ds vs) : RDs g w (d :: ds) (v :: vs) := ⟨v, vs, rfl, h, t⟩
theorem RDs.drop {g : G} {w : W} : ∀ {ds : List D} {vs : List V} (n : Nat), RDs g w ds vs → RDs g w (ds.drop n) (vs.drop n)
  | _, _, 0, h => h
  | [], _, n + 1, h => by cases h; rfl
  | d :: ds, _, n + 1, h => by
    obtain ⟨v, r, rfl, h1, h2⟩ := h
    exact RDs.drop n h2
theorem RDs.take {g : G} {w : W} : ∀ {ds : List D} {vs : List V} (n : Nat), RDs g w ds vs → RDs g w (ds.take n) (vs.take n)
  | _, _, 0, h => rfl
  | [], _, n + 1, h => by cases h; rfl
  | d :: ds, _, n + 1, h => by
    obtain ⟨v, r, rfl, h1, h2⟩ := h
    exact ⟨v, r.take n, rfl, h1, RDs.take n h2⟩
theorem RDs.set {g : G} {w : W} : ∀ {ds : List D} {vs : List V} (n : Nat) {d : D} {v : V}, RDs g w ds vs → RD g w d v → RDs g w (ds.set n d) (vs.set n v)
  | [], _, _, _, _, h, k => by cases h; rfl
  | e :: ds, _, 0, _, _, h, k => by
    obtain ⟨v, r, rfl, h1, h2⟩ := h
    exact ⟨_, r, rfl, k, h2⟩
  | e :: ds, _, n + 1, _, _, h, k => by
    obtain ⟨v, r, rfl, h1, h2⟩ := h
    exact ⟨v, _, rfl, h1, RDs.set n h2 k⟩
theorem RDs.reverse {g : G} {w : W} : ∀ {ds : List D} {vs : List V}, RDs g w ds vs → RDs g w ds.reverse vs.reverse
  | [], _, h => by cases h; rfl
  | d :: ds, _, h => by
    obtain ⟨v, r, rfl, h1, h2⟩ := h
    rw [List.reverse_cons, List.reverse_cons]
    exact (RDs.reverse h2).append (RDs.one h1)
theorem RDs.rep {g : G} {w : W} {ds : List D} {vs : List V} (h : RDs g w ds vs) : ∀ k : Nat, RDs g w (List.replicate k ds).flatten (List.replicate k vs).flatten
  | 0 => rfl
  | k + 1 => by
    rw [List.replicate_succ, List.replicate_succ, List.flatten_cons, List.flatten_cons]
    exact h.append (RDs.rep h k)
/-! the environment, the store -/
def RE (g : G) (w : W) (E : Env) (σ : L2.St) : Prop := E.length = σ.length ∧ ∀ (i : Nat) (d : D), E[i]? = some (some d) → ∃ v, σ[i]? = some (some v) ∧ RD g w d v
def RS (g : G) (w : W) (S : List D) : Prop := S.length = w.rhA.length ∧ ∀ (n : Nat) (d : D), S[n]? = some d → ∃ a, w.rhA[n]? = some a ∧ RO g w d a
theorem RE.mono {g : G} {w w' : W} {E : Env} {σ : L2.St} (G : Good w) (x : Ext w w') (h : RE g w E σ) : RE g w' E σ := ⟨h.1, fun i d e => by
  obtain ⟨v, h1, h2⟩ := h.2 i d e
  exact ⟨v, h1, h2.mono G x⟩⟩
theorem RO.mono {g : G} {w w' : W} {d : D} {a : Addr} (G : Good w) (x : Ext w w') (e : w'.H a = w.H a) (h : RO g w d a) : RO g w' d a := by
  cases d <;> try exact h.elim
  · obtain ⟨vs, h1, h2⟩ := h
    exact ⟨vs, e.trans h1, h2.mono G x⟩
  · obtain ⟨vs, h1, h3, h2⟩ := h
    exact ⟨vs, e.trans h1, h3, h2.mono G x⟩
  · obtain ⟨vs, h1, h3, h2⟩ := h
    exact ⟨vs, e.trans h1, h3, h2.mono G x⟩
theorem RO.there {g : G} {w : W} {d : D} {a : Addr} (h : RO g w d a) : w.H a ≠ none := by
  cases d <;> try exact h.elim
  · obtain ⟨vs, h1, _⟩ := h
    rw [h1]; simp
  · obtain ⟨vs, h1, _⟩ := h
    rw [h1]; simp
  · obtain ⟨vs, h1, _⟩ := h
    rw [h1]; simp
theorem RS.keep {g : G} {w w' : W} {S : List D} (G : Good w) (x : Ext w w') (hr : w'.rhA = w.rhA) (hk : ∀ a, a ∈ w.rhA → w'.H a = w.H a) (h : RS g w S) : RS g w' S := ⟨by rw [hr]; exact h.1, fun n d e => by
  obtain ⟨a, h1, h2⟩ := h.2 n d e
  exact ⟨a, by rw [hr]; exact h1, h2.mono G x (hk a (List.mem_of_getElem? h1))⟩⟩
abbrev W.put (w : W) (p : Addr) (o : HO) : W := { w with H := upd w.H p o }
theorem put_ext {w : W} {p : Addr} {o : HO} (hp : w.H p = none) : Ext w (w.put p o) := by
  refine ⟨⟨[], by simp, by simp⟩, fun _ h => h, fun _ h => .inl h, fun a u h _ => ?_, fun a h => ?_⟩
  · refine .inl ?_
    show upd w.H p o a = some u
    exact (upd_ne (ne_of_none h hp)).trans h
  · show upd w.H p o a ≠ none
    by_cases e : a = p
    · rw [e, upd_same]; simp
    · rw [upd_ne e]; exact h
theorem put_good {w : W} {p : Addr} {o : HO} (G : Good w) (hp : w.H p = none) : Good (w.put p o) := ⟨G.nd, G.sub, fun a h => by
  show upd w.H p o a ≠ none
  by_cases e : a = p
  · rw [e, upd_same]; simp
  · rw [upd_ne e]; exact G.al a h, fun a h xs => by
  show upd w.H p o a ≠ some (.tup xs)
  rw [upd_ne fun e => G.al a h (by rw [e]; exact hp)]
  exact G.nt a h xs⟩
theorem put_store {g : G} {w : W} {p : Addr} {o : HO} {S : List D} (G : Good w) (hp : w.H p = none) (h : RS g w S) : RS g (w.put p o) S :=
  h.keep G (put_ext hp) rfl fun a ha => by
    have := G.al a (G.sub a ha)
    exact upd_ne fun e => this (by rw [e]; exact hp)
theorem put_th {w : W} {p : Addr} (G : Good w) (hp : w.H p = none) : ¬ w.thA p := fun h => G.al p h hp
abbrev W.add (w : W) (p : Addr) (o : HO) : W := ⟨fun a => w.thA a ∨ a = p, w.rhA ++ [p], upd w.H p o⟩
theorem add_ext {w : W} {p : Addr} {o : HO} (hp : w.H p = none) : Ext w (w.add p o) := by
  refine ⟨⟨[p], rfl, fun a h => ?_⟩, fun _ h => .inl h, fun a h => ?_, fun a u h _ => ?_, fun a h => ?_⟩
  · rw [List.mem_singleton.mp h]; exact hp
  · rcases h with h | h
    · exact .inl h
    · rw [h]; exact .inr hp
  · refine .inl ?_
    show upd w.H p o a = some u
    exact (upd_ne (ne_of_none h hp)).trans h
  · show upd w.H p o a ≠ none
    by_cases e : a = p
    · rw [e, upd_same]; simp
    · rw [upd_ne e]; exact h
theorem add_good {w : W} {p : Addr} {o : HO} (G : Good w) (hp : w.H p = none) (hno : ∀ xs, o ≠ .tup xs := by intro _ z; cases z) : Good (w.add p o) := by
  refine ⟨?_, fun a h => ?_, fun a h => ?_, fun a h xs => ?_⟩
  · show (w.rhA ++ [p]).Nodup
    rw [List.nodup_append]
    refine ⟨G.nd, by simp, fun a ha b hb e => ?_⟩
    rw [List.mem_singleton.mp hb] at e
    exact G.al a (G.sub a ha) (by rw [e]; exact hp)
  · rcases List.mem_append.mp h with h | h
    · exact .inl (G.sub a h)
    · exact .inr (List.mem_singleton.mp h)
  · show upd w.H p o a ≠ none
    by_cases e : a = p
    · rw [e, upd_same]; simp
    · rw [upd_ne e]
      rcases h with h | h
      · exact G.al a h
      · exact absurd h e
  · show upd w.H p o a ≠ some (.tup xs)
    by_cases e : a = p
    · rw [e, upd_same]
      intro z
      exact hno xs (Option.some.inj z)
    · rw [upd_ne e]
      rcases h with h | h
      · exact G.nt a h xs
      · exact absurd h e
theorem add_store {g : G} {w : W} {p : Addr} {o : HO} {S : List D} {d : D} (G : Good w) (hp : w.H p = none) (h : RS g w S) (hd : RO g (w.add p o) d p) : RS g (w.add p o) (S ++ [d]) := by
  refine ⟨by simp [h.1], fun n e he => ?_⟩
  by_cases hn : n < S.length
  · rw [List.getElem?_append_left hn] at he
    obtain ⟨a, h1, h2⟩ := h.2 n e he
    have ha := List.mem_of_getElem? h1
    refine ⟨a, by rw [List.getElem?_append_left (by rw [← h.1]; exact hn)]; exact h1, h2.mono G (add_ext hp) ?_⟩
    exact upd_ne fun e => G.al a (G.sub a ha) (by rw [e]; exact hp)
  · have hl : n = S.length := by
      have := (List.getElem?_eq_some_iff.mp he).1
      simp at this
      omega
    subst hl
    simp at he
    subst he
    exact ⟨p, by rw [h.1]; simp, hd⟩
theorem upd_ext {w : W} {a : Addr} {o : HO} (ha : a ∈ w.rhA) : Ext w { w with H := upd w.H a o } := by
  refine ⟨⟨[], by simp, by simp⟩, fun _ h => h, fun _ h => .inl h, fun b u h n => ?_, fun b h => ?_⟩
  · refine .inl ?_
    show upd w.H a o b = some u
    rw [upd_ne fun e => n (by rw [e]; exact ha)]
    exact h
  · show upd w.H a o b ≠ none
    by_cases e : b = a
    · rw [e, upd_same]; simp
    · rw [upd_ne e]; exact h
theorem upd_store {g : G} {w : W} {a : Addr} {o : HO} {S : List D} {n : Nat} {d : D} (G : Good w) (h : RS g w S) (ha : w.rhA[n]? = some a) (hd : RO g { w with H := upd w.H a o } d a) : RS g { w with H := upd w.H a o } (S.set n d) := by
  have mem := List.mem_of_getElem? ha
  refine ⟨by simp [h.1], fun m e he => ?_⟩
  by_cases hm : m = n
  · subst hm
    have : m < S.length := by rw [h.1]; exact (List.getElem?_eq_some_iff.mp ha).1
    rw [List.getElem?_set_self this] at he
    cases he
    exact ⟨a, ha, hd⟩
  · rw [List.getElem?_set_ne (Ne.symm hm)] at he
    obtain ⟨b, h1, h2⟩ := h.2 m e he
    refine ⟨b, h1, h2.mono G (upd_ext mem) ?_⟩
    refine upd_ne fun e => hm ?_
    subst e
    exact nd_ix G.nd h1 ha
theorem RS.obj {g : G} {w : W} {S : List D} {n : Nat} {a : Addr} {d : D} (h : RS g w S) (ha : w.rhA[n]? = some a) (hd : S[n]? = some d) : RO g w d a := by
  obtain ⟨b, h1, h2⟩ := h.2 n d hd
  rw [ha] at h1
  cases h1
  exact h2
end J
set_option Elab.async false
set_option linter.all false
set_option maxRecDepth 100000
namespace J
open PySem PySem.Spec PyProof.Rows L2

/-! ### readings -/
abbrev _root_.L2.Cx.g (X : L2.Cx) : G := ⟨X.K, X.mg⟩
def RX (g : G) (w : W) (c : Str) (fs : List (Str × D)) (cls : Value) (dx : Option Addr) : Prop :=
  ∃ C, g.mg c = some (.ref C) ∧ cls = .ref C ∧ ((fs = [] ∧ dx = none) ∨ ∃ d vs, fs ≠ [] ∧ dx = some d ∧ w.H d = some (.xd ((fs.map (·.1)).zip vs)) ∧ ¬ w.thA d ∧ RDs g w (fs.map (·.2)) vs)
def PR {α β : Type} (g : G) (Wx : WX) (σ : L2.St) (w : W) (rel : W → α → β → Prop) (Q : β → Hp → Prop) : R α → Prop
  | .ok d S => ∀ v w', Ext w w' → Good w' → rel w' d v → RS g w' S → Q v w'.H
  | .exc c fs S => ∀ cls dx w', Ext w w' → Good w' → RX g w' c fs cls dx → RS g w' S → Wx cls dx σ w'.H
  | .bad => False
structure At (g : G) (w : W) (E : Env) (σ : L2.St) (H : Hp) (S : List D) : Prop where
  hp : w.H = H
  good : Good w
  env : RE g w E σ
  sto : RS g w S
def relB (_ : W) (a b : Bool) : Prop := a = b
def relO (_ : W) (a b : Option Int) : Prop := a = b
def TEof (g : G) (Wx : WX) (m : ME) : TE := fun σ H Q => ∃ w E S, At g w E σ H S ∧ PR g Wx σ w (RD g) Q (m E S)
def TTof (g : G) (Wx : WX) (m : MT) : TT := fun σ H Q => ∃ w E S, At g w E σ H S ∧ PR g Wx σ w relB Q (m E S)
def TAof (g : G) (Wx : WX) (m : MA) : TA := fun σ H Q => ∃ w E S, At g w E σ H S ∧ PR g Wx σ w (RDs g) Q (m E S)
theorem PR.at {α β : Type} {g : G} {Wx : WX} {σ : L2.St} {w w1 : W} {rel : W → α → β → Prop} {Q : β → Hp → Prop} {r : R α} (h : PR g Wx σ w rel Q r) (x : Ext w w1) : PR g Wx σ w1 rel Q r := by
  cases r with
  | ok d S => exact fun v w' y => h v w' (x.trans y)
  | exc c fs S => exact fun cls dx w' y => h cls dx w' (x.trans y)
  | bad => exact h
theorem PR.bind {α β γ δ : Type} {g : G} {Wx : WX} {σ : L2.St} {w : W} {E : Env} {rel1 : W → α → β → Prop} {rel2 : W → γ → δ → Prop} {Q : δ → Hp → Prop} {r : R α} {k : α → List D → R γ} (G : Good w) (he : RE g w E σ)
    (h : PR g Wx σ w rel2 Q (r.bind k)) : PR g Wx σ w rel1 (fun x H1 => ∃ w1 a S1, At g w1 E σ H1 S1 ∧ Ext w w1 ∧ rel1 w1 a x ∧ PR g Wx σ w1 rel2 Q (k a S1)) r := by
  cases r with
  | ok d S => exact fun v w' x G' rl rs => ⟨w', d, S, ⟨rfl, G', he.mono G x, rs⟩, x, rl, PR.at h x⟩
  | exc c fs S => exact h
  | bad => exact h
theorem PR.imp {α β : Type} {g : G} {Wx : WX} {σ : L2.St} {w : W} {rel : W → α → β → Prop} {Q Q' : β → Hp → Prop} {r : R α} (h : PR g Wx σ w rel Q r) (i : ∀ v H, Q v H → Q' v H) : PR g Wx σ w rel Q' r := by
  cases r with
  | ok d S => exact fun v w' x y z t => i _ _ (h v w' x y z t)
  | exc c fs S => exact h
  | bad => exact h
theorem peImp {X : Cx} {e : Expr} {t t' : TE} (h : PE X e t) (f : ∀ σ H Q, t' σ H Q → t σ H Q) : PE X e t' := ⟨fun pins s σ H Q I hw => h.run pins s σ H Q I (f _ _ _ hw)⟩
theorem ptImp {X : Cx} {e : Expr} {t t' : TT} (h : PT X e t) (f : ∀ σ H Q, t' σ H Q → t σ H Q) : PT X e t' := ⟨fun pins s σ H Q I hw => h.run pins s σ H Q I (f _ _ _ hw)⟩
theorem pwImp {X : Cx} {e : Expr} {t t' : TT} (h : PW X e t) (f : ∀ σ H Q, t' σ H Q → t σ H Q) : PW X e t' := ⟨fun wh pins s σ H Q I hw => h.run wh pins s σ H Q I (f _ _ _ hw)⟩
theorem paImp {X : Cx} {es : List Expr} {t t' : TA} (h : PA X es t) (f : ∀ σ H Q, t' σ H Q → t σ H Q) : PA X es t' := ⟨fun pos pins s σ H Q I hw => h.run pos pins s σ H Q I (f _ _ _ hw)⟩
theorem psImp {X : Cx} {st : Stmt} {t t' : TS} (h : PS X st t) (f : ∀ D σ H, t' D σ H → t D σ H) : PS X st t' := ⟨fun pins s σ H D I hw => h.run pins s σ H D I (f _ _ _ hw)⟩
theorem pssImp {X : Cx} {st : List Stmt} {t t' : TS} (h : PSs X st t) (f : ∀ D σ H, t' D σ H → t D σ H) : PSs X st t' := ⟨fun pins s σ H D I hw => h.run pins s σ H D I (f _ _ _ hw)⟩

/-! ### what a reading asks of operations -/
def opOf (g : G) (f : D → D → List D → R D) : R2 := fun x y H Q => ∃ Wx σ w S d e, w.H = H ∧ Good w ∧ RS g w S ∧ RD g w d x ∧ RD g w e y ∧ PR g Wx σ w (RD g) Q (f d e S)
def unOf (g : G) (f : D → List D → R D) : V → Hp → VK → Prop := fun x H Q => ∃ Wx σ w S d, w.H = H ∧ Good w ∧ RS g w S ∧ RD g w d x ∧ PR g Wx σ w (RD g) Q (f d S)
def argOf (g : G) (f : List D → List D → R D) : List V → Hp → VK → Prop := fun xs H Q => ∃ Wx σ w S ds, w.H = H ∧ Good w ∧ RS g w S ∧ RDs g w ds xs ∧ PR g Wx σ w (RD g) Q (f ds S)
def mtOf (g : G) (f : D → List D → List D → R D) : V → List V → Hp → VK → Prop := fun x xs H Q => ∃ Wx σ w S d ds, w.H = H ∧ Good w ∧ RS g w S ∧ RD g w d x ∧ RDs g w ds xs ∧ PR g Wx σ w (RD g) Q (f d ds S)

section
variable {X : Cx} {Wx : WX} {a b c : Expr} {ma mb mc : ME} {pos : Pos}
theorem de_var {i : Nat} {x : Str} (h : PE X (.Name x pos) (tVar i)) : PE X (.Name x pos) (TEof X.g Wx (eVar i)) := by
  refine peImp h fun σ H Q ⟨w, E, S, a, p⟩ => ?_
  unfold eVar at p
  split at p
  · rename_i d e
    obtain ⟨v, h1, h2⟩ := a.env.2 i d e
    exact ⟨v, h1, by have := p v w (Ext.refl w) a.good h2 a.sto; rw [a.hp] at this; exact this⟩
  · exact p.elim
theorem de_c {e : Expr} {v : V} {d : D} (h : PE X e (tC v)) (hd : ∀ w, RD X.g w d v) : PE X e (TEof X.g Wx (eC d)) := by
  refine peImp h fun σ H Q ⟨w, E, S, a, p⟩ => ?_
  have := p v w (Ext.refl w) a.good (hd w) a.sto
  rw [a.hp] at this
  exact this
theorem de_int {i j} : PE X (.Constant (.int i) j pos) (TEof X.g Wx (eC (.int i))) := de_c pe_int fun _ => rfl
theorem de_bl {i j} : PE X (.Constant (.bool i) j pos) (TEof X.g Wx (eC (.bl i))) := de_c pe_bl fun _ => rfl
theorem two {m : D → D → List D → R D} {r : R2} (hr : ∀ x y H Q, opOf X.g m x y H Q → r x y H Q) : ∀ (σ : L2.St) H Q, TEof X.g Wx (eOp m ma mb) σ H Q → tOp r (TEof X.g Wx ma) (TEof X.g Wx mb) σ H Q := fun σ H Q ⟨w, E, S, a, p⟩ => by
  refine ⟨w, E, S, a, PR.imp (PR.bind a.good a.env p) fun x H1 ⟨w1, d, S1, a1, x1, r1, p1⟩ => ?_⟩
  refine ⟨w1, E, S1, a1, PR.imp (PR.bind a1.good a1.env p1) fun y H2 ⟨w2, e, S2, a2, x2, r2, p2⟩ => ?_⟩
  exact hr x y H2 Q ⟨Wx, σ, w2, S2, d, e, a2.hp, a2.good, a2.sto, RD.mono a1.good x2 d x r1, r2, p2⟩
theorem de_op {op : Operator} {m : D → D → List D → R D} (ho : OpR X (binaryOp op) (opOf X.g m)) (ha : PE X a (TEof X.g Wx ma)) (hb : PE X b (TEof X.g Wx mb)) : PE X (.BinOp a op b pos) (TEof X.g Wx (eOp m ma mb)) :=
  peImp (pe_op ho ha hb) (two fun _ _ _ _ h => h)
theorem de_cmp {op : CmpOp} {m : D → D → List D → R D} (ho : OpR X (compareOp op) (opOf X.g m)) (ha : PE X a (TEof X.g Wx ma)) (hb : PE X b (TEof X.g Wx mb)) (h1 : behindInMarks op b = false) : PE X (.Compare a [op] [b] pos) (TEof X.g Wx (eOp m ma mb)) :=
  peImp (pe_cmpR ho ha hb h1) (two fun _ _ _ _ h => h)
theorem de_ix {m : D → D → List D → R D} (ho : IxR X (opOf X.g m)) (ha : PE X a (TEof X.g Wx ma)) (hb : PE X b (TEof X.g Wx mb)) (h1 : PlainIx b) : PE X (.Subscript a b pos) (TEof X.g Wx (eOp m ma mb)) :=
  peImp (pe_ix ho ha hb h1) (two fun _ _ _ _ h => h)
/-! arguments -/
theorem da_nil : PA X [] (TAof X.g Wx aNil) := by
  refine paImp pa_nil fun σ H Q ⟨w, E, S, a, p⟩ => ?_
  have := p [] w (Ext.refl w) a.good rfl a.sto
  rw [a.hp] at this
  exact this
theorem da_cons {es : List Expr} {mr : MA} (ha : PE X a (TEof X.g Wx ma)) (hr : PA X es (TAof X.g Wx mr)) (hs : starEach (a :: es) X.env = (false, eval a X.env) :: starEach es X.env := by rfl) : PA X (a :: es) (TAof X.g Wx (aCons ma mr)) := by
  refine paImp (pa_cons ha hr hs) fun σ H Q ⟨w, E, S, a, p⟩ => ?_
  refine ⟨w, E, S, a, PR.imp (PR.bind a.good a.env p) fun x H1 ⟨w1, d, S1, a1, x1, r1, p1⟩ => ?_⟩
  refine ⟨w1, E, S1, a1, PR.imp (PR.bind a1.good a1.env p1) fun xs H2 ⟨w2, ds, S2, a2, x2, r2, p2⟩ => ?_⟩
  have := p2 (x :: xs) w2 (Ext.refl w2) a2.good (RDs.cons (RD.mono a1.good x2 d x r1) r2) a2.sto
  rw [a2.hp] at this
  exact this
theorem args {m : List D → List D → R D} {ma : MA} {r : List V → Hp → VK → Prop} (hr : ∀ xs H Q, argOf X.g m xs H Q → r xs H Q) : ∀ (σ : L2.St) H Q, TEof X.g Wx (eArgs m ma) σ H Q → tCB r (TAof X.g Wx ma) σ H Q := fun σ H Q ⟨w, E, S, a, p⟩ => by
  refine ⟨w, E, S, a, PR.imp (PR.bind a.good a.env p) fun xs H1 ⟨w1, ds, S1, a1, x1, r1, p1⟩ => ?_⟩
  exact hr xs H1 Q ⟨Wx, σ, w1, S1, ds, a1.hp, a1.good, a1.sto, r1, p1⟩
theorem de_callB {x : Str} {id : String} {m : List D → List D → R D} {es : List Expr} {e : Expr} {mr : MA} {p : Pos} (hc : CallR X (.builtin id) (argOf X.g m)) (hg : Gl X x) (hm : X.mg x = none) (hv : bootBuiltins x = some (.builtin id)) (ha : PA X (e :: es) (TAof X.g Wx mr)) (hn : x ≠ "__name__" := by decide) (hdb : (x == ("__debug__" : Str)) = false := by decide)
    (he : starEach (e :: es) X.env = (false, eval e X.env) :: starEach es X.env := by rfl) (hpl : (backTo pos (starEach es X.env)).any (·.1) = false := by rfl) : PE X (.Call (.Name x p) (e :: es) [] pos) (TEof X.g Wx (eArgs m mr)) :=
  peImp (pe_callB hc hg hm hv ha hn hdb he hpl) (args fun _ _ _ h => h)
theorem de_callTy {x : Str} {T : String} {m : List D → List D → R D} {es : List Expr} {e : Expr} {mr : MA} {p : Pos} (hc : CallR X (.type T) (argOf X.g m)) (hg : Gl X x) (hm : X.mg x = none) (hv : bootBuiltins x = some (.type T)) (ha : PA X (e :: es) (TAof X.g Wx mr)) (hn : x ≠ "__name__" := by decide) (hdb : (x == ("__debug__" : Str)) = false := by decide)
    (he : starEach (e :: es) X.env = (false, eval e X.env) :: starEach es X.env := by rfl) (hpl : (backTo pos (starEach es X.env)).any (·.1) = false := by rfl) : PE X (.Call (.Name x p) (e :: es) [] pos) (TEof X.g Wx (eArgs m mr)) :=
  peImp (pe_callTy hc hg hm hv ha hn hdb he hpl) (args fun _ _ _ h => h)
/-! new objects -/
theorem new_tup {Wx : WX} {σ : L2.St} {w : W} {Q : VK} {ds : List D} {vs : List V} {S : List D} (p : PR X.g Wx σ w (RD X.g) Q (.ok (.tup ds) S)) (G : Good w) (rs : RS X.g w S) (r : RDs X.g w ds vs) (q : Addr) (hq : w.H q = none) : Q (.ref q) (upd w.H q (.tup vs)) :=
  p (.ref q) (w.put q (.tup vs)) (put_ext hq) (put_good G hq) ⟨q, vs, rfl, ⟨upd_same, put_th (w := w) G hq⟩, r.mono G (put_ext hq)⟩ (put_store G hq rs)
theorem new_lst {Wx : WX} {σ : L2.St} {w : W} {Q : VK} {ds : List D} {vs : List V} {S : List D} (p : PR X.g Wx σ w (RD X.g) Q (.ok (.lst ds) S)) (G : Good w) (rs : RS X.g w S) (r : RDs X.g w ds vs) (q : Addr) (hq : w.H q = none) : Q (.ref q) (upd w.H q (.lst vs)) :=
  p (.ref q) (w.put q (.lst vs)) (put_ext hq) (put_good G hq) ⟨q, vs, rfl, upd_same, put_th (w := w) G hq, r.mono G (put_ext hq)⟩ (put_store G hq rs)
theorem new_loc {Wx : WX} {σ : L2.St} {w : W} {Q : VK} {ds : List D} {vs : List V} {S : List D} (p : PR X.g Wx σ w (RD X.g) Q (.ok (.loc S.length) (S ++ [.lst ds]))) (G : Good w) (rs : RS X.g w S) (r : RDs X.g w ds vs) (q : Addr) (hq : w.H q = none) : Q (.ref q) (upd w.H q (.lst vs)) :=
  p (.ref q) (w.add q (.lst vs)) (add_ext hq) (add_good G hq) ⟨q, rfl, by rw [rs.1]; simp⟩ (add_store G hq rs ⟨vs, upd_same, r.mono G (add_ext hq)⟩)
theorem sl_eq : SL = sizeLine := by rw [sizeLine_eq]; rfl
theorem de_disp {es : List Expr} {e : Expr} {mr : MA} {m : List D → List D → R D} {t : TE} (h : PE X e t) (ht : ∀ (σ : L2.St) H Q, (TAof X.g Wx mr) σ H (fun xs H1 => argOf X.g m xs H1 Q) → t σ H Q) : PE X e (TEof X.g Wx (eArgs m mr)) :=
  peImp h fun σ H Q hh => ht σ H Q (args (X := X) (r := argOf X.g m) (fun _ _ _ h => h) σ H Q hh)
theorem de_tup {es : List Expr} {mr : MA} {x1} (h : PA X es (TAof X.g Wx mr)) : PE X (.Tuple es x1 pos) (TEof X.g Wx (eArgs bTup mr)) := by
  refine de_disp (es := es) (pe_tup h) fun σ H Q ⟨w, E, S, a, p⟩ => ⟨w, E, S, a, PR.imp p fun xs H1 hh => ?_⟩
  obtain ⟨Wx, σ, w, S, ds, rfl, G, rs, r, p⟩ := hh
  unfold bTup at p
  split at p
  · rename_i hl
    rw [sl_eq, ← r.length] at hl
    exact ⟨hl, new_tup p G rs r⟩
  · exact p.elim
theorem de_lstL {es : List Expr} {mr : MA} (h : PA X es (TAof X.g Wx mr)) : PE X (.List es pos) (TEof X.g Wx (eArgs bLstL mr)) := by
  refine de_disp (es := es) (pe_lst h) fun σ H Q ⟨w, E, S, a, p⟩ => ⟨w, E, S, a, PR.imp p fun xs H1 hh => ?_⟩
  obtain ⟨Wx, σ, w, S, ds, rfl, G, rs, r, p⟩ := hh
  unfold bLstL at p
  split at p
  · rename_i hl
    rw [sl_eq, ← r.length] at hl
    exact ⟨hl, new_loc p G rs r⟩
  · exact p.elim
end
end J
set_option Elab.async false
set_option linter.all false
set_option maxRecDepth 100000
set_option maxHeartbeats 1000000
namespace J
open PySem PySem.Spec PyProof.Rows L2
section
variable {X : Cx} {Wx : WX} {a b c : Expr} {ma mb mc : ME} {ta tb tc : MT} {pos : Pos}

/-! ### tests -/
theorem tvUse {Q : Bool → Hp → Prop} {σ : L2.St} {H : Hp} (h : TTof X.g Wx (tV ma) σ H Q) : TEof X.g Wx ma σ H fun x H1 => ∃ c, x = .bl c ∧ Q c H1 := by
  obtain ⟨w, E, S, a, p⟩ := h
  refine ⟨w, E, S, a, PR.imp (PR.bind a.good a.env p) fun x H1 ⟨w1, d, S1, a1, x1, r1, p1⟩ => ?_⟩
  cases d <;> try exact p1.elim
  rename_i k
  cases r1
  have := p1 k w1 (Ext.refl w1) a1.good rfl a1.sto
  rw [a1.hp] at this
  exact ⟨k, rfl, this⟩
theorem dt_cmp {op : CmpOp} {m : D → D → List D → R D} (ho : OpR X (compareOp op) (opOf X.g m)) (ha : PE X a (TEof X.g Wx ma)) (hb : PE X b (TEof X.g Wx mb)) (h1 : behindInMarks op b = false) : PT X (.Compare a [op] [b] pos) (TTof X.g Wx (tV (eOp m ma mb))) :=
  ptImp (pt_cmpR ho ha hb h1) fun σ H Q hh => two (X := X) (Wx := Wx) (fun _ _ _ _ h => h) σ H _ (tvUse hh)
theorem seqOf_some {S : List D} {d : D} {xs : List D} (h : seqOf S d = some xs) : d = .tup xs ∨ d = .lst xs ∨ d = .rdl xs ∨ ∃ n, d = .loc n ∧ S[n]? = some (.lst xs) := by
  unfold seqOf at h
  split at h
  · cases h; exact .inl rfl
  · cases h; exact .inr (.inl rfl)
  · cases h; exact .inr (.inr (.inl rfl))
  · rename_i n
    split at h
    · rename_i ds e
      cases h; exact .inr (.inr (.inr ⟨n, rfl, e⟩))
    · cases h
  · cases h
theorem lstOf_some {S : List D} {d : D} {xs : List D} (h : lstOf S d = some xs) : d = .lst xs ∨ ∃ n, d = .loc n ∧ S[n]? = some (.lst xs) := by
  unfold lstOf at h
  split at h
  · cases h; exact .inl rfl
  · rename_i n
    split at h
    · rename_i ds e
      cases h; exact .inr ⟨n, rfl, e⟩
    · cases h
  · cases h
theorem dctOf_some {S : List D} {d : D} {ks : List Ky} {xs : List D} (h : dctOf S d = some (ks, xs)) : d = .dct ks xs ∨ ∃ n, d = .loc n ∧ S[n]? = some (.dct ks xs) := by
  unfold dctOf at h
  split at h
  · cases h; exact .inl rfl
  · rename_i n
    split at h
    · rename_i ds e
      cases h; exact .inr ⟨n, rfl, by assumption⟩
    · cases h
  · cases h
theorem RD.seq {g : G} {w : W} {S : List D} {d : D} {v : V} {xs : List D} (rs : RS g w S) (r : RD g w d v) (h : seqOf S d = some xs) : ∃ p vs, v = .ref p ∧ (SqL g.K w.H p vs ∨ SqT g.K w.H p vs) ∧ RDs g w xs vs := by
  rcases seqOf_some h with rfl | rfl | rfl | ⟨n, rfl, e⟩
  · obtain ⟨p, vs, rfl, t, r⟩ := r
    exact ⟨p, vs, rfl, .inr t.sq, r⟩
  · obtain ⟨p, vs, rfl, t, _, r⟩ := r
    exact ⟨p, vs, rfl, .inl (SqL.of t), r⟩
  · obtain ⟨p, vs, rfl, t, r⟩ := r
    exact ⟨p, vs, rfl, .inl t.sq, r⟩
  · obtain ⟨p, rfl, hp⟩ := r
    obtain ⟨vs, h1, h2⟩ := rs.obj hp e
    exact ⟨p, vs, rfl, .inl (SqL.of h1), h2⟩
theorem RD.lstAt {g : G} {w : W} {S : List D} {d : D} {v : V} {xs : List D} (rs : RS g w S) (r : RD g w d v) (h : lstOf S d = some xs) : ∃ p vs, v = .ref p ∧ w.H p = some (.lst vs) ∧ RDs g w xs vs := by
  rcases lstOf_some h with rfl | ⟨n, rfl, e⟩
  · obtain ⟨p, vs, rfl, t, _, r⟩ := r
    exact ⟨p, vs, rfl, t, r⟩
  · obtain ⟨p, rfl, hp⟩ := r
    obtain ⟨vs, h1, h2⟩ := rs.obj hp e
    exact ⟨p, vs, rfl, h1, h2⟩
theorem RD.dctAt {g : G} {w : W} {S : List D} {d : D} {v : V} {ks : List Ky} {xs : List D} (rs : RS g w S) (r : RD g w d v) (h : dctOf S d = some (ks, xs)) : ∃ p vs, v = .ref p ∧ Rd w.H p (.dK (ks.zip vs)) ∧ ks.length = vs.length ∧ RDs g w xs vs := by
  rcases dctOf_some h with rfl | ⟨n, rfl, e⟩
  · obtain ⟨p, vs, rfl, t, l, _, r⟩ := r
    exact ⟨p, vs, rfl, t, l, r⟩
  · obtain ⟨p, rfl, hp⟩ := r
    obtain ⟨vs, h1, l, h2⟩ := rs.obj hp e
    exact ⟨p, vs, rfl, .inl h1, l, h2⟩
theorem RDs.isE {g : G} {w : W} {xs : List D} {vs : List V} (r : RDs g w xs vs) : vs.isEmpty = xs.isEmpty := by
  have := r.length
  cases xs <;> cases vs <;> simp_all
theorem zip_isE {α β : Type} {ks : List α} {vs : List β} (l : ks.length = vs.length) : (ks.zip vs).isEmpty = ks.isEmpty := by
  cases ks <;> cases vs <;> simp_all
def TruW (K : PySem.W.Frag) (x : V) (H : Hp) (k : Bool) : Prop := TruV K x H k ∨ ∃ p kvs, x = .ref p ∧ Rd H p (.dK kvs) ∧ k = !kvs.isEmpty
theorem tru_w {X : Cx} : TruR X (fun x H Q => ∃ k, TruW X.K x H k ∧ Q k H) := by
  intro pins s σ H x v Q I rx h
  obtain ⟨k, e | ⟨p, kvs, rfl, hx, rfl⟩, q⟩ := h
  · exact tru_ok pins s σ H x v Q I rx ⟨k, e, q⟩
  · cases rx
    have hs : sizeLine = 16777216 := sizeLine_eq
    obtain ⟨hz, hS, vs, r, m⟩ := dk_rd I.hok hx
    have hlen : kvs.length = vs.length := PySem.Paired.length r
    exact wpAny_truthy_dict hS m (by omega) ⟨H, I.tok _, by rw [isEmpty_kv r]; exact q⟩
theorem pt_truthW {X : Cx} {a : Expr} {ta : TE} (ha : PE X a ta) (he : ∀ whole, isTrue a X.env whole = (do let v ← whole; standAt a.pos; holding [v] (truthy v))) :
    PT X a (fun σ H Q => ta σ H fun x H' => ∃ k, TruW X.K x H' k ∧ Q k H') := by
  refine ⟨fun pins s σ H Q I h => ?_⟩
  exact isTrue_plain (thn (ha.run pins s σ H _ I h) fun v s1 ⟨x, H1, I1, r1, q1⟩ => tru_w pins s1 σ H1 x v Q I1 r1 q1) (he _)
theorem RD.truthV {g : G} {w : W} {S : List D} {d : D} {v : V} {k : Bool} (rs : RS g w S) (r : RD g w d v) (h : truth S d = some k) : TruW g.K v w.H k := by
  have sq : ∀ xs, seqOf S d = some xs → k = !xs.isEmpty → TruW g.K v w.H k := fun xs e e2 => by
    obtain ⟨p, vs, rfl, t, r2⟩ := RD.seq rs r e
    rw [e2]
    rcases t with t | t
    · exact .inl (.inl ⟨vs, t, by rw [r2.isE]⟩)
    · exact .inl (.inr (.inl ⟨vs, t, by rw [r2.isE]⟩))
  have dc : ∀ ks xs, dctOf S d = some (ks, xs) → k = !ks.isEmpty → TruW g.K v w.H k := fun ks xs e e2 => by
    obtain ⟨p, vs, rfl, t, l, r2⟩ := RD.dctAt rs r e
    rw [e2]
    exact .inr ⟨p, _, rfl, t, by rw [zip_isE l]⟩
  unfold truth at h
  split at h
  · cases h; cases r; exact .inl rfl
  · cases h; cases r; exact .inl rfl
  · cases h; cases r; exact .inl rfl
  · cases h; exact dc _ _ rfl rfl
  · cases h; exact sq _ rfl rfl
  · cases h; exact sq _ rfl rfl
  · cases h; exact sq _ rfl rfl
  · split at h
    · rename_i e
      cases h; exact sq _ (by simp only [seqOf, e]) rfl
    · rename_i e
      cases h; exact dc _ _ (by simp only [dctOf, e]; rfl) rfl
    · cases h
  · cases h
theorem dt_truth (h : PE X a (TEof X.g Wx ma)) (he : ∀ whole, isTrue a X.env whole = (do let v ← whole; standAt a.pos; holding [v] (truthy v)) := by intro _; rfl) : PT X a (TTof X.g Wx (tTr ma)) := by
  refine ptImp (pt_truthW h he) fun σ H Q ⟨w, E, S, a, p⟩ => ?_
  refine ⟨w, E, S, a, PR.imp (PR.bind a.good a.env p) fun x H1 ⟨w1, d, S1, a1, x1, r1, p1⟩ => ?_⟩
  split at p1
  · rename_i k e
    have := p1 k w1 (Ext.refl w1) a1.good rfl a1.sto
    rw [a1.hp] at this
    exact ⟨k, by rw [← a1.hp]; exact r1.truthV a1.sto e, this⟩
  · exact p1.elim
theorem dt_not (h : PT X a (TTof X.g Wx ta)) : PT X (.UnaryOp .Not a pos) (TTof X.g Wx (J.tNot ta)) := by
  refine ptImp (pt_not h) fun σ H Q ⟨w, E, S, a, p⟩ => ?_
  refine ⟨w, E, S, a, PR.imp (PR.bind a.good a.env p) fun x H1 ⟨w1, d, S1, a1, x1, r1, p1⟩ => ?_⟩
  obtain rfl : d = x := r1
  have := p1 (!d) w1 (Ext.refl w1) a1.good rfl a1.sto
  rw [a1.hp] at this
  exact this
theorem dw_and1 (h : PT X a (TTof X.g Wx ta)) : PW X (.BoolOp .And [a] pos) (TTof X.g Wx ta) := pw_and1 h
theorem dw_or1 (h : PT X a (TTof X.g Wx ta)) : PW X (.BoolOp .Or [a] pos) (TTof X.g Wx ta) := pw_or1 h
theorem dw_and {rest : List Expr} (h : PT X a (TTof X.g Wx ta)) (hb : PW X (.BoolOp .And (b :: rest) pos) (TTof X.g Wx tb)) : PW X (.BoolOp .And (a :: b :: rest) pos) (TTof X.g Wx (J.tAnd ta tb)) := by
  refine pwImp (pw_and h hb) fun σ H Q ⟨w, E, S, a, p⟩ => ?_
  refine ⟨w, E, S, a, PR.imp (PR.bind a.good a.env p) fun x H1 ⟨w1, d, S1, a1, x1, r1, p1⟩ => ?_⟩
  obtain rfl : d = x := r1
  cases d
  · rw [if_neg Bool.false_ne_true] at p1 ⊢
    have := p1 false w1 (Ext.refl w1) a1.good rfl a1.sto
    rw [a1.hp] at this
    exact this
  · rw [if_pos rfl] at p1 ⊢
    exact ⟨w1, E, S1, a1, p1⟩
theorem dw_or {rest : List Expr} (h : PT X a (TTof X.g Wx ta)) (hb : PW X (.BoolOp .Or (b :: rest) pos) (TTof X.g Wx tb)) : PW X (.BoolOp .Or (a :: b :: rest) pos) (TTof X.g Wx (J.tOr ta tb)) := by
  refine pwImp (pw_or h hb) fun σ H Q ⟨w, E, S, a, p⟩ => ?_
  refine ⟨w, E, S, a, PR.imp (PR.bind a.good a.env p) fun x H1 ⟨w1, d, S1, a1, x1, r1, p1⟩ => ?_⟩
  obtain rfl : d = x := r1
  cases d
  · rw [if_neg Bool.false_ne_true] at p1 ⊢
    exact ⟨w1, E, S1, a1, p1⟩
  · rw [if_pos rfl] at p1 ⊢
    have := p1 true w1 (Ext.refl w1) a1.good rfl a1.sto
    rw [a1.hp] at this
    exact this
/-! values by tests -/
theorem de_if (hc : PT X c (TTof X.g Wx tc)) (ha : PE X a (TEof X.g Wx ma)) (hb : PE X b (TEof X.g Wx mb)) : PE X (.IfExp c a b pos) (TEof X.g Wx (eIf tc ma mb)) := by
  refine peImp (pe_ifExp hc ha hb) fun σ H Q ⟨w, E, S, a, p⟩ => ?_
  refine ⟨w, E, S, a, PR.imp (PR.bind a.good a.env p) fun x H1 ⟨w1, d, S1, a1, x1, r1, p1⟩ => ?_⟩
  obtain rfl : d = x := r1
  cases d
  · rw [if_neg Bool.false_ne_true] at p1 ⊢
    exact ⟨w1, E, S1, a1, p1⟩
  · rw [if_pos rfl] at p1 ⊢
    exact ⟨w1, E, S1, a1, p1⟩
theorem de_one {op} (h : PE X a (TEof X.g Wx ma)) : PE X (.BoolOp op [a] pos) (TEof X.g Wx ma) := pe_one h
theorem blUse {σ : L2.St} {H : Hp} {E : Env} {k : Bool → List D → R D} {Q Q' : VK} {w1 : W} {d : D} {S1 : List D} {x : V} (a1 : At X.g w1 E σ H S1) (r1 : RD X.g w1 d x)
    (p : PR X.g Wx σ w1 (RD X.g) Q (onBl d fun c => k c S1)) : ∃ c, x = .bl c ∧ d = .bl c ∧ PR X.g Wx σ w1 (RD X.g) Q (k c S1) := by
  cases d <;> try exact p.elim
  cases r1
  exact ⟨_, rfl, rfl, p⟩
theorem de_and {rest : List Expr} (h : PE X a (TEof X.g Wx ma)) (hb : PE X (.BoolOp .And (b :: rest) pos) (TEof X.g Wx mb)) : PE X (.BoolOp .And (a :: b :: rest) pos) (TEof X.g Wx (eAnd ma mb)) := by
  refine peImp (pe_and h hb) fun σ H Q ⟨w, E, S, a, p⟩ => ?_
  refine ⟨w, E, S, a, PR.imp (PR.bind a.good a.env p) fun x H1 ⟨w1, d, S1, a1, x1, r1, p1⟩ => ?_⟩
  obtain ⟨c, rfl, rfl, q⟩ := blUse (k := fun c S1 => if c = true then mb E S1 else .ok (.bl false) S1) (Q' := Q) a1 r1 p1
  refine ⟨c, rfl, ?_⟩
  cases c
  · rw [if_neg Bool.false_ne_true] at q ⊢
    have := q (.bl false) w1 (Ext.refl w1) a1.good rfl a1.sto
    rw [a1.hp] at this
    exact this
  · rw [if_pos rfl] at q ⊢
    exact ⟨w1, E, S1, a1, q⟩
theorem de_not (h : PE X a (TEof X.g Wx ma)) : PE X (.UnaryOp .Not a pos) (TEof X.g Wx (eNot ma)) := by
  refine peImp (pe_not h) fun σ H Q ⟨w, E, S, a, p⟩ => ?_
  refine ⟨w, E, S, a, PR.imp (PR.bind a.good a.env p) fun x H1 ⟨w1, d, S1, a1, x1, r1, p1⟩ => ?_⟩
  obtain ⟨c, rfl, rfl, q⟩ := blUse (k := fun c S1 => .ok (.bl (!c)) S1) (Q' := Q) a1 r1 p1
  have := q (.bl (!c)) w1 (Ext.refl w1) a1.good rfl a1.sto
  rw [a1.hp] at this
  exact ⟨c, rfl, this⟩
theorem chainUse {m m' : D → D → List D → R D} : ∀ (σ : L2.St) H Q, TEof X.g Wx (eChain m m' ma mb mc) σ H Q → tChain (opOf X.g m) (opOf X.g m') (TEof X.g Wx ma) (TEof X.g Wx mb) (TEof X.g Wx mc) σ H Q := fun σ H Q ⟨w, E, S, a, p⟩ => by
  refine ⟨w, E, S, a, PR.imp (PR.bind a.good a.env p) fun x H1 ⟨w1, d, S1, a1, x1, r1, p1⟩ => ?_⟩
  refine ⟨w1, E, S1, a1, PR.imp (PR.bind a1.good a1.env p1) fun y H2 ⟨w2, e, S2, a2, x2, r2, p2⟩ => ?_⟩
  refine ⟨Wx, σ, w2, S2, d, e, a2.hp, a2.good, a2.sto, RD.mono a1.good x2 d x r1, r2, ?_⟩
  refine PR.imp (PR.bind a2.good a2.env p2) fun z H3 ⟨w3, f, S3, a3, x3, r3, p3⟩ => ?_
  obtain ⟨c, rfl, rfl, q⟩ := blUse (k := fun k S3 => if k = true then (mc E S3).bind fun z S4 => m' e z S4 else .ok (.bl false) S3) (Q' := Q) a3 r3 p3
  refine ⟨c, rfl, ?_⟩
  cases c
  · rw [if_neg Bool.false_ne_true] at q ⊢
    have := q (.bl false) w3 (Ext.refl w3) a3.good rfl a3.sto
    rw [a3.hp] at this
    exact this
  · rw [if_pos rfl] at q ⊢
    refine ⟨w3, E, S3, a3, PR.imp (PR.bind a3.good a3.env q) fun u H4 ⟨w4, f, S4, a4, x4, r4, p4⟩ => ?_⟩
    exact ⟨Wx, σ, w4, S4, e, f, a4.hp, a4.good, a4.sto, RD.mono a2.good (x3.trans x4) e y r2, r4, p4⟩
theorem de_chain {op op' : CmpOp} {m m' : D → D → List D → R D} (ho : OpR X (compareOp op) (opOf X.g m)) (ho' : OpR X (compareOp op') (opOf X.g m')) (ha : PE X a (TEof X.g Wx ma)) (hb : PE X b (TEof X.g Wx mb)) (hc : PE X c (TEof X.g Wx mc))
    (hm : lastMarks [op, op'] [b, c] = false := by with_unfolding_all rfl) : PE X (.Compare a [op, op'] [b, c] pos) (TEof X.g Wx (eChain m m' ma mb mc)) := peImp (pe_chain ho ho' ha hb hc hm) chainUse
end

/-! ### operators -/
section
variable {X : Cx}
theorem opI {f : Value → Value → Sem Value} {m : D → D → List D → R D} {C : Int → Int → Prop} {k : Int → Int → V} (ho : OpR X f (rI C k))
    (hm : ∀ d e S, (∃ i j, d = .int i ∧ e = .int j ∧ C i j ∧ ∃ z, m d e S = .ok z S ∧ ∀ w, RD X.g w z (k i j)) ∨ m d e S = .bad) : OpR X f (opOf X.g m) := by
  intro pins s σ H x y v u Q I rx ry ⟨Wx, σ', w, S, d, e, hH, G, rs, r1, r2, p⟩
  rcases hm d e S with ⟨i, j, rfl, rfl, c, z, ez, rz⟩ | eb
  · cases r1
    cases r2
    rw [ez] at p
    have := p _ w (Ext.refl w) G (rz w) rs
    rw [hH] at this
    exact ho pins s σ H _ _ v u Q I rx ry ⟨i, j, rfl, rfl, c, this⟩
  · rw [eb] at p
    exact p.elim
theorem opI0 {f : Value → Value → Sem Value} {m : D → D → List D → R D} {k : Int → Int → V} (ho : OpR X f (rI0 k))
    (hm : ∀ d e S, (∃ i j, d = .int i ∧ e = .int j ∧ ∃ z, m d e S = .ok z S ∧ ∀ w, RD X.g w z (k i j)) ∨ m d e S = .bad) : OpR X f (opOf X.g m) := by
  intro pins s σ H x y v u Q I rx ry ⟨Wx, σ', w, S, d, e, hH, G, rs, r1, r2, p⟩
  rcases hm d e S with ⟨i, j, rfl, rfl, z, ez, rz⟩ | eb
  · cases r1
    cases r2
    rw [ez] at p
    have := p _ w (Ext.refl w) G (rz w) rs
    rw [hH] at this
    exact ho pins s σ H _ _ v u Q I rx ry ⟨i, j, rfl, rfl, this⟩
  · rw [eb] at p
    exact p.elim
end
end J
set_option Elab.async false
set_option linter.all false
set_option maxRecDepth 100000
set_option maxHeartbeats 1000000
namespace J
open PySem PySem.Spec PyProof.Rows L2
section
variable {X : Cx}
theorem putSame {Wx : WX} {σ : L2.St} {w : W} {rel : W → D → V → Prop} {Q : VK} {d : D} {v : V} {S : List D} (p : PR X.g Wx σ w rel Q (.ok d S)) (G : Good w) (rs : RS X.g w S) (r : rel w d v) : Q v w.H :=
  p v w (Ext.refl w) G r rs
/-! ints -/
theorem jo_sub : OpR X (binaryOp .Sub) (opOf X.g oSub) := opI0 op_sub fun d e S => by
  unfold oSub; split
  · exact .inl ⟨_, _, rfl, rfl, _, rfl, fun _ => rfl⟩
  · exact .inr rfl
theorem jo_div : OpR X (binaryOp .FloorDiv) (opOf X.g oDiv) := opI op_fdivN fun d e S => by
  unfold oDiv; split
  · split
    · rename_i h
      exact .inl ⟨_, _, rfl, rfl, h, _, rfl, fun _ => rfl⟩
    · exact .inr rfl
  · exact .inr rfl
theorem jo_mod : OpR X (binaryOp .Mod) (opOf X.g oMod) := opI op_modN fun d e S => by
  unfold oMod; split
  · split
    · rename_i h
      exact .inl ⟨_, _, rfl, rfl, h, _, rfl, fun _ => rfl⟩
    · exact .inr rfl
  · exact .inr rfl
theorem jo_pow : OpR X (binaryOp .Pow) (opOf X.g oPow) := opI op_pow fun d e S => by
  unfold oPow; split
  · split
    · rename_i h
      exact .inl ⟨_, _, rfl, rfl, h, _, rfl, fun _ => rfl⟩
    · exact .inr rfl
  · exact .inr rfl
theorem jo_lt : OpR X (compareOp .Lt) (opOf X.g oLt) := opI0 op_lt fun d e S => by
  unfold oLt; split
  · exact .inl ⟨_, _, rfl, rfl, _, rfl, fun _ => rfl⟩
  · exact .inr rfl
theorem jo_le : OpR X (compareOp .LtE) (opOf X.g oLe) := opI0 op_le fun d e S => by
  unfold oLe; split
  · exact .inl ⟨_, _, rfl, rfl, _, rfl, fun _ => rfl⟩
  · exact .inr rfl
theorem jo_gt : OpR X (compareOp .Gt) (opOf X.g oGt) := opI0 op_gt fun d e S => by
  unfold oGt; split
  · exact .inl ⟨_, _, rfl, rfl, _, rfl, fun _ => rfl⟩
  · exact .inr rfl
theorem jo_ge : OpR X (compareOp .GtE) (opOf X.g oGe) := opI0 op_ge fun d e S => by
  unfold oGe; split
  · exact .inl ⟨_, _, rfl, rfl, _, rfl, fun _ => rfl⟩
  · exact .inr rfl
theorem jo_add : OpR X (binaryOp .Add) (opOf X.g oAdd) := by
  intro pins s σ H x y v u Q I rx ry ⟨Wx, σ', w, S, d, e, hH, G, rs, r1, r2, p⟩
  subst hH
  unfold oAdd at p
  split at p
  · cases r1
    cases r2
    exact op_add pins s σ _ _ _ v u Q I rx ry ⟨_, _, rfl, rfl, putSame p G rs rfl⟩
  · split at p
    · rename_i xs ys hl
      obtain ⟨a, vs, rfl, ta, ra⟩ := id r1
      obtain ⟨b, us, rfl, tb, rb⟩ := id r2
      refine op_catA pins s σ _ _ _ v u Q I rx ry ⟨a, b, vs, us, rfl, rfl, ta.sq, tb.sq, by rw [ra.length, rb.length, ← sl_eq]; exact hl, fun z => ?_, fun _ z => ?_, fun _ _ => new_tup p G rs (ra.append rb)⟩
      · have l := ra.length
        rw [z] at l
        have z2 : xs = [] := List.eq_nil_of_length_eq_zero l.symm
        subst z2
        exact putSame p G rs r2
      · have l := rb.length
        rw [z] at l
        have z2 : ys = [] := List.eq_nil_of_length_eq_zero l.symm
        subst z2
        rw [List.append_nil] at p
        exact putSame p G rs r1
    · exact p.elim
  · split at p
    · rename_i xs ys e1 e2
      split at p
      · rename_i hl
        obtain ⟨a, vs, rfl, ta, ra⟩ := r1.lstAt rs e1
        obtain ⟨b, us, rfl, tb, rb⟩ := r2.lstAt rs e2
        exact op_cat pins s σ _ _ _ v u Q I rx ry ⟨a, b, vs, us, rfl, rfl, ta, tb, by rw [ra.length, rb.length, ← sl_eq]; exact hl, new_lst p G rs (ra.append rb)⟩
      · exact p.elim
    · exact p.elim
theorem smallI_iff {i : Int} : smallI i = true ↔ -(2 ^ 64) < i ∧ i < 2 ^ 64 := by
  unfold smallI
  rw [Bool.and_eq_true, decide_eq_true_eq, decide_eq_true_eq]
  exact Iff.rfl
theorem tuple_mulW1 (l : Addr) (items : Array Value) (n : Nat) (dd : Option Addr) (sl : Array (Option Value)) (u : Tok) :
    Meets (Builtin.«tuple.__mul__» ⟨[.ref l, .int 1 u], []⟩) (fun _ R s => s.heap.get? l = some { cls := .type "tuple", dict := dd, data := .seq items n, slots := sl } ∧ R (.ok (.ret (Value.ref l))) s) :=
  .of_wp fun prog w A R s h => by
    obtain ⟨hp, g, d, tk, os⟩ := s
    obtain ⟨hl, h⟩ := h
    have f1 := AutoSeq1.idx_int
    have c0 : (decide ((1 : Int) < -(2 ^ 63)) || decide ((1 : Int) ≥ 2 ^ 63)) = false := by decide
    have c1 : (items.isEmpty || (1 : Int) == 1) = true := by simp
    wp_walk using wpAny_loadPart' hl
    repeat (first
      | (refine wpAny_ite_false (decide_eq_false (by rw [c0]; exact Bool.false_ne_true)) ?_; wp_walk using wpAny_loadPart' hl)
      | (refine wpAny_ite_true (decide_eq_true (by rw [c1])) ?_; wp_walk using wpAny_loadPart' hl))
    exact ⟨_, rfl, h⟩
theorem op_repT1 {X : Cx} : OpR X (binaryOp .Mult) (fun x y H Q => ∃ l xs, x = .ref l ∧ y = .int 1 ∧ SqT X.K H l xs ∧ Q (.ref l) H) := by
  intro pins s σ H x y v u Q I rx ry h
  obtain ⟨l, xs, rfl, rfl, hT, q⟩ := h
  cases rx
  obtain ⟨t, rfl⟩ := ry
  obtain ⟨its, r, ⟨⟨cls, dd, data, sl⟩, ho, hc, n, hd⟩, hs⟩ := I.tuple hT
  simp only at hc hd
  subst hc hd
  refine wpAny_binaryOp_repeat_ref (T := "tuple") (U := "int") (by decide) ⟨_, ho, rfl⟩ (fun s' => typeIs_int s' 1 t) noFill_tuple_mul F.fills_int_mul F.slot_int_rmul repeat_tuple F.slot_int_index.lookup
    (call_meets F.slot_int_rmul (typeIs_int s 1 t) F.entry_int_rmul (F.args_int_rmul_2 _ _) (int_rmul_tuple 1 t l its.toArray n dd sl)
      ⟨ho, rfl, ⟨_, ho, rfl⟩, call_meets F.slot_tuple_mul ⟨_, ho, rfl⟩ F.entry_tuple_mul (F.args_tuple_mul_2 _ _) (tuple_mulW1 l its.toArray n dd sl t) ⟨ho, ?_⟩⟩)
  exact ⟨.ref l, H, I, rfl, q⟩
theorem jo_mul : OpR X (binaryOp .Mult) (opOf X.g oMul) := by
  intro pins s σ H x y v u Q I rx ry ⟨Wx, σ', w, S, d, e, hH, G, rs, r1, r2, p⟩
  subst hH
  unfold oMul at p
  split at p
  · split at p
    · rename_i h
      cases r1
      cases r2
      exact op_mul pins s σ _ _ _ v u Q I rx ry ⟨_, _, rfl, rfl, h.imp smallI_iff.mp smallI_iff.mp, putSame p G rs rfl⟩
    · exact p.elim
  · split at p
    · rename_i xs k h
      obtain ⟨h1, h2, h3, h4⟩ := h
      cases r2
      obtain ⟨a, vs, rfl, ta, ra⟩ := id r1
      by_cases hk : k = 1
      · subst hk
        refine op_repT1 pins s σ _ _ _ v u Q I rx ry ⟨a, vs, rfl, rfl, ta.sq, putSame p G rs ?_⟩
        have e1 : (List.replicate (Int.toNat 1) xs).flatten = xs := by simp [List.replicate]
        rw [e1]
        exact r1
      · refine op_repT pins s σ _ _ _ v u Q I rx ry ⟨a, _, vs, rfl, rfl, ta.sq, ?_, by omega, h3, by rw [ra.length]; exact h4, new_tup p G rs (ra.rep _)⟩
        intro z
        apply h1
        have := ra.length
        rw [z] at this
        exact List.eq_nil_of_length_eq_zero this.symm
    · exact p.elim
  · split at p
    · rename_i xs e1
      split at p
      · rename_i h
        cases r2
        obtain ⟨a, vs, rfl, ta, ra⟩ := r1.lstAt rs e1
        exact op_rep pins s σ _ _ _ v u Q I rx ry ⟨a, _, vs, rfl, rfl, ta, h.1, h.2.1, by rw [ra.length, ← sl_eq]; exact h.2.2, new_lst p G rs (ra.rep _)⟩
      · exact p.elim
    · exact p.elim
  · exact p.elim
/-! == : a value as data -/
mutual
def D.py : D → PyData
  | .non => .none
  | .bl b => .bool b
  | .int i => .int i
  | .str x => .str x
  | .tup ds => .tuple (D.pys ds)
  | .lst ds => .list (D.pys ds)
  | .rdl ds => .list (D.pys ds)
  | _ => .none
def D.pys : List D → List PyData
  | [] => []
  | d :: ds => d.py :: D.pys ds
end
mutual
theorem py_lay : ∀ d : D, d.cmpb = true → d.py.canLay0 = true
  | .non, _ => rfl
  | .bl _, _ => rfl
  | .int _, _ => rfl
  | .str x, h => h
  | .tup ds, h => pys_lay ds h
  | .lst ds, h => pys_lay ds h
  | .rdl ds, h => pys_lay ds h
theorem pys_lay : ∀ ds : List D, D.cmpbs ds = true → PyData.canLayAll0 (D.pys ds) = true
  | [], _ => rfl
  | d :: ds, h => by
    simp only [D.cmpbs, Bool.and_eq_true] at h
    simp only [D.pys, PyData.canLayAll0, Bool.and_eq_true]
    exact ⟨py_lay d h.1, pys_lay ds h.2⟩
end
mutual
theorem py_depth : ∀ d : D, d.cmpb = true → d.py.depth = d.depth
  | .non, _ => rfl
  | .bl _, _ => rfl
  | .int _, _ => rfl
  | .str x, h => rfl
  | .tup ds, h => by show PyData.depthAll _ + 1 = D.depths _ + 1; rw [pys_depth ds h]
  | .lst ds, h => by show PyData.depthAll _ + 1 = D.depths _ + 1; rw [pys_depth ds h]
  | .rdl ds, h => by show PyData.depthAll _ + 1 = D.depths _ + 1; rw [pys_depth ds h]
theorem pys_depth : ∀ ds : List D, D.cmpbs ds = true → PyData.depthAll (D.pys ds) = D.depths ds
  | [], _ => rfl
  | d :: ds, h => by
    simp only [D.cmpbs, Bool.and_eq_true] at h
    show max _ _ = max _ _
    rw [py_depth d h.1, pys_depth ds h.2]
end
theorem py_shaped {d : D} (h : cmpOk d = true) : SeqAt.shaped d.py = true := by
  unfold cmpOk at h
  simp only [Bool.and_eq_true, decide_eq_true_eq] at h
  unfold SeqAt.shaped
  simp only [Bool.and_eq_true, decide_eq_true_eq]
  exact ⟨py_lay d h.1, by rw [py_depth d h.1]; exact h.2⟩
mutual
theorem py_eqv : ∀ d e : D, d.cmpb = true → e.cmpb = true → PyData.eqv d.py e.py = d.eqB e
  | .non, e, _, h => by cases e <;> first | rfl | exact absurd h (by simp [D.cmpb])
  | .bl _, e, _, h => by cases e <;> first | rfl | exact absurd h (by simp [D.cmpb])
  | .int _, e, _, h => by cases e <;> first | rfl | exact absurd h (by simp [D.cmpb])
  | .str _, e, _, h => by cases e <;> first | rfl | exact absurd h (by simp [D.cmpb])
  | .tup xs, e, h1, h => by cases e <;> first | rfl | exact pys_eqv xs _ h1 h | exact absurd h (by simp [D.cmpb])
  | .lst xs, e, h1, h => by cases e <;> first | rfl | exact pys_eqv xs _ h1 h | exact absurd h (by simp [D.cmpb])
  | .rdl xs, e, h1, h => by cases e <;> first | rfl | exact pys_eqv xs _ h1 h | exact absurd h (by simp [D.cmpb])
theorem pys_eqv : ∀ ds es : List D, D.cmpbs ds = true → D.cmpbs es = true → PyData.eqvAll (D.pys ds) (D.pys es) = D.eqBs ds es
  | [], [], _, _ => rfl
  | [], _ :: _, _, _ => rfl
  | _ :: _, [], _, _ => rfl
  | d :: ds, e :: es, h, k => by
    simp only [D.cmpbs, Bool.and_eq_true] at h k
    show (PyData.eqv _ _ && PyData.eqvAll _ _) = (_ && _)
    rw [py_eqv d e h.1 k.1, pys_eqv ds es h.2 k.2]
end
mutual
theorem py_dp {g : G} {w : W} : ∀ (d : D) (v : V), d.cmpb = true → RD g w d v → Dp g.K w.H v d.py
  | .non, _, _, r => by cases r; exact .non
  | .bl _, _, _, r => by cases r; exact .bl _
  | .int _, _, _, r => by cases r; exact .int _
  | .str _, _, _, r => by cases r; exact .str _
  | .tup ds, _, h, r => by
    obtain ⟨a, vs, rfl, t, r⟩ := r
    exact .tup t.sq (pys_dp ds vs h r)
  | .lst ds, _, h, r => by
    obtain ⟨a, vs, rfl, t, _, r⟩ := r
    exact .lst (SqL.of t) (pys_dp ds vs h r)
  | .rdl ds, _, h, r => by
    obtain ⟨a, vs, rfl, t, r⟩ := r
    exact .lst t.sq (pys_dp ds vs h r)
theorem pys_dp {g : G} {w : W} : ∀ (ds : List D) (vs : List V), D.cmpbs ds = true → RDs g w ds vs → DpAll g.K w.H vs (D.pys ds)
  | [], _, _, r => by cases r; exact .nil
  | d :: ds, _, h, r => by
    obtain ⟨v, vs, rfl, r1, r2⟩ := r
    simp only [D.cmpbs, Bool.and_eq_true] at h
    exact .cons (py_dp d v h.1 r1) (pys_dp ds vs h.2 r2)
end
theorem cmpOk_b {d : D} (h : cmpOk d = true) : d.cmpb = true := by
  unfold cmpOk at h
  exact (Bool.and_eq_true_iff.mp h).1
theorem seen_dp {g : G} {w : W} {S : List D} {d : D} {v : V} (rs : RS g w S) (r : RD g w d v) (h : cmpOk (seen S d) = true) : Dp g.K w.H v (seen S d).py := by
  have hc : (seen S d).cmpb = true := cmpOk_b h
  cases d with
  | loc n =>
    cases e : S[n]? with
    | none =>
      simp only [seen, e] at hc
      exact absurd hc (by simp [D.cmpb])
    | some o =>
      cases o with
      | lst ds =>
        simp only [seen, e] at hc ⊢
        obtain ⟨p, rfl, hp⟩ := r
        obtain ⟨vs, h1, h2⟩ := rs.obj hp e
        exact .lst (SqL.of h1) (pys_dp ds vs hc h2)
      | _ =>
        simp only [seen, e] at hc
        exact absurd hc (by simp [D.cmpb])
  | _ => exact py_dp _ _ hc r
theorem jo_eq (hu : X.A.units + 64 < cLine) : OpR X (compareOp .Eq) (opOf X.g oEq) := by
  intro pins s σ H x y v u Q I rx ry ⟨Wx, σ', w, S, d, e, hH, G, rs, r1, r2, p⟩
  subst hH
  unfold oEq at p
  split at p
  · rename_i h
    refine op_eqD hu pins s σ _ _ _ v u Q I rx ry ⟨_, _, seen_dp rs r1 h.1, seen_dp rs r2 h.2, py_shaped h.1, py_shaped h.2, ?_⟩
    rw [py_eqv _ _ (cmpOk_b h.1) (cmpOk_b h.2)]
    exact putSame p G rs rfl
  · exact p.elim
theorem jo_ne (hu : X.A.units + 64 < cLine) : OpR X (compareOp .NotEq) (opOf X.g oNe) := by
  intro pins s σ H x y v u Q I rx ry ⟨Wx, σ', w, S, d, e, hH, G, rs, r1, r2, p⟩
  subst hH
  unfold oNe at p
  split at p
  · rename_i h
    refine op_neD hu pins s σ _ _ _ v u Q I rx ry ⟨_, _, seen_dp rs r1 h.1, seen_dp rs r2 h.2, py_shaped h.1, py_shaped h.2, ?_⟩
    rw [py_eqv _ _ (cmpOk_b h.1) (cmpOk_b h.2)]
    exact putSame p G rs rfl
  · exact p.elim
/-! is None -/
end
end J
set_option Elab.async false
set_option linter.all false
set_option maxRecDepth 100000
set_option maxHeartbeats 1000000
namespace J
open PySem PySem.Spec PyProof.Rows L2
section
variable {X : Cx} {Wx : WX}
theorem ky_of {g : G} {w : W} {d : D} {v : V} {k : Ky} (r : RD g w d v) (h : keyOf d = some k) : v = kV k := by
  cases d <;> first
    | (simp only [keyOf, Option.some.injEq] at h; subst h; exact r)
    | exact absurd h (by simp [keyOf])
theorem kys_of {g : G} {w : W} : ∀ {ds : List D} {vs : List V} {ks : List Ky}, RDs g w ds vs → keysOf ds = some ks → vs = ks.map kV
  | [], _, _, r, h => by cases h; exact r
  | d :: ds, _, _, r, h => by
    obtain ⟨v, vs, rfl, r1, r2⟩ := r
    unfold keysOf at h
    split at h
    · rename_i k ks h1 h2
      cases h
      rw [List.map_cons, ky_of r1 h1, kys_of r2 h2]
    · cases h
theorem kyT_of {g : G} {w : W} {d : D} {v : V} {ks : List Ky} (r : RD g w d v) (h : keyT d = some ks) : ∃ b, v = .ref b ∧ w.H b = some (.tup (ks.map kV)) ∧ ¬ w.thA b := by
  cases d with
  | tup ds =>
    obtain ⟨b, vs, rfl, t, r⟩ := r
    have := kys_of r h
    subst this
    exact ⟨b, rfl, t.1, t.2⟩
  | _ => simp [keyT] at h
/-! dicts by zip -/
theorem valV_zip {g : G} {w : W} : ∀ {ks : List Ky} {ds : List D} {vs : List V} (k : Ky), ks.length = vs.length → RDs g w ds vs → (∀ d, getK ks ds k = some d → ∃ v, valV (ks.zip vs) k = some v ∧ RD g w d v)
  | [], _, _, k, _, _, d, h => by simp [getK] at h
  | q :: ks, [], _, k, _, r, d, h => by simp [getK] at h
  | q :: ks, e :: ds, _, k, l, r, d, h => by
    obtain ⟨v, vs, rfl, r1, r2⟩ := r
    simp only [getK] at h
    rw [List.zip_cons_cons]
    split at h
    · rename_i hq
      cases h
      exact ⟨v, valV_pos hq, r1⟩
    · rename_i hq
      rw [valV_neg hq]
      exact valV_zip k (by simpa using l) r2 d h
theorem valV_some : ∀ {ks : List Ky} {vs : List V} (k : Ky), ks.length = vs.length → (valV (ks.zip vs) k).isSome = keyIn ks k
  | [], _, k, _ => by simp [keyIn, valV]
  | q :: ks, [], k, l => by simp at l
  | q :: ks, v :: vs, k, l => by
    rw [List.zip_cons_cons]
    show _ = (decide (q = k) || keyIn ks k)
    by_cases h : q = k
    · rw [valV_pos h, decide_eq_true h]; rfl
    · rw [valV_neg h, decide_eq_false h, Bool.false_or]
      exact valV_some k (by simpa using l)
theorem valV_someG {κ : Type} [DecidableEq κ] : ∀ {ks : List κ} {vs : List V} (k : κ), ks.length = vs.length → (valV (ks.zip vs) k).isSome = ks.any fun q => decide (q = k)
  | [], _, k, _ => by simp [valV]
  | q :: ks, [], k, l => by simp at l
  | q :: ks, v :: vs, k, l => by
    rw [List.zip_cons_cons]
    show _ = (decide (q = k) || ks.any fun q => decide (q = k))
    by_cases h : q = k
    · rw [valV_pos h, decide_eq_true h]; rfl
    · rw [valV_neg h, decide_eq_false h, Bool.false_or]
      exact valV_someG k (by simpa using l)
/-! x in xs -/
/-! x[i] -/
theorem ixOf_eq (n : Nat) (i : Int) : ixOf n i = ixN n i := rfl
theorem atOf_of {g : G} {w : W} {ds : List D} {vs : List V} {i : Int} {d : D} (r : RDs g w ds vs) (h : atOf ds i = some d) : ∃ v, atI vs i = some v ∧ RD g w d v := by
  unfold atOf at h
  unfold atI
  rw [r.length, ← ixOf_eq]
  cases e : ixOf ds.length i with
  | none => rw [e] at h; cases h
  | some j =>
    rw [e] at h
    exact r.get h
theorem ixUse {w : W} {S : List D} {d e : D} {x y : V} {Q : VK} {Wx : WX} {σ : L2.St} (G : Good w) (rs : RS X.g w S) (r1 : RD X.g w d x) (r2 : RD X.g w e y) (p : PR X.g Wx σ w (RD X.g) Q (oIx d e S)) :
    (rIxL X.K x y w.H Q ∨ rIxT X.K x y w.H Q) ∨ ∃ a v, x = .ref a ∧ DGet w.H a y (some v) ∧ Q v w.H := by
  unfold oIx at p
  split at p
  · rename_i xs k e1
    split at p
    · rename_i z e2
      cases r2
      obtain ⟨a, vs, rfl, t, r3⟩ := r1.seq rs e1
      obtain ⟨v, e3, r4⟩ := atOf_of r3 e2
      have q := putSame p G rs r4
      rcases t with t | t
      · exact .inl (.inl ⟨a, vs, k, v, rfl, rfl, t, e3, q⟩)
      · exact .inl (.inr ⟨a, vs, k, v, rfl, rfl, t, e3, q⟩)
    · exact p.elim
  · split at p
    · rename_i ks ds k e1 e2
      split at p
      · rename_i z e3
        obtain ⟨a, us, rfl, t, l, r3⟩ := r1.dctAt rs e1
        have := ky_of r2 e2
        subst this
        obtain ⟨v, e4, r4⟩ := valV_zip k l r3 z e3
        exact .inr ⟨a, v, rfl, by rw [← e4]; exact .inl ⟨_, k, t, rfl, rfl⟩, putSame p G rs r4⟩
      · exact p.elim
    · exact p.elim
theorem jo_ix (hu : X.A.units + 1 < cLine) : IxR X (opOf X.g oIx) := by
  intro value slice pins s σ H x y v u Q I rx ry ⟨Wx, σ', w, S, d, e, hH, G, rs, r1, r2, p⟩ hs
  subst hH
  rcases ixUse G rs r1 r2 p with (h | h) | ⟨a, z, rfl, h, q⟩
  · exact ix_list value slice pins s σ _ x y v u Q I rx ry h hs
  · exact ix_tup value slice pins s σ _ x y v u Q I rx ry h hs
  · cases rx
    exact tail_any (dict_typeIs I h) PySem.F.slot_dict_getitem.lookup (d_getItem hu I h ry fun w' s' I' r' => ⟨z, _, I', r', q⟩) hs
end
end J
set_option Elab.async false
set_option linter.all false
set_option maxRecDepth 100000
set_option maxHeartbeats 1000000
namespace J
open PySem PySem.Spec PyProof.Rows L2
section
variable {X : Cx} {Wx : WX} {a : Expr} {ma : ME} {pos : Pos}
/-! slices -/
theorem cut_eq {g : G} {w : W} {ds : List D} {vs : List V} (r : RDs g w ds vs) (lo hi : Option Int) : RDs g w (cutOf ds lo hi) (cutV vs lo hi) := by
  unfold cutOf cutV
  rw [r.length]
  exact (r.drop _).take _
theorem cut_whole {ds : List D} {lo hi : Option Int} (h : sIxOf ds.length 0 lo = 0 ∧ sIxOf ds.length ds.length hi = ds.length) : cutOf ds lo hi = ds := by
  unfold cutOf
  rw [h.1, h.2]
  simp
def slOf (g : G) : V → Option Int → Option Int → Hp → VK → Prop := fun x lo hi H Q => ∃ Wx σ w S d, w.H = H ∧ Good w ∧ RS g w S ∧ RD g w d x ∧ PR g Wx σ w (RD g) Q (oSl d lo hi S)
theorem jo_sl : SlR X (slOf X.g) := by
  intro pins s σ H x v vl vu lo hi sl Q I rx hs pl pu ⟨Wx, σ', w, S, d, hH, G, rs, r1, p⟩
  subst hH
  unfold oSl at p
  split at p
  · rename_i xs
    obtain ⟨a, vs, rfl, t, r2⟩ := id r1
    have hl := r2.length
    refine sl_tupA pins s σ _ _ v vl vu lo hi sl Q I rx hs pl pu ⟨a, vs, rfl, t.sq, fun hw => ?_, fun _ => new_tup p G rs (cut_eq r2 lo hi)⟩
    rw [hl] at hw
    rw [cut_whole hw] at p
    exact putSame p G rs r1
  · split at p
    · rename_i xs e1
      obtain ⟨a, vs, rfl, t, r2⟩ := r1.seq rs e1
      rcases t with t | t
      · exact sl_list pins s σ _ _ v vl vu lo hi sl Q I rx hs pl pu ⟨a, vs, rfl, t, new_lst p G rs (cut_eq r2 lo hi)⟩
      · rcases seqOf_some e1 with rfl | rfl | rfl | ⟨n, rfl, e⟩
        · rename_i h; exact absurd rfl (h xs)
        · obtain ⟨b, us, z, t2, _, r3⟩ := r1
          cases z
          exact sl_list pins s σ _ _ v vl vu lo hi sl Q I rx hs pl pu ⟨a, us, rfl, SqL.of t2, new_lst p G rs (cut_eq r3 lo hi)⟩
        · obtain ⟨b, us, z, t2, r3⟩ := r1
          cases z
          exact sl_list pins s σ _ _ v vl vu lo hi sl Q I rx hs pl pu ⟨a, us, rfl, t2.sq, new_lst p G rs (cut_eq r3 lo hi)⟩
        · obtain ⟨b, z, hp⟩ := r1
          cases z
          obtain ⟨us, t2, r3⟩ := rs.obj hp e
          exact sl_list pins s σ _ _ v vl vu lo hi sl Q I rx hs pl pu ⟨a, us, rfl, SqL.of t2, new_lst p G rs (cut_eq r3 lo hi)⟩
    · exact p.elim
def TPof (g : G) (Wx : WX) (m : Env → List D → R (Option Int)) : TO := fun σ H Q => ∃ w E S, At g w E σ H S ∧ PR g Wx σ w relO Q (m E S)
theorem dp_none : PO X none (TPof X.g Wx (ePart none)) := ⟨fun pins s σ H Q I h => by
  obtain ⟨w, E, S, a, p⟩ := h
  have := p none w (Ext.refl w) a.good rfl a.sto
  rw [a.hp] at this
  exact po_none.run pins s σ H Q I this⟩
theorem dp_some (h : PE X a (TEof X.g Wx ma)) : PO X (some a) (TPof X.g Wx (ePart (some ma))) := ⟨fun pins s σ H Q I hh => by
  obtain ⟨w, E, S, a, p⟩ := hh
  refine (po_some h).run pins s σ H Q I ⟨w, E, S, a, PR.imp (PR.bind a.good a.env p) fun x H1 ⟨w1, d, S1, a1, x1, r1, p1⟩ => ?_⟩
  cases d <;> try exact p1.elim
  rename_i i
  cases r1
  have := p1 (some i) w1 (Ext.refl w1) a1.good rfl a1.sto
  rw [a1.hp] at this
  exact ⟨i, rfl, this⟩⟩
theorem de_slice {lo hi : Option Expr} {ml mh : Option ME} {p2 : Pos} (he : PE X a (TEof X.g Wx ma)) (hl : PO X lo (TPof X.g Wx (ePart ml))) (hu : PO X hi (TPof X.g Wx (ePart mh))) : PE X (.Subscript a (.Slice lo hi none p2) pos) (TEof X.g Wx (eSl ma ml mh)) := by
  refine peImp (pe_slice jo_sl he hl hu) fun σ H Q ⟨w, E, S, a, p⟩ => ?_
  refine ⟨w, E, S, a, PR.imp (PR.bind a.good a.env p) fun x H1 ⟨w1, d, S1, a1, x1, r1, p1⟩ => ?_⟩
  refine ⟨w1, E, S1, a1, PR.imp (PR.bind a1.good a1.env p1) fun l H2 ⟨w2, l', S2, a2, x2, r2, p2⟩ => ?_⟩
  obtain rfl : l' = l := r2
  refine ⟨w2, E, S2, a2, PR.imp (PR.bind a2.good a2.env p2) fun u H3 ⟨w3, u', S3, a3, x3, r3, p3⟩ => ?_⟩
  obtain rfl : u' = u := r3
  exact ⟨Wx, σ, w3, S3, d, a3.hp, a3.good, a3.sto, RD.mono a1.good (x2.trans x3) d x r1, p3⟩
/-! built-ins -/
theorem RDs.one' {g : G} {w : W} {d : D} {vs : List V} (h : RDs g w [d] vs) : ∃ v, vs = [v] ∧ RD g w d v := by
  obtain ⟨v, r, rfl, h1, h2⟩ := h
  cases h2
  exact ⟨v, rfl, h1⟩
theorem RDs.two' {g : G} {w : W} {d e : D} {vs : List V} (h : RDs g w [d, e] vs) : ∃ v u, vs = [v, u] ∧ RD g w d v ∧ RD g w e u := by
  obtain ⟨v, r, rfl, h1, h2⟩ := h
  obtain ⟨u, rfl, h3⟩ := h2.one'
  exact ⟨v, u, rfl, h1, h3⟩
theorem call_lenR : CallR X (.builtin "len") (fun xs H Q => ∃ a kvs, xs = [V.ref a] ∧ Rd H a (.dK kvs) ∧ Q (.int kvs.length) H) := by
  intro pins s σ H xs us Q I r h
  obtain ⟨a, kvs, rfl, ha, q⟩ := h
  obtain ⟨u, rfl, ru⟩ := vals1 r
  cases ru
  exact d_len I ha fun t s' I' => ⟨.int kvs.length, H, I', ⟨t, rfl⟩, q⟩
theorem jc_len : CallR X (.builtin "len") (argOf X.g bLen) := by
  intro pins s σ H xs us Q I r ⟨Wx, σ', w, S, ds, hH, G, rs, r1, p⟩
  subst hH
  unfold bLen at p
  split at p
  · obtain ⟨v, rfl, r2⟩ := r1.one'
    split at p
    · rename_i xs e
      obtain ⟨a, vs, rfl, t, r3⟩ := r2.seq rs e
      have q := putSame p G rs rfl
      rw [← r3.length] at q
      exact call_len_seq pins s σ _ _ us Q I r ⟨a, vs, rfl, t, q⟩
    · split at p
      · rename_i ks vs e
        obtain ⟨a, us', rfl, t, l, r3⟩ := r2.dctAt rs e
        have q := putSame p G rs rfl
        refine call_lenR pins s σ _ _ us Q I r ⟨a, _, rfl, t, ?_⟩
        rw [List.length_zip, ← l, Nat.min_self]
        exact q
      · exact p.elim
  · exact p.elim
theorem jc_int : CallR X (.type "int") (argOf X.g bInt) := by
  intro pins s σ H xs us Q I r ⟨Wx, σ', w, S, ds, hH, G, rs, r1, p⟩
  subst hH
  unfold bInt at p
  split at p
  · obtain ⟨v, rfl, r2⟩ := r1.one'
    cases r2
    exact call_int1 pins s σ _ _ us Q I r (.inl ⟨_, rfl, putSame p G rs rfl⟩)
  · obtain ⟨v, rfl, r2⟩ := r1.one'
    cases r2
    exact call_int1 pins s σ _ _ us Q I r (.inr ⟨_, rfl, putSame p G rs rfl⟩)
  · exact p.elim
theorem ints_vals {g : G} {w : W} : ∀ {ds : List D} {vs : List V} {ns : List Int}, RDs g w ds vs → intsOf ds = some ns → vs = ns.map V.int
  | [], _, ns, r, h => by
    cases r
    simp only [intsOf, Option.some.injEq] at h
    subst h
    rfl
  | d :: ds, _, ns, r, h => by
    obtain ⟨v, vs, rfl, r1, r2⟩ := r
    cases d <;> try (simp only [intsOf, reduceCtorEq] at h)
    rename_i i
    cases e : intsOf ds with
    | none => rw [e] at h; cases h
    | some ms =>
      rw [e] at h
      cases h
      cases r1
      rw [ints_vals r2 e]
      rfl
theorem jc_tuple : CallR X (.type "tuple") (argOf X.g bTuple) := by
  intro pins s σ H xs us Q I r ⟨Wx, σ', w, S, ds, hH, G, rs, r1, p⟩
  subst hH
  unfold bTuple at p
  split at p
  · obtain ⟨v, rfl, r2⟩ := r1.one'
    split at p
    · rename_i xs e
      have h := seqOf_some e
      rcases h with rfl | h
      · obtain ⟨a, vs, rfl, t, r3⟩ := id r2
        exact call_tuple_of pins s σ _ _ us Q I r ⟨a, vs, rfl, .inr ⟨t.sq, putSame p G rs r2⟩⟩
      · have tl : ∃ a vs, v = .ref a ∧ SqL X.K w.H a vs ∧ RDs X.g w xs vs := by
          rcases h with rfl | rfl | ⟨n, rfl, e2⟩
          · obtain ⟨a, vs, rfl, t, _, r3⟩ := r2
            exact ⟨a, vs, rfl, SqL.of t, r3⟩
          · obtain ⟨a, vs, rfl, t, r3⟩ := r2
            exact ⟨a, vs, rfl, t.sq, r3⟩
          · obtain ⟨a, rfl, hp⟩ := r2
            obtain ⟨vs, t, r3⟩ := rs.obj hp e2
            exact ⟨a, vs, rfl, SqL.of t, r3⟩
        obtain ⟨a, vs, rfl, t, r3⟩ := tl
        exact call_tuple_of pins s σ _ _ us Q I r ⟨a, vs, rfl, .inl ⟨t, new_tup p G rs r3⟩⟩
    · exact p.elim
  · exact p.elim
/-! methods -/
theorem mtUse {m : D → List D → List D → R D} {o : ME} {ma : MA} {r : V → List V → Hp → VK → Prop} (hr : ∀ x xs H Q, mtOf X.g m x xs H Q → r x xs H Q) : ∀ (σ : L2.St) H Q, TEof X.g Wx (eMeth m o ma) σ H Q → tBM X.K "list" r (TEof X.g Wx o) (TAof X.g Wx ma) σ H Q := fun σ H Q ⟨w, E, S, a, p⟩ => by
  refine ⟨w, E, S, a, PR.imp (PR.bind a.good a.env p) fun x H1 ⟨w1, d, S1, a1, x1, r1, p1⟩ => ?_⟩
  split at p1
  · rename_i h
    obtain ⟨xs, e⟩ := Option.isSome_iff_exists.mp h
    obtain ⟨b, vs, rfl, t, r3⟩ := r1.lstAt a1.sto e
    refine ⟨.inl ⟨rfl, _, SqL.of (by rw [← a1.hp]; exact t)⟩, w1, E, S1, a1, PR.imp (PR.bind a1.good a1.env p1) fun ys H2 ⟨w2, es, S2, a2, x2, r2, p2⟩ => ?_⟩
    exact hr _ ys H2 Q ⟨Wx, σ, w2, S2, d, es, a2.hp, a2.good, a2.sto, RD.mono a1.good x2 d _ r1, r2, p2⟩
  · exact p1.elim
theorem locUse {w : W} {S : List D} {n : Nat} {xs : List D} {v : V} (rs : RS X.g w S) (r : RD X.g w (.loc n) v) (e : S[n]? = some (.lst xs)) : ∃ a vs, v = .ref a ∧ w.rhA[n]? = some a ∧ w.H a = some (.lst vs) ∧ RDs X.g w xs vs := by
  obtain ⟨a, rfl, hp⟩ := r
  obtain ⟨vs, t, r3⟩ := rs.obj hp e
  exact ⟨a, vs, rfl, hp, t, r3⟩
theorem put_upd {w : W} {a : Addr} {o : HO} (G : Good w) (hno : ∀ xs, o ≠ .tup xs := by intro _ z; cases z) : Good { w with H := upd w.H a o } := ⟨G.nd, G.sub, fun b h => by
  show upd w.H a o b ≠ none
  by_cases e : b = a
  · rw [e, upd_same]; simp
  · rw [upd_ne e]; exact G.al b h, fun b h xs => by
  show upd w.H a o b ≠ some (.tup xs)
  by_cases e : b = a
  · rw [e, upd_same]
    intro z
    exact hno xs (Option.some.inj z)
  · rw [upd_ne e]; exact G.nt b h xs⟩
theorem putLst {w : W} {S : List D} {n : Nat} {a : Addr} {xs : List D} {vs : List V} {Q : VK} {d : D} {v : V} {σ : L2.St} (G : Good w) (rs : RS X.g w S) (hp : w.rhA[n]? = some a) (r : RDs X.g w xs vs) (rd : RD X.g w d v)
    (p : PR X.g Wx σ w (RD X.g) Q (.ok d (S.set n (.lst xs)))) : Q v (upd w.H a (.lst vs)) := by
  have mem := List.mem_of_getElem? hp
  have x := upd_ext (o := .lst vs) mem
  refine p v { w with H := upd w.H a (.lst vs) } x (put_upd G) (rd.mono G x) (upd_store G rs hp ⟨vs, upd_same, r.mono G x⟩)
theorem jm_append : MtR X "list.append" (mtOf X.g mAppend) := by
  intro pins s σ H x xs v us Q I rx rs' ⟨Wx, σ', w, S, d, ds, hH, G, rs, r1, r2, p⟩
  subst hH
  unfold mAppend at p
  split at p
  · rename_i n y
    obtain ⟨z, rfl, r3⟩ := r2.one'
    split at p
    · rename_i ys e
      split at p
      · rename_i hl
        obtain ⟨a, vs, rfl, hp, t, r4⟩ := locUse rs r1 e
        exact mt_append pins s σ _ _ _ v us Q I rx rs' ⟨a, vs, z, rfl, rfl, t, by rw [r4.length, ← sl_eq]; exact hl, putLst (d := .non) (v := .non) G rs hp (r4.append (RDs.one r3)) rfl p⟩
      · exact p.elim
    · exact p.elim
  · exact p.elim
theorem de_meth {o e : Expr} {es : List Expr} {mo : ME} {mr : MA} {name : Str} {apos cpos : Pos} {id : String} {m : D → List D → List D → R D} (slot : Slot "list" name id) (hty : typeOf (.builtin id) = pure (.type "method_descriptor")) (hm : MtR X id (mtOf X.g m)) (ho : PE X o (TEof X.g Wx mo)) (ha : PA X (e :: es) (TAof X.g Wx mr))
    (hbase : attributeBase o name X.env (eval o X.env) = eval o X.env := by rfl)
    (hfew : ((backTo cpos (starEach (e :: es) X.env)).all (fun x => !x.1) && (backToKw cpos (keywordEach [] X.env)).all (fun x => x.1.isSome)
      && decide ((e :: es).length + ([] : List Keyword).length + (if ([] : List Keyword).isEmpty then 0 else 1) < 30)) = true := by rfl)
    (hline : (apos.endLine == cpos.line) = true := by rfl) (hs : starEach (e :: es) X.env = (false, eval e X.env) :: starEach es X.env := by rfl) (hplain : (backTo cpos (starEach es X.env)).any (·.1) = false := by rfl) :
    PE X (.Call (.Attribute o name apos) (e :: es) [] cpos) (TEof X.g Wx (eMeth m mo mr)) :=
  peImp (pe_bm PySem.F.plainAttrs_list slot hty hm ho ha hbase hfew hline hs hplain) (mtUse fun _ _ _ _ h => h)
/-! o[i] = v -/
theorem zip_map {κ : Type} [DecidableEq κ] {ks : List κ} (k : κ) (v : V) : ∀ {ks : List κ} {vs : List V}, ks.length = vs.length → (ks.zip vs).map (fun kv => if kv.1 = k then (kv.1, v) else kv) = ks.zip (ks.zipWith (fun q u => if q = k then v else u) vs)
  | [], [], _ => rfl
  | q :: ks, [], l => by simp at l
  | [], _ :: _, l => by simp at l
  | q :: ks, u :: vs, l => by
    rw [List.zip_cons_cons, List.map_cons, List.zipWith_cons_cons, List.zip_cons_cons, zip_map (ks := ks) k v (by simpa using l)]
    by_cases h : q = k
    · simp [h]
    · simp [h]
theorem RDs.zipSet {κ : Type} [DecidableEq κ] {g : G} {w : W} {d : D} {v : V} (k : κ) (rd : RD g w d v) : ∀ {ks : List κ} {ds : List D} {vs : List V}, RDs g w ds vs → RDs g w (ks.zipWith (fun q e => if q = k then d else e) ds) (ks.zipWith (fun q u => if q = k then v else u) vs)
  | [], _, _, r => by simp [RDs]
  | q :: ks, [], _, r => by cases r; simp [RDs]
  | q :: ks, e :: ds, _, r => by
    obtain ⟨u, vs, rfl, r1, r2⟩ := r
    rw [List.zipWith_cons_cons, List.zipWith_cons_cons]
    refine ⟨_, _, rfl, ?_, RDs.zipSet k rd r2⟩
    by_cases h : q = k
    · rw [if_pos h, if_pos h]; exact rd
    · rw [if_neg h, if_neg h]; exact r1
def setOf (g : G) : V → V → V → Hp → (Hp → Prop) → Prop := fun o i v H Q => ∃ w S x k d S', w.H = H ∧ Good w ∧ RS g w S ∧ RD g w x o ∧ RD g w k i ∧ RD g w d v ∧ putAt x k d S = some S' ∧ ∀ w', Ext w w' → Good w' → RS g w' S' → Q w'.H
theorem jp_put (hu : X.A.units + 1 < cLine) : PSet X (setOf X.g) := by
  intro pins s σ H o i v ov iv u Q I ro ri rv ⟨w, S, x, k, d, S', hH, G, rs, r1, r2, r3, hp, q⟩
  subst hH
  unfold putAt at hp
  split at hp
  · rename_i n
    split at hp
    · rename_i xs e
      split at hp
      · rename_i k'
        split at hp
        · rename_i j hj
          cases hp
          cases r2
          obtain ⟨a, vs, rfl, h1, t, r4⟩ := locUse rs r1 e
          have x := upd_ext (o := .lst (vs.set j v)) (List.mem_of_getElem? h1)
          exact set_list pins s σ _ _ _ v ov iv u Q I ro ri rv ⟨a, vs, k', j, rfl, rfl, t, by rw [r4.length]; exact hj, q _ x (put_upd G) (upd_store G rs h1 ⟨_, upd_same, (r4.set j r3).mono G x⟩)⟩
        · cases hp
      · cases hp
    · rename_i ks ds e
      split at hp
      · rename_i k' ek
        split at hp
        · rename_i hl
          cases hp
          obtain ⟨a, rfl, h1⟩ := r1
          obtain ⟨vs, t, l, r4⟩ := rs.obj h1 e
          have := ky_of r2 ek
          subst this
          cases ro
          have hz : (ks.zip vs).length < sizeLine := by rw [List.length_zip, ← l, Nat.min_self, ← sl_eq]; exact hl
          refine d_setItem hu I (DPut.k (k := k') t hz) ri rv fun s4 I4 => ⟨_, I4, ?_⟩
          have mem := List.mem_of_getElem? h1
          have ea : ((ks.zip vs).any fun kv => decide (kv.1 = k')) = keyIn ks k' := by rw [valV_any, valV_some k' l]
          unfold L2.putK
          rw [ea]
          unfold putAt.putK at q
          cases hk : keyIn ks k' with
          | true =>
            rw [if_pos rfl, zip_map (ks := ks) k' v l]
            rw [hk, if_pos rfl] at q
            have x := upd_ext (w := w) (o := .dK (ks.zip (ks.zipWith (fun q u => if q = k' then v else u) vs))) mem
            refine q _ x (put_upd G) (upd_store G rs h1 ⟨_, upd_same, ?_, (RDs.zipSet k' r3 r4).mono G x⟩)
            simp [l]
          | false =>
            rw [if_neg Bool.false_ne_true]
            rw [hk, if_neg Bool.false_ne_true] at q
            have ez : ks.zip vs ++ [(k', v)] = (ks ++ [k']).zip (vs ++ [v]) := by rw [List.zip_append l]; rfl
            rw [ez]
            have x := upd_ext (w := w) (o := .dK ((ks ++ [k']).zip (vs ++ [v]))) mem
            refine q _ x (put_upd G) (upd_store G rs h1 ⟨_, upd_same, ?_, (r4.append (RDs.one r3)).mono G x⟩)
            simp [l]
        · cases hp
      · cases hp
    · rename_i ks ds e
      split at hp
      · rename_i k' ek
        split at hp
        · rename_i hl
          cases hp
          obtain ⟨a, rfl, h1⟩ := r1
          obtain ⟨vs, t, l, r4⟩ := rs.obj h1 e
          obtain ⟨kb, rfl, tb, _⟩ := kyT_of r2 ek
          cases ro
          have hz : (ks.zip vs).length < sizeLine := by rw [List.length_zip, ← l, Nat.min_self, ← sl_eq]; exact hl
          refine d_setItem hu I (DPut.t (k := k') t tb hz) ri rv fun s4 I4 => ⟨_, I4, ?_⟩
          have mem := List.mem_of_getElem? h1
          have ea : ((ks.zip vs).any fun kv => decide (kv.1 = k')) = (ks.any fun q => decide (q = k')) := by rw [valV_any, valV_someG k' l]
          unfold L2.putK
          rw [ea]
          unfold putAt.putT at q
          cases hk : (ks.any fun q => decide (q = k')) with
          | true =>
            rw [if_pos rfl, zip_map (ks := ks) k' v l]
            rw [hk, if_pos rfl] at q
            have x := upd_ext (w := w) (o := .dT (ks.zip (ks.zipWith (fun q u => if q = k' then v else u) vs))) mem
            refine q _ x (put_upd G) (upd_store G rs h1 ⟨_, upd_same, ?_, (RDs.zipSet k' r3 r4).mono G x⟩)
            simp [l]
          | false =>
            rw [if_neg Bool.false_ne_true]
            rw [hk, if_neg Bool.false_ne_true] at q
            have ez : ks.zip vs ++ [(k', v)] = (ks ++ [k']).zip (vs ++ [v]) := by rw [List.zip_append l]; rfl
            rw [ez]
            have x := upd_ext (w := w) (o := .dT ((ks ++ [k']).zip (vs ++ [v]))) mem
            refine q _ x (put_upd G) (upd_store G rs h1 ⟨_, upd_same, ?_, (r4.append (RDs.one r3)).mono G x⟩)
            simp [l]
        · cases hp
      · cases hp
    · cases hp
  · cases hp
end
end J
set_option Elab.async false
set_option linter.all false
set_option maxRecDepth 100000
set_option maxHeartbeats 1000000
namespace J
open PySem PySem.Spec PyProof.Rows L2
/-! ### statements -/
def PO_ (g : G) (Wx : WX) (D : Ends) (w : W) : O → Prop
  | .nx E S => ∀ σ' w', Ext w w' → Good w' → RE g w' E σ' → RS g w' S → D.nx σ' w'.H
  | .rt d S => ∀ v w', Ext w w' → Good w' → RD g w' d v → RS g w' S → D.rt v w'.H
  | .bk E S => ∀ σ' w', Ext w w' → Good w' → RE g w' E σ' → RS g w' S → D.bk σ' w'.H
  | .ct E S => ∀ σ' w', Ext w w' → Good w' → RE g w' E σ' → RS g w' S → D.ct σ' w'.H
  | .exc c fs E S => ∀ cls dx σ' w', Ext w w' → Good w' → RX g w' c fs cls dx → RE g w' E σ' → RS g w' S → Wx cls dx σ' w'.H
  | .bad => False
def TSof (g : G) (Wx : WX) (m : MS) : TS := fun D σ H => ∃ w E S, At g w E σ H S ∧ PO_ g Wx D w (m E S)
theorem PO_.at {g : G} {Wx : WX} {D : Ends} {w w1 : W} {o : O} (h : PO_ g Wx D w o) (x : Ext w w1) : PO_ g Wx D w1 o := by
  cases o with
  | nx E S => exact fun σ w' y => h σ w' (x.trans y)
  | rt d S => exact fun v w' y => h v w' (x.trans y)
  | bk E S => exact fun σ w' y => h σ w' (x.trans y)
  | ct E S => exact fun σ w' y => h σ w' (x.trans y)
  | exc c fs E S => exact fun cls dx σ w' y => h cls dx σ w' (x.trans y)
  | bad => exact h
theorem PO_.bind {g : G} {Wx : WX} {σ : L2.St} {w : W} {E : Env} {D : Ends} {r : R J.D} {k : J.D → List J.D → O} (G : Good w) (he : RE g w E σ)
    (h : PO_ g Wx D w (r.toO E k)) : PR g Wx σ w (RD g) (fun x H1 => ∃ w1 a S1, At g w1 E σ H1 S1 ∧ Ext w w1 ∧ RD g w1 a x ∧ PO_ g Wx D w1 (k a S1)) r := by
  cases r with
  | ok d S => exact fun v w' x G' rl rs => ⟨w', d, S, ⟨rfl, G', he.mono G x, rs⟩, x, rl, PO_.at h x⟩
  | exc c fs S => exact fun cls dx w' x G' rx rs => h cls dx σ w' x G' rx (he.mono G x) rs
  | bad => exact h
theorem PO_.tbind {g : G} {Wx : WX} {σ : L2.St} {w : W} {E : Env} {D : Ends} {r : R Bool} {k : Bool → List J.D → O} (G : Good w) (he : RE g w E σ)
    (h : PO_ g Wx D w (r.tO E k)) : PR g Wx σ w relB (fun x H1 => ∃ w1 S1, At g w1 E σ H1 S1 ∧ Ext w w1 ∧ PO_ g Wx D w1 (k x S1)) r := by
  cases r with
  | ok d S => exact fun v w' x G' rl rs => ⟨w', S, ⟨rfl, G', he.mono G x, rs⟩, x, by cases rl; exact PO_.at h x⟩
  | exc c fs S => exact fun cls dx w' x G' rx rs => h cls dx σ w' x G' rx (he.mono G x) rs
  | bad => exact h
section
variable {X : Cx} {Wx : WX} {e : Expr} {m m1 m2 : MS} {me : ME} {st : Stmt} {rest : List Stmt} {pos : Pos}
theorem ds_nil : PSs X [] (TSof X.g Wx sNext) := by
  refine pssImp pss_nil fun D σ H ⟨w, E, S, a, p⟩ => ?_
  have := p σ w (Ext.refl w) a.good a.env a.sto
  rw [a.hp] at this
  exact this
theorem ds_one (h : PS X st (TSof X.g Wx m)) : PSs X [st] (TSof X.g Wx m) := pss_one h
theorem ds_cons (h1 : PS X st (TSof X.g Wx m1)) (h2 : PSs X rest (TSof X.g Wx m2)) : PSs X (st :: rest) (TSof X.g Wx (sSeq m1 m2)) := by
  refine pssImp (pss_cons h1 h2) fun D σ H ⟨w, E, S, a, p⟩ => ⟨w, E, S, a, ?_⟩
  unfold sSeq at p
  split at p
  · rename_i E1 S1 e1
    rw [e1]
    exact fun σ' w' x G' re rs => ⟨w', E1, S1, ⟨rfl, G', re, rs⟩, p.at x⟩
  · rename_i h
    cases e1 : m1 E S with
    | nx E1 S1 => exact absurd e1 (h E1 S1)
    | rt d S => rw [e1] at p; exact p
    | bk E S => rw [e1] at p; exact p
    | ct E S => rw [e1] at p; exact p
    | exc c fs E S => rw [e1] at p; exact p
    | bad => rw [e1] at p; exact p
theorem ds_never : PS X st (TSof X.g Wx sNever) := psImp ps_never fun D σ H ⟨w, E, S, a, p⟩ => p
theorem ds_expr (he : PE X e (TEof X.g Wx me)) (hs : swapsWith e none pos.line X.env = pure false := by rfl) : PS X (.Expr e pos) (TSof X.g Wx (sExpr me)) := by
  refine psImp (ps_expr he hs) fun D σ H ⟨w, E, S, a, p⟩ => ⟨w, E, S, a, PR.imp (PO_.bind a.good a.env p) fun x H1 ⟨w1, d, S1, a1, x1, r1, p1⟩ => ?_⟩
  have := p1 σ w1 (Ext.refl w1) a1.good a1.env a1.sto
  rw [a1.hp] at this
  exact this
theorem ds_ret (he : PE X e (TEof X.g Wx me)) : PS X (.Return (some e) pos) (TSof X.g Wx (sRet me)) := by
  refine psImp (ps_ret he) fun D σ H ⟨w, E, S, a, p⟩ => ⟨w, E, S, a, PR.imp (PO_.bind a.good a.env p) fun x H1 ⟨w1, d, S1, a1, x1, r1, p1⟩ => ?_⟩
  have := p1 x w1 (Ext.refl w1) a1.good r1 a1.sto
  rw [a1.hp] at this
  exact this
theorem ds_if {c : Expr} {a b : List Stmt} {mt : MT} (hc : PT X c (TTof X.g Wx mt)) (ha : PSs X a (TSof X.g Wx m1)) (hb : PSs X b (TSof X.g Wx m2)) : PS X (.If c a b pos) (TSof X.g Wx (sIf mt m1 m2)) := by
  refine psImp (ps_if hc ha hb) fun D σ H ⟨w, E, S, a, p⟩ => ⟨w, E, S, a, PR.imp (PO_.tbind a.good a.env p) fun x H1 ⟨w1, S1, a1, x1, p1⟩ => ?_⟩
  cases x
  · rw [if_neg Bool.false_ne_true] at p1 ⊢
    exact ⟨w1, E, S1, a1, p1⟩
  · rw [if_pos rfl] at p1 ⊢
    exact ⟨w1, E, S1, a1, p1⟩
/-! targets -/
mutual
def Tg.slots : Tg → List Nat
  | .nm i => [i]
  | .tp ts => Tg.slotss ts
def Tg.slotss : List Tg → List Nat
  | [] => []
  | t :: ts => t.slots ++ Tg.slotss ts
end
theorem RE.set {g : G} {w : W} {E : Env} {σ : L2.St} {i : Nat} {d : D} {v : V} (h : RE g w E σ) (r : RD g w d v) : RE g w (E.set i (some d)) (σ.set i (some v)) := ⟨by simp [h.1], fun j d' e => by
  by_cases hj : j = i
  · subst hj
    by_cases hl : j < E.length
    · rw [List.getElem?_set_self hl] at e
      cases e
      exact ⟨v, List.getElem?_set_self (by rw [← h.1]; exact hl), r⟩
    · rw [List.getElem?_eq_none (by simpa using hl)] at e
      cases e
  · rw [List.getElem?_set_ne (Ne.symm hj)] at e ⊢
    exact h.2 j d' e⟩
def TGof (g : G) (t : Tg) : TG := fun v σ H Q => ∃ w E S d E', At g w E σ H S ∧ RD g w d v ∧ t.bind d E = some E' ∧ ∀ σ', RE g w E' σ' → (∀ i, i ∉ t.slots → σ'[i]? = σ[i]?) → σ'.length = σ.length → Q σ' H
def TGsof (g : G) (ts : List Tg) : TGs := fun vs σ H Q => ∃ w E S ds E', At g w E σ H S ∧ RDs g w ds vs ∧ Tg.binds ts ds E = some E' ∧ ∀ σ', RE g w E' σ' → (∀ i, i ∉ Tg.slotss ts → σ'[i]? = σ[i]?) → σ'.length = σ.length → Q σ' H
theorem pgImp {t t' : TG} (h : PG X e t) (f : ∀ v σ H Q, t' v σ H Q → t v σ H Q) : PG X e t' := ⟨fun pins s σ H v u Q I r hw => h.run pins s σ H v u Q I r (f _ _ _ _ hw)⟩
theorem pgsImp {es : List Expr} {t t' : TGs} (h : PGs X es t) (f : ∀ v σ H Q, t' v σ H Q → t v σ H Q) : PGs X es t' := ⟨fun pins s σ H v u Q I r hw => h.run pins s σ H v u Q I r (f _ _ _ _ hw)⟩
theorem dg_name {i : Nat} (h : PG X e (gName i)) : PG X e (TGof X.g (.nm i)) := pgImp h fun v σ H Q ⟨w, E, S, d, E', a, r, b, q⟩ => by
  cases b
  exact q _ (a.env.set r) (fun j hj => List.getElem?_set_ne fun z => hj (by subst z; exact List.mem_singleton.mpr rfl)) (by simp)
theorem dg_nil : PGs X [] (TGsof X.g []) := pgsImp pgs_nil fun vs σ H Q ⟨w, E, S, ds, E', a, r, b, q⟩ => by
  cases ds with
  | nil =>
    cases b
    cases r
    exact ⟨rfl, q σ a.env (fun _ _ => rfl) rfl⟩
  | cons d ds => cases b
theorem dg_cons {es : List Expr} {t : Tg} {ts : List Tg} (h1 : PG X e (TGof X.g t)) (h2 : PGs X es (TGsof X.g ts))
    (hs : (assignEach (e :: es) X.env).map (·.2) = assign e X.env :: (assignEach es X.env).map (·.2) := by rfl) : PGs X (e :: es) (TGsof X.g (t :: ts)) := pgsImp (pgs_cons h1 h2 hs) fun vs σ H Q ⟨w, E, S, ds, E', a, r, b, q⟩ => by
  cases ds with
  | nil => cases b
  | cons d ds =>
    obtain ⟨v, vr, rfl, r1, r2⟩ := r
    simp only [Tg.binds] at b
    split at b
    · rename_i E1 e1
      refine ⟨v, vr, rfl, w, E, S, d, E1, a, r1, e1, fun σ1 re1 k1 l1 => ?_⟩
      refine ⟨w, E1, S, ds, E', ⟨a.hp, a.good, re1, a.sto⟩, r2, b, fun σ2 re2 k2 l2 => q σ2 re2 (fun i hi => ?_) (l2.trans l1)⟩
      have hi' : i ∉ t.slots ++ Tg.slotss ts := hi
      rw [List.mem_append, not_or] at hi'
      exact (k2 i hi'.2).trans (k1 i hi'.1)
    · cases b
theorem binds_len : ∀ {ts : List Tg} {ds : List D} {E E' : Env}, Tg.binds ts ds E = some E' → ds.length = ts.length
  | [], [], _, _, _ => rfl
  | [], _ :: _, _, _, h => by cases h
  | _ :: _, [], _, _, h => by cases h
  | t :: ts, d :: ds, E, E', h => by
    simp only [Tg.binds] at h
    split at h
    · simp [binds_len h]
    · cases h
theorem tp_bind {ts : List Tg} {d : D} {E E' : Env} (h : (Tg.tp ts).bind d E = some E') : ∃ ds, d = .tup ds ∧ Tg.binds ts ds E = some E' := by
  cases d with
  | tup ds => exact ⟨ds, rfl, h⟩
  | _ => simp [Tg.bind] at h
theorem dg_tup {es : List Expr} {k : Nat} {ts : List Tg} (hc : X.calm = true) (h : PGs X es (TGsof X.g ts))
    (hn : (assignEach es X.env).length = ts.length := by rfl) (hst : (assignEach es X.env).findIdx? (·.1) = none := by rfl) : PG X (.Tuple es k pos) (TGof X.g (.tp ts)) := pgImp (pg_tup hc h hn hst) fun v σ H Q ⟨w, E, S, d, E', a, r, b, q⟩ => by
  obtain ⟨ds, rfl, b'⟩ := tp_bind b
  obtain ⟨p, vs, rfl, t, r2⟩ := r
  refine ⟨p, vs, rfl, ?_, by rw [r2.length, binds_len b'], w, E, S, ds, E', a, r2, b', q⟩
  rw [← a.hp]
  exact t.sq
/-! stores -/
theorem ds_set {i : Nat} {x : Str} {pos' : Pos} (h : ∀ te, PE X e te → PS X (.Assign [.Name x pos'] e pos) (tAsg te (gName i))) (he : PE X e (TEof X.g Wx me)) : PS X (.Assign [.Name x pos'] e pos) (TSof X.g Wx (sSet i me)) := by
  refine psImp (h _ he) fun D σ H ⟨w, E, S, a, p⟩ => ⟨w, E, S, a, PR.imp (PO_.bind a.good a.env p) fun x H1 ⟨w1, d, S1, a1, x1, r1, p1⟩ => ?_⟩
  have := p1 _ w1 (Ext.refl w1) a1.good (a1.env.set r1) a1.sto
  rw [a1.hp] at this
  exact this
theorem ds_asg {tg : Expr} {t : Tg} (he : PE X e (TEof X.g Wx me)) (hg : PG X tg (TGof X.g t)) (hs : swapsWithSole [tg] e pos.line X.env = pure false := by rfl) (hw : swappedStores [tg] e X.env = pure none := by rfl)
    (h1 : (assignEach [tg] X.env).map (·.2) = [assign tg X.env] := by rfl) : PS X (.Assign [tg] e pos) (TSof X.g Wx (sAsg t me)) := by
  refine psImp (ps_asg he hg hs hw h1) fun D σ H ⟨w, E, S, a, p⟩ => ⟨w, E, S, a, PR.imp (PO_.bind a.good a.env p) fun x H1 ⟨w1, d, S1, a1, x1, r1, p1⟩ => ?_⟩
  split at p1
  · rename_i E1 e1
    refine ⟨w1, E, S1, d, E1, a1, r1, e1, fun σ' re _ _ => ?_⟩
    have := p1 σ' w1 (Ext.refl w1) a1.good re a1.sto
    rw [a1.hp] at this
    exact this
  · exact p1.elim
theorem PO_.abind {g : G} {Wx : WX} {σ : L2.St} {w : W} {E : Env} {D : Ends} {r : R (List J.D)} {k : List J.D → List J.D → O} (G : Good w) (he : RE g w E σ)
    (h : PO_ g Wx D w (match r with | .ok ds S1 => k ds S1 | .exc c fs S1 => .exc c fs E S1 | .bad => .bad)) : PR g Wx σ w (RDs g) (fun x H1 => ∃ w1 a S1, At g w1 E σ H1 S1 ∧ Ext w w1 ∧ RDs g w1 a x ∧ PO_ g Wx D w1 (k a S1)) r := by
  cases r with
  | ok d S => exact fun v w' x G' rl rs => ⟨w', d, S, ⟨rfl, G', he.mono G x, rs⟩, x, rl, PO_.at h x⟩
  | exc c fs S => exact fun cls dx w' x G' rx rs => h cls dx σ w' x G' rx (he.mono G x) rs
  | bad => exact h
theorem ds_par {i j : Nat} {ma : MA} {rest' : List Expr} (hd : ∀ t, PA X rest' t → PS X st (tPar i j t)) (ha : PA X rest' (TAof X.g Wx ma)) : PS X st (TSof X.g Wx (sPar [i, j] ma)) := by
  refine psImp (hd _ ha) fun D σ H ⟨w, E, S, a, p⟩ => ⟨w, E, S, a, PR.imp (PO_.abind (k := fun ds S1 => match Tg.binds ([i, j].map .nm) ds E with | some E1 => .nx E1 S1 | none => .bad) a.good a.env p) fun x H1 ⟨w1, ds, S1, a1, x1, r1, p1⟩ => ?_⟩
  match ds, r1, p1 with
  | [d1, d2], r1, p1 =>
    obtain ⟨v, u, rfl, r2, r3⟩ := r1.two'
    have := p1 _ w1 (Ext.refl w1) a1.good ((a1.env.set r2).set r3) a1.sto
    rw [a1.hp] at this
    exact ⟨v, u, rfl, this⟩
  | [], _, p1 => exact p1.elim
  | [_], _, p1 => exact p1.elim
  | _ :: _ :: _ :: _, _, p1 => exact p1.elim
/-! o[i] = e; x op= e; o[i] op= e -/
theorem ds_put {o i : Expr} {mo mi : ME} {pos' : Pos} (ho : PE X o (TEof X.g Wx mo)) (hi : PE X i (TEof X.g Wx mi)) (he : PE X e (TEof X.g Wx me)) (hu : X.A.units + 1 < cLine)
    (ha : ∀ v, assign (.Subscript o i pos') X.env v = (do
      let ov ← holding [v] (eval o X.env)
      let iv ← holding [v, ov] (eval i X.env)
      standAt pos'
      holding [v, ov, iv] (setItem ov iv v)
      release [v, ov, iv] []) := by intro _; rfl)
    (hs : swapsWithSole [.Subscript o i pos'] e pos.line X.env = pure false := by rfl) (hw : swappedStores [.Subscript o i pos'] e X.env = pure none := by rfl)
    (h1 : (assignEach [.Subscript o i pos'] X.env).map (·.2) = [assign (.Subscript o i pos') X.env] := by rfl) : PS X (.Assign [.Subscript o i pos'] e pos) (TSof X.g Wx (sPut mo mi me)) := by
  refine psImp (ps_asg he (pg_sub ho hi (jp_put hu) ha) hs hw h1) fun D σ H ⟨w, E, S, a, p⟩ => ⟨w, E, S, a, PR.imp (PO_.bind a.good a.env p) fun v H1 ⟨w1, d, S1, a1, x1, r1, p1⟩ => ?_⟩
  refine ⟨w1, E, S1, a1, PR.imp (PO_.bind a1.good a1.env p1) fun x H2 ⟨w2, d2, S2, a2, x2, r2, p2⟩ => ?_⟩
  refine ⟨w2, E, S2, a2, PR.imp (PO_.bind a2.good a2.env p2) fun k H3 ⟨w3, d3, S3, a3, x3, r3, p3⟩ => ?_⟩
  split at p3
  · rename_i S4 e4
    exact ⟨w3, S3, d2, d3, d, S4, a3.hp, a3.good, a3.sto, RD.mono a2.good x3 _ _ r2, r3, RD.mono a1.good (x2.trans x3) _ _ r1, e4, fun w' x' G' rs' => p3 σ w' x' G' (a3.env.mono a3.good x') rs'⟩
  · exact p3.elim
def ipOf (g : G) (f : D → D → List D → R D) : TIp := opOf g f
theorem ds_aug {i : Nat} {x : Str} {op : Operator} {f : D → D → List D → R D} {pos' : Pos} (hN : X.N.Nodup) (hi : X.N[i]? = some x) (hx : Loc X.env.scope x) (he : PE X e (TEof X.g Wx me)) (ho : PIp X op (opOf X.g f)) (hf : X.fn x = true ∨ X.env.scope.names.lookup x = some .local) :
    PS X (.AugAssign (.Name x pos') op e pos) (TSof X.g Wx (sAug i f me)) := by
  refine psImp (ps_aug hN hi hx he ho hf) fun D σ H ⟨w, E, S, a, p⟩ => ?_
  unfold sAug at p
  split at p
  · rename_i d e1
    obtain ⟨v, h1, h2⟩ := a.env.2 i d e1
    refine ⟨v, h1, w, E, S, a, PR.imp (PO_.bind a.good a.env p) fun y H1 ⟨w1, d1, S1, a1, x1, r1, p1⟩ => ?_⟩
    refine ⟨Wx, σ, w1, S1, d, d1, a1.hp, a1.good, a1.sto, RD.mono a.good x1 _ _ h2, r1, PR.imp (PO_.bind a1.good a1.env p1) fun z H2 ⟨w2, d2, S2, a2, x2, r2, p2⟩ => ?_⟩
    have := p2 _ w2 (Ext.refl w2) a2.good (a2.env.set r2) a2.sto
    rw [a2.hp] at this
    exact this
  · exact p.elim
/-! in-place operators -/
theorem ipI0 {op : Operator} {f : D → D → List D → R D} {k : Int → Int → Int} (ho : PIp X op (ipI k)) (hm : ∀ d e S, (∃ i j, d = .int i ∧ e = .int j ∧ f d e S = .ok (.int (k i j)) S) ∨ f d e S = .bad) : PIp X op (opOf X.g f) := by
  intro pins s σ H x y v u Q I rx ry ⟨Wx, σ', w, S, d, e, hH, G, rs, r1, r2, p⟩
  rcases hm d e S with ⟨i, j, rfl, rfl, ez⟩ | eb
  · cases r1
    cases r2
    rw [ez] at p
    have := putSame p G rs rfl
    rw [hH] at this
    exact ho pins s σ H _ _ v u Q I rx ry ⟨i, j, rfl, rfl, this⟩
  · rw [eb] at p
    exact p.elim
theorem ji_add : PIp X .Add (opOf X.g iAdd) := ipI0 ip_add fun d e S => by
  unfold iAdd; split
  · exact .inl ⟨_, _, rfl, rfl, rfl⟩
  · exact .inr rfl
end
end J
set_option Elab.async false
set_option linter.all false
set_option maxRecDepth 100000
set_option maxHeartbeats 2000000
namespace J
open PySem PySem.Spec PyProof.Rows L2
/-! ### enumerate and zip over lists and tuples alike -/
def SeqB (K : PySem.W.Frag) (H : Hp) (b : Bool) (a : Addr) (xs : List V) : Prop := if b = true then SqT K H a xs else SqL K H a xs
def HoldB (b : Bool) (h : Heap) (a : Addr) (items : Array Value) : Prop := if b = true then h.IsTuple a items else h.IsList a items
def IterB (b : Bool) (h : Heap) (it a : Addr) (i : Nat) : Prop := if b = true then h.IsTupleIter it a i else h.IsListIter it a i
section
variable {X : Cx} {pins : List (Addr × Obj)} {σ : L2.St} {H : Hp} {s : Shared}
end
theorem IterB.at {b : Bool} {h h' : Heap} {it a : Addr} {i : Nat} (x : IterB b h it a i) (e : ∀ o, h.get? it = some o → h'.get? it = some o) : IterB b h' it a i := by
  cases b with
  | true => exact Heap.IsTupleIter.at (show h.IsTupleIter it a i from x) e
  | false => exact Heap.IsListIter.at (show h.IsListIter it a i from x) e
theorem IterB.obj {b : Bool} {h : Heap} {it a : Addr} {i : Nat} (x : IterB b h it a i) : ∃ o, h.get? it = some o ∧ (o.cls = .type "tuple_iterator" ∨ o.cls = .type "list_iterator") ∧ ∀ v, o.data ≠ .cell v := by
  cases b with
  | true =>
    obtain ⟨o, ho, hc, hd⟩ := (show h.IsTupleIter it a i from x)
    exact ⟨o, ho, .inl hc, fun v q => by rw [hd] at q; cases q⟩
  | false =>
    obtain ⟨o, ho, hc, hd⟩ := (show h.IsListIter it a i from x)
    exact ⟨o, ho, .inr hc, fun v q => by rw [hd] at q; cases q⟩
theorem HoldB.obj {b : Bool} {h : Heap} {a : Addr} {items : Array Value} (x : HoldB b h a items) : ∃ o, h.get? a = some o ∧ (o.cls = .type "tuple" ∨ o.cls = .type "list") := by
  cases b with
  | true =>
    obtain ⟨o, ho, hc, _⟩ := (show h.IsTuple a items from x)
    exact ⟨o, ho, .inl hc⟩
  | false =>
    obtain ⟨o, ho, hc, _⟩ := (show h.IsList a items from x)
    exact ⟨o, ho, .inr hc⟩
def ItEn (K : PySem.W.Frag) (b : Bool) (a : Addr) : It :=
  ⟨fun i H => ∃ (xs : List V) (x : V), SeqB K H b a xs ∧ xs[i]? = some x, fun i H v H' => ∃ T x, v = .ref T ∧ H T = none ∧ H' = upd H T (.tup [.int (i : Nat), x]) ∧ ∀ xs, SeqB K H b a xs → xs[i]? = some x, fun i H => ∃ xs : List V, SeqB K H b a xs ∧ xs.length = i⟩
set_option maxHeartbeats 4000000 in
section
variable {prog : Program} {w : World} {A : Around} {E : Value → Shared → Prop} {s : Shared}
end
def itObj (b : Bool) (a : Addr) : Obj := if b = true then { cls := .type "tuple_iterator", data := .fields #[.ref a, .int 0 0] } else { cls := .type "list_iterator", data := .fields #[.ref a, .int 0 0] }
theorem IterB.new {b : Bool} {h : Heap} {it a : Addr} (e : h.get? it = some (itObj b a)) : IterB b h it a 0 := by
  cases b with
  | true => exact ⟨_, e, rfl, rfl⟩
  | false => exact ⟨_, e, rfl, rfl⟩
def iEn (K : PySem.W.Frag) (ta : TA) : TI := fun σ H R => ta σ H fun vs H1 => ∃ b a xs, vs = [.ref a] ∧ SeqB K H1 b a xs ∧ R (ItEn K b a) H1
/-! zip -/
def ItZp (K : PySem.W.Frag) (c d : Bool) (a b : Addr) : It :=
  ⟨fun i H => ∃ (xs ys : List V) (x y : V), SeqB K H c a xs ∧ SeqB K H d b ys ∧ xs[i]? = some x ∧ ys[i]? = some y,
    fun i H v H' => ∃ T x y, v = .ref T ∧ H T = none ∧ H' = upd H T (.tup [x, y]) ∧ (∀ xs, SeqB K H c a xs → xs[i]? = some x) ∧ ∀ ys, SeqB K H d b ys → ys[i]? = some y,
    fun i H => ∃ xs ys : List V, SeqB K H c a xs ∧ SeqB K H d b ys ∧ i ≤ xs.length ∧ i ≤ ys.length ∧ (i = xs.length ∨ i = ys.length)⟩
structure ZpApart (z TI TO i1 i2 : Addr) : Prop where
  TIz : TI ≠ z
  TOz : TO ≠ z
  TITO : TI ≠ TO
  TIi1 : TI ≠ i1
  TIi2 : TI ≠ i2
  zi1 : z ≠ i1
  zi2 : z ≠ i2
  TOi1 : TO ≠ i1
  TOi2 : TO ≠ i2
  i12 : i1 ≠ i2
def iZp (K : PySem.W.Frag) (ta : TA) : TI := fun σ H R => ta σ H fun vs H1 => ∃ c d a b xs ys, vs = [.ref a, .ref b] ∧ SeqB K H1 c a xs ∧ SeqB K H1 d b ys ∧ R (ItZp K c d a b) H1
end J
set_option Elab.async false
set_option linter.all false
set_option maxRecDepth 100000
set_option maxHeartbeats 1000000
namespace J
open PySem PySem.Spec PyProof.Rows L2
/-! ### what a loop goes over -/
structure ItOk (g : G) (w0 : W) (J : It) (src : Src) : Prop where
  go : ∀ (i : Nat) w S d, Ext w0 w → RS g w S → src.alive S = true → src.at_ S i = some d → i < src.len → J.go i w.H
  stop : ∀ w S, Ext w0 w → RS g w S → src.alive S = true → J.stop src.len w.H
  yld : ∀ (i : Nat) w S d x H', Ext w0 w → Good w → RS g w S → src.alive S = true → src.at_ S i = some d → i < src.len → J.yld i w.H x H' → ∃ w', w'.H = H' ∧ Ext w w' ∧ Good w' ∧ w'.rhA = w.rhA ∧ w'.thA = w.thA ∧ RD g w' d x ∧ RS g w' S
def TIof (g : G) (Wx : WX) (m : MI) : TI := fun σ H Q => ∃ w E S, At g w E σ H S ∧ PR g Wx σ w (fun w' s J => ItOk g w' J s) Q (m E S)
theorem piOr {X : Cx} {tg e : Expr} {t t' : TI} (h : PI X tg e t) (h' : PI X tg e t') : PI X tg e (fun σ H R => t σ H R ∨ t' σ H R) := ⟨fun pins s σ H R I q => q.elim (h.run pins s σ H R I) (h'.run pins s σ H R I)⟩
theorem piImp {X : Cx} {tg e : Expr} {t t' : TI} (h : PI X tg e t) (f : ∀ σ H R, t' σ H R → t σ H R) : PI X tg e t' := ⟨fun pins s σ H R I q => h.run pins s σ H R I (f _ _ _ q)⟩
theorem srcOf_some {S : List D} {d : D} {s : Src} (h : srcOf S d = some s) : (∃ ds, (d = .tup ds ∨ d = .tuk ds) ∧ s = .its ds) ∨ (∃ ds, (d = .lst ds ∨ d = .rdl ds) ∧ s = .its ds) ∨ ∃ n ds, d = .loc n ∧ S[n]? = some (.lst ds) ∧ s = .live n ds.length := by
  unfold srcOf at h
  split at h
  · cases h; exact .inl ⟨_, .inl rfl, rfl⟩
  · cases h; exact .inl ⟨_, .inr rfl, rfl⟩
  · cases h; exact .inr (.inl ⟨_, .inl rfl, rfl⟩)
  · cases h; exact .inr (.inl ⟨_, .inr rfl, rfl⟩)
  · split at h
    · rename_i e
      cases h; exact .inr (.inr ⟨_, _, rfl, e, rfl⟩)
    · cases h
  · cases h
def D.isTup : D → Bool
  | .tup _ => true
  | .tuk _ => true
  | _ => false
structure Stands (g : G) (w0 : W) (b : Bool) (a : Addr) (src : Src) : Prop where
  st : ∀ w S, Ext w0 w → RS g w S → src.alive S = true → ∃ vs, SeqB g.K w.H b a vs ∧ vs.length = src.len ∧ (∀ (i : Nat) d, src.at_ S i = some d → ∃ v, vs[i]? = some v ∧ RD g w d v)
theorem stands_of {g : G} {w : W} {S : List D} {d : D} {v : V} {s : Src} (G : Good w) (rs : RS g w S) (r : RD g w d v) (h : srcOf S d = some s) : ∃ a b, v = .ref a ∧ b = d.isTup ∧ Stands g w b a s ∧ s.alive S = true := by
  rcases srcOf_some h with ⟨ds, rfl | rfl, rfl⟩ | ⟨ds, rfl | rfl, rfl⟩ | ⟨n, ds, rfl, e, rfl⟩
  · obtain ⟨a, vs, rfl, t, r2⟩ := r
    exact ⟨a, true, rfl, rfl, ⟨fun w' S' x _ _ => ⟨vs, (t.mono G x).sq, r2.length, fun i d e => (r2.mono G x).get e⟩⟩, rfl⟩
  · obtain ⟨a, vs, o, rfl, t, _, n, r2⟩ := r
    exact ⟨a, true, rfl, rfl, ⟨fun w' S' x _ _ => ⟨vs, .inl (.inr ⟨o, x.fz G t n⟩), r2.length, fun i d e => (r2.mono G x).get e⟩⟩, rfl⟩
  · obtain ⟨a, vs, rfl, t, n, r2⟩ := r
    exact ⟨a, false, rfl, rfl, ⟨fun w' S' x _ _ => ⟨vs, SqL.of (x.fz G t n), r2.length, fun i d e => (r2.mono G x).get e⟩⟩, rfl⟩
  · obtain ⟨a, vs, rfl, t, r2⟩ := r
    exact ⟨a, false, rfl, rfl, ⟨fun w' S' x _ _ => ⟨vs, (t.mono G x).sq, r2.length, fun i d e => (r2.mono G x).get e⟩⟩, rfl⟩
  · obtain ⟨a, rfl, hp⟩ := r
    refine ⟨a, false, rfl, rfl, ⟨fun w' S' x rs' al => ?_⟩, by simp [Src.live, e]⟩
    simp only [Src.live] at al
    split at al
    · rename_i ds' e'
      obtain ⟨us, h1, h2⟩ := rs'.obj (x.get hp) e'
      refine ⟨us, SqL.of h1, by rw [h2.length]; exact (show ds'.length = ds.length by simpa using al), fun i d q => ?_⟩
      simp only [Src.live, e'] at q
      exact h2.get q
    · cases al
theorem its_list {g : G} {w : W} {a : Addr} {s : Src} (h : Stands g w false a s) : ItOk g w (Itl g.K a) s where
  go := fun i w' S d x rs al e _ => by
    obtain ⟨vs, sq, _, at_⟩ := h.st w' S x rs al
    obtain ⟨v, h1, _⟩ := at_ i d e
    exact ⟨vs, v, sq, h1⟩
  stop := fun w' S x rs al => by
    obtain ⟨vs, sq, l, _⟩ := h.st w' S x rs al
    exact ⟨vs, sq, Nat.le_of_eq l⟩
  yld := fun i w' S d x H' ex G rs al e _ y => by
    obtain ⟨vs, sq, _, at_⟩ := h.st w' S ex rs al
    obtain ⟨v, h1, h2⟩ := at_ i d e
    obtain ⟨rfl, q⟩ := y
    have := q vs sq
    rw [h1] at this
    cases this
    exact ⟨w', rfl, Ext.refl _, G, rfl, rfl, h2, rs⟩
theorem its_tup {g : G} {w : W} {a : Addr} {s : Src} (h : Stands g w true a s) : ItOk g w (Itt g.K a) s where
  go := fun i w' S d x rs al e _ => by
    obtain ⟨vs, sq, _, at_⟩ := h.st w' S x rs al
    obtain ⟨v, h1, _⟩ := at_ i d e
    exact ⟨vs, v, sq, h1⟩
  stop := fun w' S x rs al => by
    obtain ⟨vs, sq, l, _⟩ := h.st w' S x rs al
    exact ⟨vs, sq, Nat.le_of_eq l⟩
  yld := fun i w' S d x H' ex G rs al e _ y => by
    obtain ⟨vs, sq, _, at_⟩ := h.st w' S ex rs al
    obtain ⟨v, h1, h2⟩ := at_ i d e
    obtain ⟨rfl, q⟩ := y
    have := q vs sq
    rw [h1] at this
    cases this
    exact ⟨w', rfl, Ext.refl _, G, rfl, rfl, h2, rs⟩
theorem its_rng {g : G} {w : W} (lo : Int) (n : Nat) : ItOk g w (Itr lo n) (.rng lo n) where
  go := fun i w' S d x rs al e hi => hi
  stop := fun w' S x rs al => Nat.le_refl _
  yld := fun i w' S d x H' ex G rs al e _ y => by
    obtain ⟨rfl, rfl⟩ := y
    have e' : some (D.int (lo + i)) = some d := e
    cases e'
    exact ⟨w', rfl, Ext.refl _, G, rfl, rfl, rfl, rs⟩
section
variable {X : Cx} {Wx : WX} {tg a b : Expr} {ma mb : ME} {pos : Pos}
theorem di_seq (h : PE X a (TEof X.g Wx ma)) : PI X tg a (TIof X.g Wx (iSeq ma)) := by
  refine piImp (piOr (pi_list h) (pi_tup h)) fun σ H Q ⟨w, E, S, a, p⟩ => ?_
  have p1 : PR X.g Wx σ w (fun w' s J => ItOk X.g w' J s) Q ((ma E S).bind fun x S1 => match srcOf S1 x with | some s => .ok s S1 | none => .bad) := p
  cases hm : ma E S with
  | ok d S1 =>
    rw [hm] at p1
    have p2 : PR X.g Wx σ w (fun w' s J => ItOk X.g w' J s) Q (match srcOf S1 d with | some s => .ok s S1 | none => .bad) := p1
    cases hs : srcOf S1 d with
    | none => rw [hs] at p2; exact p2.elim
    | some s =>
      rw [hs] at p2
      cases ht : d.isTup with
      | true =>
        refine .inr ⟨w, E, S, a, ?_⟩
        rw [hm]
        intro v w1 x G r rs
        obtain ⟨q, c, rfl, ec, st, al⟩ := stands_of G rs r hs
        rw [ht] at ec
        subst ec
        obtain ⟨vs, sq, _⟩ := st.st w1 S1 (Ext.refl _) rs al
        exact ⟨q, rfl, ⟨vs, sq⟩, p2 _ w1 x G (its_tup st) rs⟩
      | false =>
        refine .inl ⟨w, E, S, a, ?_⟩
        rw [hm]
        intro v w1 x G r rs
        obtain ⟨q, c, rfl, ec, st, al⟩ := stands_of G rs r hs
        rw [ht] at ec
        subst ec
        obtain ⟨vs, sq, _⟩ := st.st w1 S1 (Ext.refl _) rs al
        exact ⟨q, rfl, ⟨vs, sq⟩, p2 _ w1 x G (its_list st) rs⟩
  | exc c fs S1 =>
    refine .inl ⟨w, E, S, a, ?_⟩
    rw [hm] at p1 ⊢
    exact p1
  | bad => rw [hm] at p1; exact p1.elim
theorem okR_iff {i : Int} : okR i = true ↔ -(2 ^ 62) ≤ i ∧ i < 2 ^ 62 := by
  unfold okR
  rw [Bool.and_eq_true, decide_eq_true_eq, decide_eq_true_eq]
  exact Iff.rfl
theorem di_rng1 {p : Pos} (hg : Gl X "range") (hm : X.mg "range" = none) (ha : PA X [a] (TAof X.g Wx (aCons ma aNil))) (hs : starEach [a] X.env = [(false, eval a X.env)] := by rfl) : PI X tg (.Call (.Name "range" p) [a] [] pos) (TIof X.g Wx (iRng1 ma)) := by
  refine piImp (pi_range1 hg hm ha hs) fun σ H Q ⟨w, E, S, a, p⟩ => ?_
  refine ⟨w, E, S, a, ?_⟩
  unfold iRng1 at p
  unfold aCons aNil
  cases hm : ma E S with
  | ok d S1 =>
    rw [hm] at p
    cases d with
    | int j =>
      simp only [bind_ok] at p ⊢
      split at p
      · rename_i hj
        intro vs w1 x G r rs
        obtain ⟨v, rfl, r1⟩ := r.one'
        cases r1
        have hj' := okR_iff.mp hj
        exact ⟨j, rfl, hj'.1, hj'.2, p _ w1 x G (its_rng 0 j.toNat) rs⟩
      · exact p.elim
    | _ => exact p.elim
  | exc c fs S1 => rw [hm] at p; exact p
  | bad => rw [hm] at p; exact p.elim
theorem di_rng2 {p : Pos} (hg : Gl X "range") (hm : X.mg "range" = none) (ha : PA X [a, b] (TAof X.g Wx (aCons ma (aCons mb aNil)))) (hs : starEach [a, b] X.env = [(false, eval a X.env), (false, eval b X.env)] := by rfl) (hs2 : starEach [b] X.env = [(false, eval b X.env)] := by rfl) : PI X tg (.Call (.Name "range" p) [a, b] [] pos) (TIof X.g Wx (iRng2 ma mb)) := by
  refine piImp (pi_range2 hg hm ha hs hs2) fun σ H Q ⟨w, E, S, a, p⟩ => ?_
  refine ⟨w, E, S, a, ?_⟩
  unfold iRng2 at p
  unfold aCons aNil
  cases hm : ma E S with
  | ok d S1 =>
    rw [hm] at p
    simp only [bind_ok] at p ⊢
    cases hm2 : mb E S1 with
    | ok e S2 =>
      rw [hm2] at p
      simp only [bind_ok] at p ⊢
      cases d with
      | int i =>
        cases e with
        | int j =>
          simp only at p
          split at p
          · rename_i hj
            intro vs w1 x G r rs
            obtain ⟨v, u, rfl, r1, r2⟩ := r.two'
            cases r1
            cases r2
            have h1 := okR_iff.mp hj.1
            have h2 := okR_iff.mp hj.2
            exact ⟨i, j, rfl, ⟨h1.1, h1.2, h2.1, h2.2⟩, p _ w1 x G (its_rng i (j - i).toNat) rs⟩
          · exact p.elim
        | _ => exact p.elim
      | _ => exact p.elim
    | exc c fs S1 => rw [hm2] at p; exact p
    | bad => rw [hm2] at p; exact p.elim
  | exc c fs S1 => rw [hm] at p; exact p
  | bad => rw [hm] at p; exact p.elim
end
end J
set_option Elab.async false
set_option linter.all false
set_option maxRecDepth 100000
set_option maxHeartbeats 1000000
namespace J
open PySem PySem.Spec PyProof.Rows L2
/-! ### to another world -/
structure Weak (w w' : W) : Prop where
  H : ∀ a o, w.H a = some o → ¬ w.thA a → w'.H a = some o
  thA : ∀ a o, w.H a = some o → ¬ w.thA a → ¬ w'.thA a
theorem Weak.dk {w w' : W} (k : Weak w w') {a : Addr} {u : HO} (h : Rd w.H a u) (n : ¬ w.thA a) : Rd w'.H a u ∧ ¬ w'.thA a := by
  rcases h with h | ⟨o, h⟩
  · exact ⟨.inl (k.H a _ h n), k.thA a _ h n⟩
  · exact ⟨.inr ⟨o, k.H a _ h n⟩, k.thA a _ h n⟩
theorem Weak.tup {g : G} {w w' : W} (k : Weak w w') {a : Addr} {vs : List V} (h : TupAt g w a vs) : TupAt g w' a vs := ⟨k.H a _ h.1 h.2, k.thA a _ h.1 h.2⟩
theorem Weak.rdl {g : G} {w w' : W} (k : Weak w w') {a : Addr} {vs : List V} (h : RdlAt g w a vs) : RdlAt g w' a vs := by
  rcases h with ⟨h | ⟨o, h⟩, n⟩ | h
  · exact .inl ⟨.inl (k.H a _ h n), k.thA a _ h n⟩
  · exact .inl ⟨.inr ⟨o, k.H a _ h n⟩, k.thA a _ h n⟩
  · exact .inr h
mutual
theorem RD.flatW {g : G} {w w' : W} (k : Weak w w') : ∀ (d : D) (v : V), d.flat = true → RD g w d v → RD g w' d v
  | .non, _, _, h => h
  | .bl _, _, _, h => h
  | .int _, _, _, h => h
  | .str _, _, _, h => h
  | .ty _, _, _, h => h
  | .tup ds, v, f, h => by
    obtain ⟨a, vs, e, t, r⟩ := h
    exact ⟨a, vs, e, k.tup t, RDs.flatW k ds vs f r⟩
  | .lst ds, v, f, h => by
    obtain ⟨a, vs, e, t, n, r⟩ := h
    exact ⟨a, vs, e, k.H a _ t n, k.thA a _ t n, RDs.flatW k ds vs f r⟩
  | .rdl ds, v, f, h => by
    obtain ⟨a, vs, e, t, r⟩ := h
    exact ⟨a, vs, e, k.rdl t, RDs.flatW k ds vs f r⟩
  | .dct ks ds, v, f, h => by
    obtain ⟨a, vs, e, t, l, n, r⟩ := h
    exact ⟨a, vs, e, (k.dk t n).1, l, (k.dk t n).2, RDs.flatW k ds vs f r⟩
  | .dcT ks ds, v, f, h => by
    obtain ⟨a, vs, e, t, l, n, r⟩ := h
    exact ⟨a, vs, e, (k.dk t n).1, l, (k.dk t n).2, RDs.flatW k ds vs f r⟩
  | .tuk ds, v, f, h => by
    obtain ⟨a, vs, o, e, t, l, n, r⟩ := h
    exact ⟨a, vs, o, e, k.H a _ t n, l, k.thA a _ t n, RDs.flatW k ds vs f r⟩
theorem RDs.flatW {g : G} {w w' : W} (k : Weak w w') : ∀ (ds : List D) (vs : List V), D.flats ds = true → RDs g w ds vs → RDs g w' ds vs
  | [], _, _, h => h
  | d :: ds, vs, f, h => by
    obtain ⟨v, r, e, h1, h2⟩ := h
    simp only [D.flats, Bool.and_eq_true] at f
    exact ⟨v, r, e, RD.flatW k d v f.1 h1, RDs.flatW k ds r f.2 h2⟩
end
mutual
theorem RD.weakW {g : G} {w w' : W} (k : Weak w w') (kr : ∀ (n : Nat) a, w.rhA[n]? = some a → w'.rhA[n]? = some a) : ∀ (d : D) (v : V), RD g w d v → RD g w' d v
  | .non, _, h => h
  | .bl _, _, h => h
  | .int _, _, h => h
  | .str _, _, h => h
  | .ty _, _, h => h
  | .tup ds, v, h => by
    obtain ⟨a, vs, e, t, r⟩ := h
    exact ⟨a, vs, e, k.tup t, RDs.weakW k kr ds vs r⟩
  | .lst ds, v, h => by
    obtain ⟨a, vs, e, t, n, r⟩ := h
    exact ⟨a, vs, e, k.H a _ t n, k.thA a _ t n, RDs.weakW k kr ds vs r⟩
  | .rdl ds, v, h => by
    obtain ⟨a, vs, e, t, r⟩ := h
    exact ⟨a, vs, e, k.rdl t, RDs.weakW k kr ds vs r⟩
  | .dct ks ds, v, h => by
    obtain ⟨a, vs, e, t, l, n, r⟩ := h
    exact ⟨a, vs, e, (k.dk t n).1, l, (k.dk t n).2, RDs.weakW k kr ds vs r⟩
  | .dcT ks ds, v, h => by
    obtain ⟨a, vs, e, t, l, n, r⟩ := h
    exact ⟨a, vs, e, (k.dk t n).1, l, (k.dk t n).2, RDs.weakW k kr ds vs r⟩
  | .tuk ds, v, h => by
    obtain ⟨a, vs, o, e, t, l, n, r⟩ := h
    exact ⟨a, vs, o, e, k.H a _ t n, l, k.thA a _ t n, RDs.weakW k kr ds vs r⟩
  | .loc n, v, h => by
    obtain ⟨a, e, t⟩ := h
    exact ⟨a, e, kr n a t⟩
theorem RDs.weakW {g : G} {w w' : W} (k : Weak w w') (kr : ∀ (n : Nat) a, w.rhA[n]? = some a → w'.rhA[n]? = some a) : ∀ (ds : List D) (vs : List V), RDs g w ds vs → RDs g w' ds vs
  | [], _, h => h
  | d :: ds, vs, h => by
    obtain ⟨v, r, e, h1, h2⟩ := h
    exact ⟨v, r, e, RD.weakW k kr d v h1, RDs.weakW k kr ds r h2⟩
end
theorem RO.flatW {g : G} {w w' : W} (k : Weak w w') {d : D} {a : Addr} (f : d.flat = true) (e : w'.H a = w.H a) (h : RO g w d a) : RO g w' d a := by
  cases d with
  | lst ds =>
    obtain ⟨vs, h1, h2⟩ := h
    exact ⟨vs, e.trans h1, RDs.flatW k ds vs f h2⟩
  | dct ks ds =>
    obtain ⟨vs, h1, l, h2⟩ := h
    exact ⟨vs, e.trans h1, l, RDs.flatW k ds vs f h2⟩
  | dcT ks ds =>
    obtain ⟨vs, h1, l, h2⟩ := h
    exact ⟨vs, e.trans h1, l, RDs.flatW k ds vs f h2⟩
  | _ => exact h.elim
theorem allFlat {S : List D} {n : Nat} {d : D} (h : S.all D.flat = true) (e : S[n]? = some d) : d.flat = true := by
  rw [List.all_eq_true] at h
  exact h d (List.mem_of_getElem? e)
theorem weak_take {w w' : W} (hH : w'.H = w.H) (hthA : ∀ a, w'.thA a → w.thA a) : Weak w w' := ⟨fun a o h _ => by rw [hH]; exact h, fun a o _ n z => n (hthA a z)⟩
theorem take_store {g : G} {w w' : W} {S : List D} {n : Nat} (k : Weak w w') (hH : w'.H = w.H) (hr : w'.rhA = w.rhA.take n) (hn : n ≤ S.length) (f : (S.take n).all D.flat = true) (rs : RS g w S) : RS g w' (S.take n) := by
  refine ⟨by rw [hr, List.length_take, List.length_take, rs.1], fun m d e => ?_⟩
  have hm : m < n := by
    have := (List.getElem?_eq_some_iff.mp e).1
    rw [List.length_take] at this
    omega
  have e' : S[m]? = some d := by rwa [List.getElem?_take_of_lt hm] at e
  obtain ⟨a, h1, h2⟩ := rs.2 m d e'
  exact ⟨a, by rw [hr, List.getElem?_take_of_lt hm]; exact h1, h2.flatW k (allFlat f e) (by rw [hH])⟩
theorem gone_some {n : Nat} {d0 d : D} (h : gone n (some d0) = some d) : (d0 = d ∧ d0.flat = true) ∨ ∃ m, d0 = .loc m ∧ d = .loc m ∧ m < n := by
  unfold gone at h
  simp only at h
  split at h
  · rename_i hf
    cases h
    exact .inl ⟨rfl, hf⟩
  · split at h
    · rename_i m _
      split at h
      · rename_i hm
        cases h
        exact .inr ⟨_, rfl, rfl, hm⟩
      · cases h
    · cases h
theorem gc_ok {g : G} {w2 w4 : W} {σ : L2.St} {E3 E4 : Env} {S3 S4 : List D} {n : Nat} (h : gcE n E3 S3 = some (E4, S4)) (G4 : Good w4) (re : RE g w4 E3 σ) (rs : RS g w4 S3) (x : Ext w2 w4) (hn : w2.rhA.length = n) :
    ∃ w5, At g w5 E4 σ w4.H S4 ∧ Ext w2 w5 ∧ S4.length = n := by
  unfold gcE at h
  split at h
  · rename_i hl
    cases h
    exact ⟨w4, ⟨rfl, G4, re, rs⟩, x, hl⟩
  · split at h
    · rename_i hh
      cases h
      obtain ⟨τ, e1, f1⟩ := x.rho
      have et : w4.rhA.take n = w2.rhA := by rw [e1, List.take_append_of_le_length (Nat.le_of_eq hn.symm), List.take_of_length_le (Nat.le_of_eq hn)]
      have k : Weak w4 ⟨w4.thA, w4.rhA.take n, w4.H⟩ := weak_take rfl fun _ z => z
      refine ⟨⟨w4.thA, w4.rhA.take n, w4.H⟩, ⟨rfl, ⟨(List.take_sublist n w4.rhA).nodup G4.nd, fun a ha => G4.sub a (List.mem_of_mem_take ha), G4.al, G4.nt⟩, ⟨by simp [re.1], fun i d e => ?_⟩, take_store k rfl rfl hh.1 hh.2 rs⟩, ⟨⟨[], ?_, by simp⟩, x.th1, x.th2, x.kp, x.al⟩, by rw [List.length_take]; omega⟩
      · rw [List.getElem?_map] at e
        cases q : E3[i]? with
        | none => rw [q] at e; cases e
        | some od =>
          rw [q] at e
          cases od with
          | none => cases e
          | some d0 =>
            have e2 : gone n (some d0) = some d := Option.some.inj e
            obtain ⟨v, h1, h2⟩ := re.2 i d0 q
            refine ⟨v, h1, ?_⟩
            rcases gone_some e2 with ⟨rfl, hf⟩ | ⟨m, rfl, rfl, hm⟩
            · exact RD.flatW k _ _ hf h2
            · obtain ⟨a, ea, ha⟩ := h2
              exact ⟨a, ea, by show (w4.rhA.take n)[m]? = some a; rw [List.getElem?_take_of_lt hm]; exact ha⟩
      · show w4.rhA.take n = w2.rhA ++ []
        rw [et, List.append_nil]
    · cases h
section
variable {X : Cx} {Wx : WX} {pos : Pos}
/-! ### for, while -/
theorem ds_for {tg iter : Expr} {body : List Stmt} {mi : MI} {t : Tg} {mb : MS} (hp : PassesOwn (model X.prog X.w) X.A X.env X.xe) (hc : X.calm = true) (hi : PI X tg iter (TIof X.g Wx mi)) (hg : PG X tg (TGof X.g t)) (hb : PSs X body (TSof X.g Wx mb))
    (hs : ∀ x, foldedSetIterable iter X.env x = pure x := by intro _; rfl) : PS X (.For tg iter body [] pos) (TSof X.g Wx (sFor t mi mb)) := by
  refine psImp (ps_for hp hc hi hg hb hs) fun D σ H ⟨w, E, S, a, p⟩ => ⟨w, E, S, a, ?_⟩
  unfold sFor at p
  cases hm : mi E S with
  | bad => rw [hm] at p; exact p.elim
  | exc c fs S1 =>
    rw [hm] at p
    exact fun cls dx w' x G' rx rs => p cls dx σ w' x G' rx (a.env.mono a.good x) rs
  | ok src S1 =>
    rw [hm] at p
    intro J0 w1 x1 G1 it rs1
    have p1 : PO_ X.g Wx D w1 (forGo src t mb S1.length src.len 0 E S1) := p.at x1
    have hn : w1.rhA.length = S1.length := rs1.1.symm
    refine ⟨fun i k σ H => ∃ w2 E2 S2, At X.g w2 E2 σ H S2 ∧ Ext w1 w2 ∧ i + k = src.len ∧ S2.length = S1.length ∧ PO_ X.g Wx D w2 (forGo src t mb S1.length k i E2 S2),
      ⟨src.len, w1, E, S1, ⟨rfl, G1, a.env.mono a.good x1, rs1⟩, Ext.refl _, by omega, rfl, p1⟩, ?_⟩
    rintro i k σ H ⟨w2, E2, S2, a2, x2, hik, hl2, p2⟩
    have hn2 : w2.rhA.length = S1.length := by rw [← a2.sto.1]; exact hl2
    cases k with
    | zero =>
      simp only [forGo] at p2
      split at p2
      · rename_i al
        have hi : i = src.len := by omega
        subst hi
        refine .inl ⟨?_, ?_⟩
        · rw [← a2.hp]
          exact it.stop w2 S2 x2 a2.sto al
        · have := p2 σ w2 (Ext.refl _) a2.good a2.env a2.sto
          rw [a2.hp] at this
          exact this
      · exact p2.elim
    | succ k =>
      simp only [forGo] at p2
      split at p2
      · rename_i al
        split at p2
        · exact p2.elim
        · rename_i d hd
          split at p2
          · exact p2.elim
          · rename_i E1 hE
            have hlt : i < src.len := by omega
            refine .inr ⟨by rw [← a2.hp]; exact it.go i w2 S2 d x2 a2.sto al hd hlt, fun σ' H' => ∃ w2 E2 S2, At X.g w2 E2 σ' H' S2 ∧ Ext w1 w2 ∧ (i + 1) + k = src.len ∧ S2.length = S1.length ∧ PO_ X.g Wx D w2 (forGo src t mb S1.length k (i + 1) E2 S2), fun σ' H' hN => ⟨k, Nat.lt_succ_self k, hN⟩, fun x H' hy => ?_⟩
            rw [← a2.hp] at hy
            obtain ⟨w3, eH, x3, G3, _, _, r3, rs3⟩ := it.yld i w2 S2 d x H' x2 a2.good a2.sto al hd hlt hy
            refine ⟨w3, E2, S2, d, E1, ⟨eH, G3, a2.env.mono a2.good x3, rs3⟩, r3, hE, fun σ' re _ _ => ⟨w3, E1, S2, ⟨eH, G3, re, rs3⟩, ?_⟩⟩
            have p3 := p2.at x3
            have again : ∀ {E3 : Env} {S3 : List J.D}, PO_ X.g Wx D w3 (match gcE S1.length E3 S3 with | some (E3, S3) => forGo src t mb S1.length k (i + 1) E3 S3 | none => O.bad) → ∀ σ' w4, Ext w3 w4 → Good w4 → RE X.g w4 E3 σ' → RS X.g w4 S3 →
                ∃ w2 E2 S2, At X.g w2 E2 σ' w4.H S2 ∧ Ext w1 w2 ∧ (i + 1) + k = src.len ∧ S2.length = S1.length ∧ PO_ X.g Wx D w2 (forGo src t mb S1.length k (i + 1) E2 S2) := fun {E3 S3} q σ' w4 x4 G4 re4 rs4 => by
              split at q
              · rename_i E4 S4 hgc
                have hn3 : w3.rhA.length = S1.length := by rw [← rs3.1]; exact hl2
                obtain ⟨w5, a5, x5, l5⟩ := gc_ok hgc G4 re4 rs4 x4 hn3
                exact ⟨w5, E4, S4, a5, x2.trans (x3.trans x5), by omega, l5, q.at x5⟩
              · exact q.elim
            cases hbd : mb E1 S2 with
            | nx E3 S3 => rw [hbd] at p3; exact again p3
            | ct E3 S3 => rw [hbd] at p3; exact again p3
            | bk E3 S3 => rw [hbd] at p3; exact p3
            | rt d S3 => rw [hbd] at p3; exact p3
            | exc c fs E3 S3 => rw [hbd] at p3; exact p3
            | bad => rw [hbd] at p3; exact p3
      · exact p2.elim
end
end J
set_option Elab.async false
set_option linter.all false
set_option maxRecDepth 100000
set_option maxHeartbeats 1000000
namespace J
open PySem PySem.Spec PyProof.Rows L2
/-! ### comprehensions -/
abbrev W0 : WX := fun _ _ _ _ => False
theorem wipe_get (σ : L2.St) (i : Nat) : ∀ vs : List Nat, (wipe σ vs)[i]? = if i ∈ vs then (σ[i]?).map (fun _ => none) else σ[i]?
  | [] => by simp [wipe]
  | v :: vs => by
    unfold wipe
    by_cases h : i = v
    · subst h
      rw [if_pos (by simp)]
      by_cases hl : i < σ.length
      · rw [List.getElem?_set_self (by rw [wipe_length]; exact hl), List.getElem?_eq_getElem hl]; rfl
      · rw [List.getElem?_eq_none (by rw [List.length_set, wipe_length]; omega), List.getElem?_eq_none (by omega)]; rfl
    · rw [List.getElem?_set_ne (Ne.symm h), wipe_get σ i vs]
      simp [h]
theorem wipeE_get (σ : Env) (i : Nat) : ∀ vs : List Nat, (wipeE σ vs)[i]? = if i ∈ vs then (σ[i]?).map (fun _ => none) else σ[i]?
  | [] => by simp [wipeE]
  | v :: vs => by
    unfold wipeE
    have hlen : ∀ us : List Nat, (wipeE σ us).length = σ.length := fun us => by
      induction us with
      | nil => rfl
      | cons u us ih => unfold wipeE; rw [List.length_set, ih]
    by_cases h : i = v
    · subst h
      rw [if_pos (by simp)]
      by_cases hl : i < σ.length
      · rw [List.getElem?_set_self (by rw [hlen]; exact hl), List.getElem?_eq_getElem hl]; rfl
      · rw [List.getElem?_eq_none (by rw [List.length_set, hlen]; omega), List.getElem?_eq_none (by omega)]; rfl
    · rw [List.getElem?_set_ne (Ne.symm h), wipeE_get σ i vs]
      simp [h]
theorem wipeE_length (E : Env) : ∀ vs : List Nat, (wipeE E vs).length = E.length
  | [] => rfl
  | v :: vs => by unfold wipeE; rw [List.length_set, wipeE_length E vs]
theorem RE.wipe {g : G} {w : W} {E : Env} {σ : L2.St} (h : RE g w E σ) (vs : List Nat) : RE g w (wipeE E vs) (L2.wipe σ vs) := by
  refine ⟨by rw [wipeE_length, wipe_length]; exact h.1, fun i d e => ?_⟩
  rw [wipeE_get] at e
  rw [wipe_get]
  by_cases hi : i ∈ vs
  · rw [if_pos hi] at e
    cases q : E[i]? <;> (rw [q] at e; cases e)
  · rw [if_neg hi] at e ⊢
    exact h.2 i d e
theorem wipe_eq {σ σ' : L2.St} {vs sl : List Nat} (hs : ∀ i, i ∈ sl → i ∈ vs) (h : ∀ i, i ∉ sl → σ'[i]? = (L2.wipe σ vs)[i]?) (hl : σ'.length = (L2.wipe σ vs).length) : L2.wipe σ' vs = L2.wipe σ vs := by
  apply List.ext_getElem?
  intro i
  rw [wipe_length] at hl
  rw [wipe_get, wipe_get]
  by_cases hi : i ∈ vs
  · rw [if_pos hi, if_pos hi]
    by_cases hlt : i < σ.length
    · rw [List.getElem?_eq_getElem hlt, List.getElem?_eq_getElem (by omega)]; rfl
    · rw [List.getElem?_eq_none (by omega), List.getElem?_eq_none (by omega)]
  · rw [if_neg hi, if_neg hi]
    have := h i fun z => hi (hs i z)
    rw [wipe_get, if_neg hi] at this
    exact this
abbrev W.hide (w : W) (p : Addr) (o : HO) : W := ⟨fun a => w.thA a ∨ a = p, w.rhA, upd w.H p o⟩
theorem hide_ext {w : W} {p : Addr} {o : HO} (hp : w.H p = none) : Ext w (w.hide p o) := by
  have x := add_ext (o := o) hp
  exact ⟨⟨[], by simp, by simp⟩, x.th1, x.th2, x.kp, x.al⟩
theorem hide_good {w : W} {p : Addr} {o : HO} (G : Good w) (hp : w.H p = none) (hno : ∀ xs, o ≠ .tup xs := by intro _ z; cases z) : Good (w.hide p o) := by
  have G' := add_good (o := o) G hp hno
  exact ⟨G.nd, fun a h => .inl (G.sub a h), G'.al, G'.nt⟩
theorem weak_upd {w : W} {p : Addr} {o : HO} (hthA : w.thA p) : Weak w { w with H := upd w.H p o } := ⟨fun a u h n => by
  show upd w.H p o a = some u
  rw [upd_ne fun e => n (by rw [e]; exact hthA)]
  exact h, fun a u _ n => n⟩
theorem RO.weakW {g : G} {w w' : W} (k : Weak w w') (kr : ∀ (n : Nat) a, w.rhA[n]? = some a → w'.rhA[n]? = some a) {d : D} {a : Addr} (e : w'.H a = w.H a) (h : RO g w d a) : RO g w' d a := by
  cases d with
  | lst ds =>
    obtain ⟨vs, h1, h2⟩ := h
    exact ⟨vs, e.trans h1, RDs.weakW k kr ds vs h2⟩
  | dct ks ds =>
    obtain ⟨vs, h1, l, h2⟩ := h
    exact ⟨vs, e.trans h1, l, RDs.weakW k kr ds vs h2⟩
  | dcT ks ds =>
    obtain ⟨vs, h1, l, h2⟩ := h
    exact ⟨vs, e.trans h1, l, RDs.weakW k kr ds vs h2⟩
  | _ => exact h.elim
theorem RS.weakW {g : G} {w w' : W} {S : List D} (k : Weak w w') (hr : w'.rhA = w.rhA) (he : ∀ a, a ∈ w.rhA → w'.H a = w.H a) (h : RS g w S) : RS g w' S := ⟨by rw [hr]; exact h.1, fun n d e => by
  obtain ⟨a, h1, h2⟩ := h.2 n d e
  exact ⟨a, by rw [hr]; exact h1, h2.weakW k (fun n a q => by rw [hr]; exact q) (he a (List.mem_of_getElem? h1))⟩⟩
section
variable {X : Cx} {Wx : WX} {pos : Pos}
theorem dts_nil : PTs X [] (TTof X.g Wx J.tYes) := ⟨fun pins s σ H Q I ⟨w, E, S, a, p⟩ => by
  have := p true w (Ext.refl w) a.good rfl a.sto
  rw [a.hp] at this
  exact pts_nil.run pins s σ H Q I this⟩
theorem dts_one {c : Expr} {mt : MT} (h : PT X c (TTof X.g Wx mt)) : PTs X [c] (TTof X.g Wx mt) := pts_one h
theorem lcUse {own : List Nat} {mi : MI} {t : Tg} {mc : MT} {me m : ME} (hsl : ∀ i, i ∈ t.slots → i ∈ own)
    (hm : (m = eLc own t mi mc me) ∨ (m = eLcL own t mi mc me)) : ∀ (σ : L2.St) H Q, TEof X.g Wx m σ H Q → tLc (TIof X.g Wx mi) (TGof X.g t) (TTof X.g W0 mc) (TEof X.g W0 me) own σ H Q := fun σ H Q ⟨w, E, S, a, p⟩ => by
  -- what is wanted of the whole list
  have p0 : ∃ fin : List D → List D → R D, PR X.g Wx σ w (RD X.g) Q ((lcRun own t mi mc me E S).bind fin) ∧ ∀ (w1 : W) (acc S2 : List D) (vs : List V) (w2 : W) (Dd : Addr), w1.H Dd = none → Good w1 → Good w2 → Ext w1 w2 → Dd ∉ w2.rhA → RS X.g w2 S2 → w2.thA Dd → w2.H Dd = some (.lst vs) → RDs X.g w2 acc vs → PR X.g Wx σ w1 (RD X.g) Q (fin acc S2) → Q (.ref Dd) w2.H := by
    rcases hm with rfl | rfl
    · refine ⟨fun (acc S1 : List D) => (R.ok (D.lst acc) S1 : R D), p, fun w1 acc S2 vs w2 Dd hD G1 G2 x nD rs hthA hDd r q => ?_⟩
      have k : Weak w2 ⟨fun a => w2.thA a ∧ a ≠ Dd, w2.rhA, w2.H⟩ := weak_take rfl fun _ z => z.1
      exact q (.ref Dd) ⟨fun a => w2.thA a ∧ a ≠ Dd, w2.rhA, w2.H⟩ ⟨x.rho, fun a h => ⟨x.th1 a h, fun z => G1.al a h (by rw [z]; exact hD)⟩, fun a h => x.th2 a h.1, x.kp, x.al⟩
        ⟨G2.nd, fun a h => ⟨G2.sub a h, fun z => nD (by rw [← z]; exact h)⟩, fun a h => G2.al a h.1, fun a h => G2.nt a h.1⟩ ⟨Dd, vs, rfl, hDd, fun z => z.2 rfl, RDs.weakW k (fun _ _ h => h) _ _ r⟩ (rs.weakW k rfl fun _ _ => rfl)
    · refine ⟨fun (acc S1 : List D) => (R.ok (D.loc S1.length) (S1 ++ [D.lst acc]) : R D), p, fun w1 acc S2 vs w2 Dd hD G1 G2 x nD rs hthA hDd r q => ?_⟩
      have k : Weak w2 ⟨w2.thA, w2.rhA ++ [Dd], w2.H⟩ := weak_take rfl fun _ z => z
      have kr : ∀ (n : Nat) a, w2.rhA[n]? = some a → (w2.rhA ++ [Dd])[n]? = some a := fun n a h => by
        rw [List.getElem?_append_left (List.getElem?_eq_some_iff.mp h).1]; exact h
      obtain ⟨τ, eτ, fτ⟩ := x.rho
      refine q (.ref Dd) ⟨w2.thA, w2.rhA ++ [Dd], w2.H⟩ ⟨⟨τ ++ [Dd], by show w2.rhA ++ [Dd] = _; rw [eτ, List.append_assoc], fun a h => (List.mem_append.mp h).elim (fτ a) fun h => by rw [List.mem_singleton.mp h]; exact hD⟩, x.th1, x.th2, x.kp, x.al⟩
        ⟨?_, fun a h => ?_, G2.al, G2.nt⟩ ⟨Dd, rfl, by show (w2.rhA ++ [Dd])[S2.length]? = some Dd; rw [rs.1]; simp⟩ ⟨by show (S2 ++ [_]).length = (w2.rhA ++ [Dd]).length; simp [rs.1], fun n d e => ?_⟩
      · show (w2.rhA ++ [Dd]).Nodup
        rw [List.nodup_append]
        refine ⟨G2.nd, by simp, fun a ha b hb e => ?_⟩
        rw [List.mem_singleton.mp hb] at e
        exact nD (by rw [← e]; exact ha)
      · rcases List.mem_append.mp h with h | h
        · exact G2.sub a h
        · rw [List.mem_singleton.mp h]; exact hthA
      · by_cases hn : n < S2.length
        · rw [List.getElem?_append_left hn] at e
          obtain ⟨a, h1, h2⟩ := rs.2 n d e
          exact ⟨a, kr n a h1, h2.weakW k kr rfl⟩
        · have hl : n = S2.length := by
            have := (List.getElem?_eq_some_iff.mp e).1
            simp at this
            omega
          subst hl
          simp at e
          subst e
          exact ⟨Dd, by show (w2.rhA ++ [Dd])[S2.length]? = some Dd; rw [rs.1]; simp, vs, hDd, RDs.weakW k kr _ _ r⟩
  obtain ⟨fin, p, hfin⟩ := p0
  refine ⟨w, E, S, a, ?_⟩
  unfold lcRun at p
  cases hmi : mi E S with
  | bad => rw [hmi] at p; exact p.elim
  | exc c fs S1 => rw [hmi] at p; exact p
  | ok src S1 =>
    rw [hmi] at p
    simp only at p
    split at p
    · rename_i hsz
      intro J0 w1 x1 G1 it rs1 Dd hD
      have p1 := PR.at p x1
      have re1 := a.env.mono a.good x1
      have nD : Dd ∉ w1.rhA := fun z => G1.al Dd (G1.sub Dd z) hD
      refine ⟨fun i k H => ∃ w2 acc vs S2, w2.H = H ∧ Good w2 ∧ RS X.g w2 S2 ∧ Ext w1 w2 ∧ Dd ∉ w2.rhA ∧ S1.length ≤ S2.length ∧ w2.thA Dd ∧ H Dd = some (.lst vs) ∧ RDs X.g w2 acc vs ∧ acc.length ≤ i ∧ i + k = src.len ∧ PR X.g Wx σ w1 (RD X.g) Q ((lcGo src t mc me (wipeE E own) S1.length k i acc S2).bind fin),
        ⟨src.len, w1.hide Dd (.lst []), [], [], S1, rfl, hide_good G1 hD, rs1.keep G1 (hide_ext hD) rfl (fun b hb => upd_ne fun e => nD (by rw [← e]; exact hb)), hide_ext hD, nD, Nat.le_refl _, .inr rfl, upd_same, rfl, Nat.zero_le _, by omega, p1⟩, ?_⟩
      rintro i k H ⟨w2, acc, vs, S2, rfl, G2, rs2, x2, hr2, hl2, hthA2, hD2, r2, hai, hik, p2⟩
      cases k with
      | zero =>
        simp only [lcGo] at p2
        split at p2
        · rename_i al
          have hi : i = src.len := by omega
          subst hi
          exact .inl ⟨it.stop w2 S2 x2 rs2 al, hfin w1 acc S2 vs w2 Dd hD G1 G2 x2 hr2 rs2 hthA2 hD2 r2 p2⟩
        · exact p2.elim
      | succ k =>
        simp only [lcGo] at p2
        split at p2
        · rename_i al
          split at p2
          · exact p2.elim
          · rename_i d hd
            split at p2
            · exact p2.elim
            · rename_i E1 hE
              have hlt : i < src.len := by omega
              refine .inr ⟨it.go i w2 S2 d x2 rs2 al hd hlt, fun H' => ∃ w2 acc vs S2, w2.H = H' ∧ Good w2 ∧ RS X.g w2 S2 ∧ Ext w1 w2 ∧ Dd ∉ w2.rhA ∧ S1.length ≤ S2.length ∧ w2.thA Dd ∧ H' Dd = some (.lst vs) ∧ RDs X.g w2 acc vs ∧ acc.length ≤ i + 1 ∧ (i + 1) + k = src.len ∧ PR X.g Wx σ w1 (RD X.g) Q ((lcGo src t mc me (wipeE E own) S1.length k (i + 1) acc S2).bind fin), fun H' hN => ⟨k, Nat.lt_succ_self k, hN⟩, fun x H' hy => ?_⟩
              obtain ⟨w3, rfl, x3, G3, hr3, hthA3, r3, rs3⟩ := it.yld i w2 S2 d x H' x2 G2 rs2 al hd hlt hy
              have nD2 : Dd ∉ w2.rhA := hr2
              have nD3 : Dd ∉ w3.rhA := by rw [hr3]; exact nD2
              have hthAD3 : w3.thA Dd := x3.th1 Dd hthA2
              have hD3 : w3.H Dd = some (.lst vs) := x3.kpT hD2 nD2 hthA2
              have rw3 : RE X.g w3 (wipeE E own) (L2.wipe σ own) := ((re1.mono G1 x2).mono G2 x3).wipe own
              refine ⟨w3, wipeE E own, S2, d, E1, ⟨rfl, G3, rw3, rs3⟩, r3, hE, fun σ' re hk hl => ⟨wipe_eq hsl hk hl, w3, E1, S2, ⟨rfl, G3, re, rs3⟩, ?_⟩⟩
              cases hc : mc E1 S2 with
              | bad => rw [hc] at p2; exact p2.elim
              | exc c fs S3 => rw [hc] at p2; exact p2.elim
              | ok b S3 =>
                rw [hc] at p2
                simp only at p2
                intro b' w4 x4 G4 rb rs4
                obtain rfl : b = b' := rb
                have rho : ∀ (w5 : W), Ext w3 w5 → Dd ∉ w5.rhA := fun w5 x5 z => by
                  obtain ⟨τ, e5, f5⟩ := x5.rho
                  rw [e5] at z
                  rcases List.mem_append.mp z with z | z
                  · exact nD3 z
                  · have := f5 Dd z
                    rw [hD3] at this
                    cases this
                cases b with
                | false =>
                  rw [if_neg Bool.false_ne_true] at p2 ⊢
                  split at p2
                  · rename_i l3
                    exact ⟨w4, acc, vs, S3, rfl, G4, rs4, x2.trans (x3.trans x4), rho w4 x4, l3, x4.th1 Dd hthAD3, x4.kpT hD3 nD3 hthAD3, (r2.mono G2 (x3.trans x4)), by omega, by omega, p2⟩
                  · exact p2.elim
                | true =>
                  rw [if_pos rfl] at p2 ⊢
                  refine ⟨w4, E1, S3, ⟨rfl, G4, re.mono G3 x4, rs4⟩, ?_⟩
                  cases he : me E1 S3 with
                  | bad => rw [he] at p2; exact p2.elim
                  | exc c fs S3 => rw [he] at p2; exact p2.elim
                  | ok z S4 =>
                    rw [he] at p2
                    simp only at p2
                    split at p2
                    · rename_i l4
                      intro y w5 x5 G5 rz rs5
                      have x35 := x4.trans x5
                      have hr5 := rho w5 x35
                      have hthAD5 : w5.thA Dd := x35.th1 Dd hthAD3
                      have hD5 : w5.H Dd = some (.lst vs) := x35.kpT hD3 nD3 hthAD3
                      have r5 : RDs X.g w5 acc vs := r2.mono G2 (x3.trans x35)
                      have hlen := r5.length
                      refine ⟨vs, hD5, by rw [hlen, ← sl_eq]; omega, ?_⟩
                      have kw : Weak w5 { w5 with H := upd w5.H Dd (.lst (vs ++ [y])) } := weak_upd hthAD5
                      have nD5 : Dd ∉ w5.rhA := hr5
                      have x15 := x2.trans (x3.trans x35)
                      refine ⟨{ w5 with H := upd w5.H Dd (.lst (vs ++ [y])) }, acc ++ [z], vs ++ [y], S4, rfl, put_upd G5, rs5.weakW kw rfl (fun b hb => upd_ne fun e => nD5 (by rw [← e]; exact hb)), ⟨x15.rho, x15.th1, x15.th2, fun b o hb nb => ?_, fun b hb => ?_⟩, hr5, l4, hthAD5, upd_same, RDs.weakW kw (fun _ _ h => h) _ _ (r5.append (RDs.one rz)), by simp; omega, by omega, p2⟩
                      · have hne : b ≠ Dd := fun e => by rw [e, hD] at hb; cases hb
                        rcases x15.kp b o hb nb with q | ⟨nt, od, kvs, eo, q⟩
                        · exact .inl ((upd_ne hne).trans q)
                        · exact .inr ⟨nt, od, kvs, eo, (upd_ne hne).trans q⟩
                      · show upd w5.H Dd _ b ≠ none
                        by_cases e : b = Dd
                        · rw [e, upd_same]; simp
                        · rw [upd_ne e]; exact x15.al b hb
                    · exact p2.elim
        · exact p2.elim
    · exact p.elim
theorem de_lc {elt tg iter : Expr} {ifs : List Expr} {scope : Scope} {own : List (Str × Nat)} {mi : MI} {t : Tg} {mc : MT} {me m : ME} (hsl : ∀ i, i ∈ t.slots → i ∈ own.map (·.2)) (hm : (m = eLc (own.map (·.2)) t mi mc me) ∨ (m = eLcL (own.map (·.2)) t mi mc me))
    (h : PE X (.ListComp elt [⟨tg, iter, ifs, 0⟩] scope pos) (tLc (TIof X.g Wx mi) (TGof X.g t) (TTof X.g W0 mc) (TEof X.g W0 me) (own.map (·.2)))) : PE X (.ListComp elt [⟨tg, iter, ifs, 0⟩] scope pos) (TEof X.g Wx m) := peImp h (lcUse hsl hm)
theorem ds_setT {st : Stmt} {i : Nat} {t0 : TE} {me : ME} (h : PS X st (tAsg t0 (gName i))) (f : ∀ σ H Q, TEof X.g Wx me σ H Q → t0 σ H Q) : PS X st (TSof X.g Wx (sSet i me)) := by
  refine psImp h fun D σ H ⟨w, E, S, a, p⟩ => f σ H _ ⟨w, E, S, a, PR.imp (PO_.bind a.good a.env p) fun x H1 ⟨w1, d, S1, a1, x1, r1, p1⟩ => ?_⟩
  have := p1 _ w1 (Ext.refl w1) a1.good (a1.env.set r1) a1.sto
  rw [a1.hp] at this
  exact this
end
end J
set_option Elab.async false
set_option linter.all false
set_option maxRecDepth 100000
set_option maxHeartbeats 1000000
namespace J
open PySem PySem.Spec PyProof.Rows L2
/-! ### calls -/
def PF (g : G) (w : W) (Q : VK) (E : XK) : R D → Prop
  | .ok d S => ∀ v w', Ext w w' → w'.rhA = w.rhA → Good w' → RD g w' d v → RS g w' S → Q v w'.H
  | .exc c fs S => ∀ cls dx w', Ext w w' → w'.rhA = w.rhA → Good w' → RX g w' c fs cls dx → RS g w' S → E cls dx w'.H
  | .bad => False
def spF (g : G) (np : Nat) (F : MF) : Sp := fun vs H Q E => ∃ w ds S, w.H = H ∧ Good w ∧ RDs g w ds vs ∧ RS g w S ∧ ds.length = np ∧ PF g w Q E (F ds S)
theorem spF_len {g : G} {np : Nat} {F : MF} {ps : List Str} (h : ps.length = np) : ∀ vs H Q E, spF g np F vs H Q E → vs.length = ps.length := fun vs H Q E ⟨w, ds, S, _, _, r, _, l, _⟩ => by rw [r.length, l, h]
theorem byRef_ok {g : G} {w : W} : ∀ {ds ds' : List D} {ns : List Nat} {vs : List V} (k : Nat), byRef ds k = some (ds', ns) → RDs g w ds vs →
    ns.Nodup ∧ (∀ n ∈ ns, n < w.rhA.length) ∧ ds'.length = ds.length ∧ ∀ (rhA : List Addr), (∀ (j n : Nat), ns[j]? = some n → rhA[k + j]? = w.rhA[n]?) → RDs g ⟨w.thA, rhA, w.H⟩ ds' vs
  | [], _, _, _, k, h, r => by
    simp only [byRef, Option.some.injEq, Prod.mk.injEq] at h
    obtain ⟨rfl, rfl⟩ := h
    cases r
    exact ⟨List.nodup_nil, by simp, rfl, fun _ _ => rfl⟩
  | d :: ds, ds', ns, vs, k, h, r => by
    obtain ⟨v, us, rfl, r1, r2⟩ := r
    have flatCase : ∀ (hf : d.flat = true), (byRef ds k).map (fun p => (d :: p.1, p.2)) = some (ds', ns) → ns.Nodup ∧ (∀ n ∈ ns, n < w.rhA.length) ∧ ds'.length = (d :: ds).length ∧ ∀ (rhA : List Addr), (∀ (j n : Nat), ns[j]? = some n → rhA[k + j]? = w.rhA[n]?) → RDs g ⟨w.thA, rhA, w.H⟩ ds' (v :: us) := fun hf h => by
      cases e : byRef ds k with
      | none => rw [e] at h; cases h
      | some p =>
        obtain ⟨ds1, ns1⟩ := p
        rw [e] at h
        simp only [Option.map_some, Option.some.injEq, Prod.mk.injEq] at h
        obtain ⟨rfl, rfl⟩ := h
        obtain ⟨n1, n2, n3, n4⟩ := byRef_ok k e r2
        refine ⟨n1, n2, by simp [n3], fun rhA hrhA => RDs.cons ?_ (n4 rhA hrhA)⟩
        exact RD.flatW (weak_take (w := w) (w' := ⟨w.thA, rhA, w.H⟩) rfl fun _ z => z) _ _ hf r1
    cases d with
    | loc n =>
      simp only [byRef] at h
      cases e : byRef ds (k + 1) with
      | none => rw [e] at h; cases h
      | some p =>
        obtain ⟨ds1, ns1⟩ := p
        rw [e] at h
        simp only [Option.bind_some] at h
        split at h
        · cases h
        · rename_i hc
          simp only [Option.some.injEq, Prod.mk.injEq] at h
          obtain ⟨rfl, rfl⟩ := h
          obtain ⟨n1, n2, n3, n4⟩ := byRef_ok (k + 1) e r2
          obtain ⟨a, rfl, ha⟩ := r1
          refine ⟨List.nodup_cons.mpr ⟨by simpa using hc, n1⟩, fun m hm => ?_, by simp [n3], fun rhA hrhA => RDs.cons ⟨a, rfl, ?_⟩ (n4 rhA fun j m hj => ?_)⟩
          · rcases List.mem_cons.mp hm with rfl | hm
            · exact (List.getElem?_eq_some_iff.mp ha).1
            · exact n2 m hm
          · have := hrhA 0 n (by simp)
            rw [Nat.add_zero] at this
            show rhA[k]? = some a
            rw [this]; exact ha
          · have := hrhA (j + 1) m (by simpa using hj)
            rw [← this]
            congr 1
            omega
    | non => exact flatCase rfl (by simpa only [byRef, D.flat, if_true] using h)
    | bl b => exact flatCase rfl (by simpa only [byRef, D.flat, if_true] using h)
    | int b => exact flatCase rfl (by simpa only [byRef, D.flat, if_true] using h)
    | str b => exact flatCase rfl (by simpa only [byRef, D.flat, if_true] using h)
    | ty b => exact flatCase rfl (by simpa only [byRef, D.flat, if_true] using h)
    | tup b =>
      simp only [byRef] at h
      split at h
      · rename_i hf; exact flatCase hf h
      · cases h
    | lst b =>
      simp only [byRef] at h
      split at h
      · rename_i hf; exact flatCase hf h
      · cases h
    | rdl b =>
      simp only [byRef] at h
      split at h
      · rename_i hf; exact flatCase hf h
      · cases h
    | dct ks b =>
      simp only [byRef] at h
      split at h
      · rename_i hf; exact flatCase hf h
      · cases h
    | dcT ks b =>
      simp only [byRef] at h
      split at h
      · rename_i hf; exact flatCase hf h
      · cases h
    | tuk b =>
      simp only [byRef] at h
      split at h
      · rename_i hf; exact flatCase hf h
      · cases h
theorem mapM_some {α β : Type} {f : α → Option β} : ∀ {l : List α} {r : List β}, l.mapM f = some r → r.length = l.length ∧ ∀ (j : Nat) x, l[j]? = some x → ∃ y, r[j]? = some y ∧ f x = some y
  | [], r, h => by
    simp at h
    subst h
    exact ⟨rfl, by simp⟩
  | x :: l, r, h => by
    rw [List.mapM_cons] at h
    cases e : f x with
    | none => rw [e] at h; cases h
    | some y =>
      rw [e] at h
      cases e2 : l.mapM f with
      | none => rw [e2] at h; cases h
      | some ys =>
        rw [e2] at h
        cases h
        obtain ⟨h1, h2⟩ := mapM_some e2
        refine ⟨by simp [h1], fun j z hj => ?_⟩
        cases j with
        | zero => simp at hj; subst hj; exact ⟨y, rfl, e⟩
        | succ j => exact h2 j z (by simpa using hj)
theorem setAll_len : ∀ (S : List D) (ns : List Nat) (T : List D), (setAll S ns T).length = S.length
  | S, [], _ => by cases ‹List D› <;> rfl
  | S, n :: ns, [] => rfl
  | S, n :: ns, d :: T => by
    show (setAll (S.set n d) ns T).length = _
    rw [setAll_len, List.length_set]
theorem setAll_get : ∀ {S : List D} {ns : List Nat} {T : List D} (m : Nat), ns.Nodup → T.length = ns.length → (∀ n ∈ ns, n < S.length) → (setAll S ns T)[m]? = match ns.idxOf? m with | some j => T[j]? | none => S[m]?
  | S, [], T, m, _, _, _ => by cases T <;> simp [setAll]
  | S, n :: ns, [], m, _, hl, _ => by simp at hl
  | S, n :: ns, d :: T, m, hn, hl, hb => by
    obtain ⟨h1, h2⟩ := List.nodup_cons.mp hn
    show (setAll (S.set n d) ns T)[m]? = _
    rw [setAll_get m h2 (by simpa using hl) (fun k hk => by rw [List.length_set]; exact hb k (List.mem_cons_of_mem _ hk))]
    rw [List.idxOf?_cons]
    by_cases hm : n = m
    · subst hm
      have : ns.idxOf? n = none := by rw [List.idxOf?_eq_none_iff]; exact h1
      rw [this]
      simp only [BEq.rfl, if_true]
      rw [List.getElem?_set_self (hb n List.mem_cons_self)]
      rfl
    · have hb' : (n == m) = false := by simpa using hm
      rw [hb']
      cases e : ns.idxOf? m with
      | none => simp [List.getElem?_set_ne hm]
      | some j => simp
theorem back_ok {g : G} {w1 wc wc' : W} {S1 S' : List D} {ns : List Nat} (G1 : Good w1) (rs : RS g w1 S1) (hn : ns.Nodup) (hb : ∀ n ∈ ns, n < w1.rhA.length) (hH : wc.H = w1.H) (hthA : wc.thA = w1.thA)
    (hrhA : wc.rhA.length = ns.length) (hrhA2 : ∀ (j n : Nat), ns[j]? = some n → wc.rhA[j]? = w1.rhA[n]?) (x : Ext wc wc') (hr : wc'.rhA = wc.rhA) (G' : Good wc') (rs' : RS g wc' S') (hl : S'.length = ns.length) (hf : S'.all D.flat = true) :
    Ext w1 ⟨wc'.thA, w1.rhA, wc'.H⟩ ∧ Good ⟨wc'.thA, w1.rhA, wc'.H⟩ ∧ RS g ⟨wc'.thA, w1.rhA, wc'.H⟩ (setAll S1 ns S') := by
  have sub : ∀ a, a ∈ wc.rhA → a ∈ w1.rhA := fun a ha => by
    obtain ⟨j, hj⟩ := List.mem_iff_getElem?.mp ha
    have hjl : j < ns.length := by rw [← hrhA]; exact (List.getElem?_eq_some_iff.mp hj).1
    have e := hrhA2 j ns[j] (List.getElem?_eq_getElem hjl)
    rw [hj] at e
    exact List.mem_of_getElem? e.symm
  have x1 : Ext w1 ⟨wc'.thA, w1.rhA, wc'.H⟩ := by
    refine ⟨⟨[], by simp, by simp⟩, fun a h => x.th1 a (by rw [hthA]; exact h), fun a h => ?_, fun a o h n => (x.kp a o (by rw [hH]; exact h) fun z => n (sub a z)).imp id (fun ⟨nt, q⟩ => ⟨by rw [← hthA]; exact nt, q⟩), fun a h => x.al a (by rw [hH]; exact h)⟩
    rcases x.th2 a h with z | z
    · rw [hthA] at z; exact .inl z
    · rw [hH] at z; exact .inr z
  have G1' : Good ⟨wc'.thA, w1.rhA, wc'.H⟩ := ⟨G1.nd, fun a h => x.th1 a (by rw [hthA]; exact G1.sub a h), G'.al, G'.nt⟩
  refine ⟨x1, G1', by rw [setAll_len]; exact rs.1, fun m d e => ?_⟩
  rw [setAll_get m hn hl (fun n h => by rw [rs.1]; exact hb n h)] at e
  cases q : ns.idxOf? m with
  | some j =>
    rw [q] at e
    simp only at e
    have hj : ns[j]? = some m := by
      have := List.idxOf?_eq_some_iff.mp q
      obtain ⟨hlt, hq, _⟩ := this
      rw [List.getElem?_eq_getElem hlt]
      simpa using hq
    obtain ⟨a, h1, h2⟩ := rs'.2 j d e
    refine ⟨a, ?_, h2.flatW (weak_take (w := wc') (w' := ⟨wc'.thA, w1.rhA, wc'.H⟩) rfl fun _ z => z) (allFlat hf e) rfl⟩
    show w1.rhA[m]? = some a
    rw [← hrhA2 j m hj, ← hr]
    exact h1
  | none =>
    rw [q] at e
    simp only at e
    have hm : m ∉ ns := by rwa [List.idxOf?_eq_none_iff] at q
    obtain ⟨a, h1, h2⟩ := rs.2 m d e
    refine ⟨a, h1, h2.mono G1 x1 ?_⟩
    have na : a ∉ wc.rhA := fun ha => by
      obtain ⟨j, hj⟩ := List.mem_iff_getElem?.mp ha
      have hjl : j < ns.length := by rw [← hrhA]; exact (List.getElem?_eq_some_iff.mp hj).1
      have e := hrhA2 j ns[j] (List.getElem?_eq_getElem hjl)
      rw [hj] at e
      have := nd_ix G1.nd h1 e.symm
      exact hm (by rw [this]; exact List.getElem_mem hjl)
    show wc'.H a = w1.H a
    rcases none_or (H := w1.H) a with z | ⟨o, z⟩
    · exact absurd z h2.there
    · rw [z]; exact x.kpT (by rw [hH]; exact z) na (by rw [hthA]; exact G1.sub a (List.mem_of_getElem? h1))
structure Fok (P : Program) (wd : World) (g : G) (base : Heap) (k : Nat) (x : Str) (np : Nat) (F : MF) : Prop where
  ex : ∃ (f : Addr) (fd : FuncData) (ps : List Str), FnOk P wd g.K g.mg base (L2.CX P wd) k f fd ps (spF g np F) ∧ g.mg x = some (.ref f) ∧ PySem.W.keepIn g.K (.ref f) = true ∧ Binds g.K fd ps []
theorem Fok.mono {P : Program} {wd : World} {g : G} {base : Heap} {j k : Nat} {x : Str} {np : Nat} {F : MF} (h : Fok P wd g base j x np F) (hk : j ≤ k) : Fok P wd g base k x np F := by
  obtain ⟨f, fd, ps, a, b⟩ := h.ex
  exact ⟨f, fd, ps, a.mono hk, b⟩
section
variable {X : Cx} {Wx : WX} {pos : Pos}
theorem allSnd : ∀ {fs : List (Str × D)}, fs.all (fun p => p.2.flat) = true → D.flats (fs.map (·.2)) = true
  | [], _ => rfl
  | p :: fs, f => by
    rw [List.all_cons, Bool.and_eq_true] at f
    simp only [List.map_cons, D.flats, Bool.and_eq_true]
    exact ⟨f.1, allSnd f.2⟩
theorem RX.flatW {g : G} {w w' : W} (k : Weak w w') {c : Str} {fs : List (Str × D)} {cls : Value} {dx : Option Addr} (f : fs.all (fun p => p.2.flat) = true) (h : RX g w c fs cls dx) : RX g w' c fs cls dx := by
  obtain ⟨C, h1, h2, h3⟩ := h
  refine ⟨C, h1, h2, h3.imp id fun ⟨d, vs, e0, e, hd, n, r⟩ => ⟨d, vs, e0, e, k.H d _ hd n, k.thA d _ hd n, RDs.flatW k _ _ ?_ r⟩⟩
  exact allSnd f
theorem callUse {np : Nat} {F : MF} (hnp : True) : ∀ (σ : L2.St) (w1 : W) (ds S1 : List D) (vs : List V) (Q : VK), Good w1 → RDs X.g w1 ds vs → RS X.g w1 S1 → ds.length = np → PR X.g Wx σ w1 (RD X.g) Q (callF F ds S1) → spF X.g np F vs w1.H Q (WE Wx σ) := fun σ w1 ds S1 vs Q G1 r rs hl p => by
  unfold callF at p
  split at p
  · exact p.elim
  · rename_i ds' ns hb
    obtain ⟨n1, n2, n3, n4⟩ := byRef_ok 0 hb r
    split at p
    · exact p.elim
    · rename_i Sc hm
      obtain ⟨m1, m2⟩ := mapM_some hm
      split at p
      · rename_i hfl
        have hrhA : ∀ (j n : Nat), ns[j]? = some n → (ns.map fun n => w1.rhA.getD n 0)[j]? = w1.rhA[n]? := fun j n hj => by
          have hn := n2 n (List.mem_of_getElem? hj)
          rw [List.getElem?_map, hj, Option.map_some, List.getD_eq_getElem?_getD, List.getElem?_eq_getElem hn]
          rfl
        have r' := n4 (ns.map fun n => w1.rhA.getD n 0) (fun j n hj => by rw [Nat.zero_add]; exact hrhA j n hj)
        have Gc : Good ⟨w1.thA, ns.map fun n => w1.rhA.getD n 0, w1.H⟩ := by
          refine ⟨?_, fun a ha => ?_, G1.al, G1.nt⟩
          · show (ns.map fun n => w1.rhA.getD n 0).Nodup
            refine List.pairwise_map.mpr (List.Pairwise.imp_of_mem (fun {a b} ha hb hab e => hab ?_) n1)
            have b1 := n2 a ha
            have b2 := n2 b hb
            rw [List.getD_eq_getElem?_getD, List.getD_eq_getElem?_getD, List.getElem?_eq_getElem b1, List.getElem?_eq_getElem b2] at e
            exact nd_ix G1.nd (List.getElem?_eq_getElem b1) (by rw [List.getElem?_eq_getElem b2]; exact congrArg some e.symm)
          · obtain ⟨n, hn, rfl⟩ := List.mem_map.mp ha
            have hb := n2 n hn
            apply G1.sub
            rw [List.getD_eq_getElem?_getD, List.getElem?_eq_getElem hb]
            exact List.getElem_mem hb
        have rsc : RS X.g ⟨w1.thA, ns.map fun n => w1.rhA.getD n 0, w1.H⟩ Sc := by
          refine ⟨by rw [m1, List.length_map], fun j d e => ?_⟩
          have hj : j < ns.length := by rw [← m1]; exact (List.getElem?_eq_some_iff.mp e).1
          obtain ⟨y, hy, hy2⟩ := m2 j ns[j] (List.getElem?_eq_getElem hj)
          rw [e] at hy
          cases hy
          obtain ⟨a, h1, h2⟩ := rs.2 ns[j] d hy2
          refine ⟨a, ?_, h2.flatW (weak_take (w := w1) (w' := ⟨w1.thA, ns.map fun n => w1.rhA.getD n 0, w1.H⟩) rfl fun _ z => z) (allFlat hfl e) rfl⟩
          show (ns.map fun n => w1.rhA.getD n 0)[j]? = some a
          rw [hrhA j ns[j] (List.getElem?_eq_getElem hj)]
          exact h1
        refine ⟨⟨w1.thA, ns.map fun n => w1.rhA.getD n 0, w1.H⟩, ds', Sc, rfl, Gc, r', rsc, by rw [n3]; exact hl, ?_⟩
        cases hF : F ds' Sc with
        | bad => rw [hF] at p; exact p.elim
        | exc c fs S' =>
          rw [hF] at p
          simp only at p
          split at p
          · rename_i hh
            intro cls dx wc' x hr G' rx rs'
            obtain ⟨b1, b2, b3⟩ := back_ok (wc := ⟨w1.thA, ns.map fun n => w1.rhA.getD n 0, w1.H⟩) G1 rs n1 n2 rfl rfl (by show (ns.map _).length = _; rw [List.length_map]) hrhA x hr G' rs' hh.1 hh.2.1
            exact p cls dx ⟨wc'.thA, w1.rhA, wc'.H⟩ b1 b2 (RX.flatW (weak_take (w := wc') (w' := ⟨wc'.thA, w1.rhA, wc'.H⟩) rfl fun _ z => z) hh.2.2 rx) b3
          · exact p.elim
        | ok d S' =>
          rw [hF] at p
          simp only at p
          split at p
          · rename_i hh
            intro v wc' x hr G' rd rs'
            obtain ⟨b1, b2, b3⟩ := back_ok (wc := ⟨w1.thA, ns.map fun n => w1.rhA.getD n 0, w1.H⟩) G1 rs n1 n2 rfl rfl (by show (ns.map _).length = _; rw [List.length_map]) hrhA x hr G' rs' hh.2.1 hh.2.2
            exact p v ⟨wc'.thA, w1.rhA, wc'.H⟩ b1 b2 (RD.flatW (weak_take (w := wc') (w' := ⟨wc'.thA, w1.rhA, wc'.H⟩) rfl fun _ z => z) _ _ hh.1 rd) b3
          · exact p.elim
      · exact p.elim
theorem de_call {x : Str} {k j np : Nat} {F : MF} {p : Pos} {e : Expr} {es : List Expr} {mr : MA} (h : Fok X.prog X.w X.g X.base k x np F) (hk : k ≤ j) (hr : Room j X.A) (tk : Takes X Wx) (hg : Gl X x) (hln : (e :: es).length = np) (ha : PA X (e :: es) (TAof X.g Wx mr))
    (hdb : (x == ("__debug__" : Str)) = false := by decide) (he : starEach (e :: es) X.env = (false, eval e X.env) :: starEach es X.env := by rfl) (hpl : (backTo pos (starEach es X.env)).any (·.1) = false := by rfl)
    (hlen : ∀ E S ds S', mr E S = .ok ds S' → ds.length = np) : PE X (.Call (.Name x p) (e :: es) [] pos) (TEof X.g Wx (eArgs (callF F) mr)) := by
  obtain ⟨f, fd, ps, hF, hm, kp, b⟩ := h.ex
  refine peImp (pe_callS hF (hr.mono hk) hg hm kp b (fun σ => passAt tk σ) ha hdb he hpl) fun σ H Q ⟨w, E, S, a, p⟩ => ?_
  refine ⟨w, E, S, a, ?_⟩
  have p' : PR X.g Wx σ w (RD X.g) Q ((mr E S).bind fun xs S1 => callF F xs S1) := p
  cases hm : mr E S with
  | bad => rw [hm] at p'; exact p'.elim
  | exc c fs S1 => rw [hm] at p'; exact p'
  | ok ds S1 =>
    rw [hm] at p'
    intro vs w1 x1 G1 r rs
    have p2 : PR X.g Wx σ w1 (RD X.g) Q (callF F ds S1) := PR.at p' x1
    exact callUse trivial σ w1 ds S1 vs Q G1 r rs (hlen _ _ _ _ hm) p2
theorem alen_nil : ∀ E S ds S', aNil E S = .ok ds S' → ds.length = 0 := fun E S ds S' h => by cases h; rfl
theorem alen_cons {ma : ME} {mr : MA} {n : Nat} (h : ∀ E S ds S', mr E S = .ok ds S' → ds.length = n) : ∀ E S ds S', aCons ma mr E S = .ok ds S' → ds.length = n + 1 := fun E S ds S' q => by
  unfold aCons at q
  cases e : ma E S with
  | bad => rw [e] at q; cases q
  | exc c fs S1 => rw [e] at q; cases q
  | ok d S1 =>
    rw [e] at q
    simp only [bind_ok] at q
    cases e2 : mr E S1 with
    | bad => rw [e2] at q; cases q
    | exc c fs S2 => rw [e2] at q; cases q
    | ok es S2 =>
      rw [e2] at q
      cases q
      simp [h _ _ _ _ e2]
/-! ### defs -/
theorem fz_ok {g : G} {w w1 : W} (G0 : Good w) (G1 : Good w1) (x : Ext w w1) {S : List D} (rs : RS g w1 S) : ∀ (n : Nat) (d d' : D) (v : V), fz w.rhA.length S n d = some d' → RD g w1 d v → RD g ⟨w.thA, w.rhA, w1.H⟩ d' v
  | 0, _, _, _, h, _ => by cases h
  | n + 1, d, d', v, h, r => by
    have kw : Weak w1 ⟨w.thA, w.rhA, w1.H⟩ := weak_take rfl x.th1
    unfold fz at h
    split at h
    · rename_i hf
      cases h
      exact RD.flatW kw _ _ hf r
    · have many : ∀ (ds ds' : List D) (vs : List V), ds.mapM (fz w.rhA.length S n) = some ds' → RDs g w1 ds vs → RDs g ⟨w.thA, w.rhA, w1.H⟩ ds' vs := fun ds => by
        induction ds with
        | nil =>
          intro ds' vs e r
          simp at e
          subst e
          cases r
          rfl
        | cons d0 ds ih =>
          intro ds' vs e r
          obtain ⟨u, us, rfl, r1, r2⟩ := r
          rw [List.mapM_cons] at e
          cases e1 : fz w.rhA.length S n d0 with
          | none => rw [e1] at e; cases e
          | some d1 =>
            rw [e1] at e
            cases e2 : ds.mapM (fz w.rhA.length S n) with
            | none => rw [e2] at e; cases e
            | some ds1 =>
              rw [e2] at e
              cases e
              exact RDs.cons (fz_ok G0 G1 x rs n d0 d1 u e1 r1) (ih ds1 us e2 r2)
      split at h
      · rename_i m _
        split at h
        · cases h
        · rename_i hm
          obtain ⟨a, rfl, ha⟩ := r
          have nthA : ¬ w.thA a := fun z => by
            obtain ⟨τ, e1, f1⟩ := x.rho
            rw [e1, List.getElem?_append_right (by omega)] at ha
            have := f1 a (List.mem_of_getElem? ha)
            exact G0.al a z this
          split at h
          · rename_i ds e
            cases q : ds.mapM (fz w.rhA.length S n) with
            | none => rw [q] at h; cases h
            | some ds1 =>
              rw [q] at h
              cases h
              obtain ⟨vs, h1, h2⟩ := rs.obj ha e
              exact ⟨a, vs, rfl, h1, nthA, many _ _ _ q h2⟩
          · rename_i ks ds e
            cases q : ds.mapM (fz w.rhA.length S n) with
            | none => rw [q] at h; cases h
            | some ds1 =>
              rw [q] at h
              cases h
              obtain ⟨vs, h1, l, h2⟩ := rs.obj ha e
              exact ⟨a, vs, rfl, .inl h1, l, nthA, many _ _ _ q h2⟩
          · rename_i ks ds e
            cases q : ds.mapM (fz w.rhA.length S n) with
            | none => rw [q] at h; cases h
            | some ds1 =>
              rw [q] at h
              cases h
              obtain ⟨vs, h1, l, h2⟩ := rs.obj ha e
              exact ⟨a, vs, rfl, .inl h1, l, nthA, many _ _ _ q h2⟩
          · cases h
      · rename_i ds _
        cases q : ds.mapM (fz w.rhA.length S n) with
        | none => rw [q] at h; cases h
        | some ds1 =>
          rw [q] at h
          cases h
          obtain ⟨a, vs, rfl, t, r2⟩ := r
          exact ⟨a, vs, rfl, kw.tup t, many _ _ _ q r2⟩
      · rename_i ds _
        cases q : ds.mapM (fz w.rhA.length S n) with
        | none => rw [q] at h; cases h
        | some ds1 =>
          rw [q] at h
          cases h
          obtain ⟨a, vs, rfl, t, nn, r2⟩ := r
          exact ⟨a, vs, rfl, t, fun z => nn (x.th1 a z), many _ _ _ q r2⟩
      · cases h
theorem ret_ext {w w1 : W} (x : Ext w w1) : Ext w ⟨w.thA, w.rhA, w1.H⟩ := ⟨⟨[], by simp, by simp⟩, fun _ h => h, fun _ h => .inl h, x.kp, x.al⟩
theorem ret_good {w w1 : W} (G0 : Good w) (G1 : Good w1) (x : Ext w w1) : Good ⟨w.thA, w.rhA, w1.H⟩ := ⟨G0.nd, G0.sub, fun a h => x.al a (G0.al a h), fun a h => G1.nt a (x.th1 a h)⟩
theorem ret_store {g : G} {w w1 : W} {S1 : List D} (x : Ext w w1) (rs : RS g w1 S1) (hn : w.rhA.length ≤ S1.length) (hf : (S1.take w.rhA.length).all D.flat = true) : RS g ⟨w.thA, w.rhA, w1.H⟩ (S1.take w.rhA.length) := by
  obtain ⟨τ, e1, f1⟩ := x.rho
  refine take_store (w := w1) (weak_take rfl x.th1) rfl ?_ hn hf rs
  show w.rhA = w1.rhA.take w.rhA.length
  rw [e1, List.take_append_of_le_length (Nat.le_refl _), List.take_of_length_le (Nat.le_refl _)]
theorem RE.start {g : G} {w : W} {ds : List D} {vs : List V} (r : RDs g w ds vs) (nn : Nat) : RE g w (ds.map some ++ List.replicate (nn - ds.length) none) (vs.map some ++ List.replicate (nn - vs.length) none) := by
  have hl := r.length
  refine ⟨by simp [hl], fun i d e => ?_⟩
  by_cases hi : i < ds.length
  · rw [List.getElem?_append_left (by simpa using hi), List.getElem?_map, List.getElem?_eq_getElem hi] at e
    simp only [Option.map_some, Option.some.injEq] at e
    obtain ⟨v, h1, h2⟩ := r.get (List.getElem?_eq_getElem hi)
    subst e
    refine ⟨v, ?_, h2⟩
    rw [List.getElem?_append_left (by simpa [hl] using hi), List.getElem?_map, h1]
    rfl
  · rw [List.getElem?_append_right (by simpa using hi), List.getElem?_replicate] at e
    split at e <;> cases e
structure Ctx (X : Cx) (Wx : WX) (k : Nat) : Prop where
  tk : Takes X Wx
  po : PassesOwn (model X.prog X.w) X.A X.env X.xe
  calm : X.calm = true
  hr : Room k X.A
theorem Ctx.u1 {X : Cx} {Wx : WX} {k : Nat} (c : Ctx X Wx k) : X.A.units + 1 < cLine := hu_of c.hr
theorem Ctx.u64 {X : Cx} {Wx : WX} {k : Nat} (c : Ctx X Wx k) : X.A.units + 64 < cLine := c.hr.units
theorem Ctx.blk {X : Cx} {Wx : WX} {k : Nat} (c : Ctx X Wx k) (s : Shared) (H : Hp) (scope : Scope) (ce : PySem.Env) (fp : List Addr) : Ctx (X.blk s H scope ce fp) W0 k := ⟨takes0, PassesOwn.never, c.calm, c.hr⟩
abbrev bodyCx (P : Program) (wd : World) (K : PySem.W.Frag) (mg : Str → Option Value) (base : Heap) (N : List Str) (x : Str) (st : Stmt) (f : Addr) (cdv : Value) (A : Around) (outer : List PySem.Env) (s : Shared) (H : Hp) (E : XK) : Cx := cxOf (L2.CX P wd) P wd K mg base N x (defScope st) f cdv A outer s H E
theorem fn_ok {P : Program} {wd : World} {K : PySem.W.Frag} {mg : Str → Option Value} {base : Heap} {x : Str} {st : Stmt} {f : Addr} {fd : FuncData} {N ps : List Str} {k np nn : Nat} {mb : MS} (F : Fun K x x st f fd) (S : FnScope N ps (defScope st))
    (hbody : ∀ (cdv : Value) (A : Around) (outer : List PySem.Env) (s : Shared) (H : Hp) (E : XK), Ctx (bodyCx P wd K mg base N x st f cdv A outer s H E) (fun cls d _ H => E cls d H) k → PSs (bodyCx P wd K mg base N x st f cdv A outer s H E) (defBody st) (TSof ⟨K, mg⟩ (fun cls d _ H => E cls d H) mb))
    (hnp : ps.length = np := by rfl) (hnn : N.length = nn := by rfl) : FnOk P wd K mg base (L2.CX P wd) (k + 1) f fd ps (spF ⟨K, mg⟩ np (fnF np nn mb)) := by
  subst hnp hnn
  refine F.okX S (spF_len rfl) (fun cdv A outer s H vs Q E hr h => ?_)
  obtain ⟨w, ds, S0, rfl, G0, r, rs, hl, p⟩ := h
  refine ⟨_, hbody cdv A outer s w.H E ⟨takes_of rfl rfl rfl rfl, passes_of rfl, rfl, hr⟩, ?_⟩
  have hn : w.rhA.length = S0.length := rs.1.symm
  refine ⟨w, ds.map some ++ List.replicate (N.length - ds.length) none, S0, ⟨rfl, G0, RE.start r N.length, rs⟩, ?_⟩
  unfold fnF at p
  rw [if_pos hl] at p
  rw [hl]
  cases hb : mb (ds.map some ++ List.replicate (N.length - ps.length) none) S0 with
  | bad => rw [hb] at p; exact p.elim
  | bk E S => rw [hb] at p; exact p.elim
  | ct E S => rw [hb] at p; exact p.elim
  | nx E1 S1 =>
    rw [hb] at p
    simp only [retF] at p
    rw [← hn] at p
    split at p
    · rename_i hh
      split at p
      · rename_i d' hd
        intro σ' w1 x G1 re rs1
        exact p .non ⟨w.thA, w.rhA, w1.H⟩ (ret_ext x) rfl (ret_good G0 G1 x) (fz_ok G0 G1 x rs1 8 .non d' .non hd rfl) (ret_store x rs1 hh.1 hh.2)
      · exact p.elim
    · exact p.elim
  | rt d S1 =>
    rw [hb] at p
    simp only [retF] at p
    rw [← hn] at p
    split at p
    · rename_i hh
      split at p
      · rename_i d' hd
        intro v w1 x G1 rd rs1
        exact p v ⟨w.thA, w.rhA, w1.H⟩ (ret_ext x) rfl (ret_good G0 G1 x) (fz_ok G0 G1 x rs1 8 d d' v hd rd) (ret_store x rs1 hh.1 hh.2)
      · exact p.elim
    · exact p.elim
  | exc c fs E1 S1 =>
    rw [hb] at p
    simp only [excF] at p
    rw [← hn] at p
    split at p
    · rename_i hh
      intro cls dx σ' w1 x G1 rx re rs1
      exact p cls dx ⟨w.thA, w.rhA, w1.H⟩ (ret_ext x) rfl (ret_good G0 G1 x) (RX.flatW (weak_take (w := w1) (w' := ⟨w.thA, w.rhA, w1.H⟩) rfl x.th1) hh.2.2 rx) (ret_store x rs1 hh.1 hh.2.1)
    · exact p.elim
theorem fok_of {P : Program} {wd : World} {K : PySem.W.Frag} {mg : Str → Option Value} {base : Heap} {x : Str} {st : Stmt} {f : Addr} {fd : FuncData} {N ps : List Str} {k np nn : Nat} {mb : MS} (F : Fun K x x st f fd) (S : FnScope N ps (defScope st)) (hm : mg x = some (.ref f)) (b : Binds K fd ps [])
    (hbody : ∀ (cdv : Value) (A : Around) (outer : List PySem.Env) (s : Shared) (H : Hp) (E : XK), Ctx (bodyCx P wd K mg base N x st f cdv A outer s H E) (fun cls d _ H => E cls d H) k → PSs (bodyCx P wd K mg base N x st f cdv A outer s H E) (defBody st) (TSof ⟨K, mg⟩ (fun cls d _ H => E cls d H) mb))
    (hnp : ps.length = np := by rfl) (hnn : N.length = nn := by rfl) : Fok P wd ⟨K, mg⟩ base (k + 1) x np (fnF np nn mb) := ⟨f, fd, ps, fn_ok F S hbody hnp hnn, hm, F.kp, b⟩
end
end J
set_option Elab.async false
set_option linter.all false
set_option maxRecDepth 100000
set_option maxHeartbeats 1000000
namespace J
open PySem PySem.Spec PyProof.Rows L2
section
variable {X : Cx} {Wx : WX} {pos : Pos}
theorem kit_all : ∀ t ∈ ["NoneType", "bool", "int", "str", "tuple", "list", "dict"], ∀ n ∈ isiNames, kitB t n = some (isiB t n) := by decide +kernel
def TyW (K : PySem.W.Frag) (H : Hp) (x : V) (t : Value) : Prop := TyX K H x t ∨ ∃ a kvs, x = .ref a ∧ Rd H a (.dK kvs) ∧ t = .type "dict"
theorem kit_w {pins : List (Addr × Obj)} {σ : L2.St} {H : Hp} {s : Shared} {x : V} {u t : Value} (I : Inv X pins σ H s) (rx : RelV x u) (ty : TyW X.K H x t) : ∃ P : Heap → Prop, PySem.W.KitX X.K u t P ∧ P s.heap ∧ u ≠ .builtin "__main__.__loader__#opaque" := by
  rcases ty with ty | ⟨a, kvs, rfl, ea, rfl⟩
  · exact kit_of I rx ty
  · cases (show u = Value.ref a from rx)
    obtain ⟨_, _, vs, _, p⟩ := dk_rd I.hok ea
    obtain ⟨o, es, ep, h1, h2, _⟩ := p
    exact ⟨_, PySem.W.kitx_dict, ⟨o, h1, h2.1⟩, fun z => nomatch z⟩
theorem call_isiW : CallR X (.builtin "isinstance") (fun xs H Q => ∃ (x c : V) (t u : Value) (b : Bool), xs = [x, c] ∧ ClsV c u ∧ TyW X.K H x t ∧ PySem.W.kitOne X.K t u = some b ∧ Q (.bl b) H) := by
  intro pins s σ H xs us Q I r h
  obtain ⟨x, c, t, u, b, rfl, k, ty, e, q⟩ := h
  obtain ⟨u1, u2, rfl, r1, r2⟩ := vals2 r
  have e2 := k.eq r2
  subst e2
  obtain ⟨P, Z, p, hx⟩ := kit_w I r1 ty
  exact PySem.W.kia_one Z I.kIn p e hx fun tk => ⟨.bl b, H, I.tok tk, rfl, q⟩
theorem tyX_of {g : G} {w : W} {S : List D} {d : D} {v : V} {t : String} (rs : RS g w S) (r : RD g w d v) (h : tyOf S d = some t) : TyW g.K w.H v (.type t) ∧ t ∈ ["NoneType", "bool", "int", "str", "tuple", "list", "dict"] := by
  cases d with
  | non => cases h; cases r; exact ⟨.inl (.base .non), by decide⟩
  | bl b => cases h; cases r; exact ⟨.inl (.base (.bl b)), by decide⟩
  | int b => cases h; cases r; exact ⟨.inl (.base (.int b)), by decide⟩
  | str b => cases h; cases r; exact ⟨.inl (.base (.str b)), by decide⟩
  | ty b => cases h
  | tup ds =>
    cases h
    obtain ⟨a, vs, rfl, t, r⟩ := r
    exact ⟨.inl (.base (.tup t.1)), by decide⟩
  | lst ds =>
    cases h
    obtain ⟨a, vs, rfl, t, _, r⟩ := r
    exact ⟨.inl (.base (.lst t)), by decide⟩
  | rdl ds =>
    cases h
    obtain ⟨a, vs, rfl, t, r⟩ := r
    rcases t with ⟨t | ⟨o, t⟩, _⟩ | ⟨o, its, n, hk, hc, _⟩
    · exact ⟨.inl (.base (.lst t)), by decide⟩
    · exact ⟨.inl (.base (.frz t)), by decide⟩
    · exact ⟨.inl (.kList hk hc), by decide⟩
  | dct ks ds =>
    cases h
    obtain ⟨a, vs, rfl, t, _, r⟩ := r
    exact ⟨.inr ⟨a, _, rfl, t, rfl⟩, by decide⟩
  | dcT ks ds => cases h
  | tuk ds =>
    cases h
    obtain ⟨a, vs, o, rfl, t, _, _, r⟩ := r
    exact ⟨.inl (.fTuple t), by decide⟩
  | loc n =>
    obtain ⟨a, rfl, ha⟩ := r
    unfold tyOf at h
    simp only at h
    split at h
    · rename_i ds e
      cases h
      obtain ⟨vs, t, _⟩ := rs.obj ha e
      exact ⟨.inl (.base (.lst t)), by decide⟩
    · rename_i ks ds e
      cases h
      obtain ⟨vs, t, _⟩ := rs.obj ha e
      exact ⟨.inl (.base (.dK t)), by decide⟩
    · cases h
theorem jc_isi {n : String} (hn : n ∈ isiNames) {a c : Expr} {ma : ME} {x : Str} {p : Pos} (ha : PE X a (TEof X.g Wx ma)) (hcl : PE X c (tC (.ty n))) (hg : Gl X "isinstance") (hm : X.mg "isinstance" = none)
    (he : starEach [a, c] X.env = (false, eval a X.env) :: starEach [c] X.env := by rfl) (hes : starEach [c] X.env = (false, eval c X.env) :: starEach [] X.env := by rfl) (hpl : (backTo pos (starEach [c] X.env)).any (·.1) = false := by rfl) : PE X (.Call (.Name "isinstance" p) [a, c] [] pos) (TEof X.g Wx (eUn (oIsi [n]) ma)) := by
  refine peImp (pe_callB (call_isiW (X := X)) hg hm (by decide +kernel) (pa_cons ha (pa_cons hcl pa_nil hes) he) (by decide) (by decide) he hpl) fun σ H Q ⟨w, E, S, a, p⟩ => ?_
  refine ⟨w, E, S, a, PR.imp (PR.bind a.good a.env p) fun x H1 ⟨w1, d, S1, a1, x1, r1, p1⟩ => ?_⟩
  unfold oIsi at p1
  split at p1
  · rename_i t e
    obtain ⟨h1, h2⟩ := tyX_of a1.sto r1 e
    have q := putSame p1 a1.good a1.sto rfl
    rw [a1.hp] at q h1
    refine ⟨x, .ty n, .type t, .type n, isiB t n, rfl, .ty n, h1, kit_ty (kit_all t h2 n hn), ?_⟩
    simpa using q
  · exact p1.elim
/-! a new dict -/
/-! three names at once -/
end
end J
set_option Elab.async false
set_option linter.all false
set_option maxRecDepth 100000
set_option maxHeartbeats 1000000
namespace J
open PySem PySem.Spec PyProof.Rows L2
section
variable {X : Cx} {Wx : WX} {pos : Pos}
end
end J
set_option Elab.async false
set_option linter.all false
set_option maxRecDepth 100000
set_option maxHeartbeats 1000000
namespace J
open PySem PySem.Spec PyProof.Rows L2
section
variable {X : Cx} {Wx : WX} {pos : Pos}
theorem dss_never {sts : List Stmt} : PSs X sts (TSof X.g Wx sNever) := pssImp pss_never fun D σ H ⟨w, E, S, a, p⟩ => p
/-! max and min of ints -/
theorem hold_ints {h : Heap} : ∀ {ns : List Int} {us : List Value}, Vals (ns.map V.int) us → PySem.W.HoldAll h us ns
  | [], _, .nil => PySem.W.HoldAll.nil
  | n :: ns, _, .cons r rs => by
    obtain ⟨t, rfl⟩ := r
    exact PySem.W.HoldAll.cons (PySem.W.holds_int n t) (hold_ints rs)
/-! list(range(n)) -/
theorem ints_rg {g : G} {w : W} : ∀ (n : Nat) (f : Nat → Int), RDs g w ((List.range n).map fun i => D.int (f i)) ((List.range n).map fun i => V.int (f i)) := by
  intro n
  induction n with
  | zero => intro f; rfl
  | succ n ih =>
    intro f
    rw [List.range_succ, List.map_append, List.map_append]
    exact (ih f).append (RDs.one rfl)
end
end J
set_option Elab.async false
set_option linter.all false
set_option maxRecDepth 100000
set_option maxHeartbeats 1000000
namespace J
open PySem PySem.Spec PyProof.Rows L2
section
variable {X : Cx} {Wx : WX} {pos : Pos}
/-! any and all -/
theorem scals_len : ∀ {ds : List D} {bs : List Bool}, scals ds = some bs → bs.length = ds.length
  | [], bs, h => by cases h; rfl
  | d :: ds, bs, h => by
    simp only [scals, Option.bind_eq_some_iff, Option.map_eq_some_iff] at h
    obtain ⟨b, _, bs', h2, rfl⟩ := h
    simp [scals_len h2]
theorem scals_get {g : G} {w : W} : ∀ {ds : List D} {vs : List V} {us : List Value} {bs : List Bool}, RDs g w ds vs → Vals vs us → scals ds = some bs → ∀ (i : Nat) (u : Value), us[i]? = some u → ∃ b, bs[i]? = some b ∧ ((u = .bool b) ∨ ∃ n t, u = .int n t ∧ b = (n != 0))
  | [], _, us, bs, r, rv, h, i, u, e => by
    cases r
    cases rv
    simp at e
  | d :: ds, vs, us, bs, r, rv, h, i, u, e => by
    obtain ⟨v, vs', rfl, r1, r2⟩ := r
    cases rv with
    | cons q qs =>
      simp only [scals, Option.bind_eq_some_iff, Option.map_eq_some_iff] at h
      obtain ⟨b, h1, bs', h2, rfl⟩ := h
      cases i with
      | zero =>
        simp at e
        subst e
        refine ⟨b, rfl, ?_⟩
        cases d with
        | bl c => cases r1; cases h1; cases q; exact .inl rfl
        | int n =>
          cases r1
          cases h1
          obtain ⟨t, rfl⟩ := q
          exact .inr ⟨n, t, rfl, rfl⟩
        | _ => simp [scal] at h1
      | succ i =>
        obtain ⟨c, h3, h4⟩ := scals_get r2 qs h2 i u (by simpa using e)
        exact ⟨c, by simpa using h3, h4⟩
theorem truth_scals {prog : Program} {w : World} {A : Around} {bs : List Bool} {its : List Value} (e : ∀ (i : Nat) (u : Value), its[i]? = some u → ∃ b, bs[i]? = some b ∧ ((u = .bool b) ∨ ∃ n t, u = .int n t ∧ b = (n != 0))) :
    TruthOf prog w A (fun i v => its.toArray[i]? = some v) (fun i => bs.getD i false) := fun i v s Q E hv hq => by
  have hv' : its[i]? = some v := by simpa using hv
  obtain ⟨b, hb, h⟩ := e i v hv'
  have hg : bs.getD i false = b := by rw [List.getD_eq_getElem?_getD, hb] <;> rfl
  have hq' : Q (bs.getD i false) s := hq
  rw [hg] at hq'
  rcases h with rfl | ⟨n, t, rfl, rfl⟩
  · exact wpAny_truthy_bool hq'
  · exact PySem.P.truthy_int hq'
theorem jc_all (hc : X.calm = true) : CallR X (.builtin "all") (argOf X.g bAll) := by
  intro pins s σ H xs us Q I r ⟨Wx, σ', w, S, ds, hH, G, rs, r1, p⟩
  subst hH
  unfold bAll at p
  split at p
  · obtain ⟨v, rfl, r2⟩ := r1.one'
    split at p
    · rename_i xs e
      split at p
      · rename_i bs e2
        obtain ⟨a, vs, rfl, t, r3⟩ := r2.lstAt rs e
        obtain ⟨its, rv, hl, _⟩ := I.list (SqL.of t)
        rw [Vals.ref1 r]
        have hlen : its.length = bs.length := by rw [← rv.length, r3.length, scals_len e2]
        refine call_all_walk (iter_any hl.isList fun s₂ e2' st hne => ?_)
        subst e2'
        refine ⟨_, _, _, _, _, _, _, rfl, Walks.list (A := X.A.in1) (I.ok.hd hc) _ a hne its.toArray, st, truth_scals (scals_get r3 rv e2), fun h' tk hk => ?_⟩
        refine ⟨.bl (bs.all id), w.H, I.kept fun b o eo => hk b o (fun hmem => ?_) (Heap.get?_push_of_some _ eo), ?_, putSame p G rs rfl⟩
        · rcases List.mem_cons.mp hmem with e1 | hmem
          · exact absurd (e1 ▸ Heap.lt_size eo) (Nat.lt_irrefl _)
          · cases hmem
        · show Value.bool _ = Value.bool _
          rw [← L2.all_range, List.size_toArray, hlen]
      · exact p.elim
    · exact p.elim
  · exact p.elim
/-! {k: v} -/
/-! try: .. (no exception comes), x, o[i] = e -/
theorem Ctx.nox {X : Cx} {Wx : WX} {k : Nat} (c : Ctx X Wx k) : Ctx X.nox W0 k := ⟨takes0, PassesOwn.never, c.calm, c.hr⟩
theorem ds_try {body : List Stmt} {h₀ : ExceptHandler} {hs : List ExceptHandler} {mb : MS} (hb : PSs X.nox body (TSof X.g W0 mb)) : PS X (.Try body (h₀ :: hs) [] [] pos) (TSof X.g Wx (sTry mb)) := by
  refine psImp (ps_try_thru0 (h₀ := h₀) (hs := hs) hb) fun D σ H ⟨w, E, S, a, p⟩ => ⟨w, E, S, a, ?_⟩
  unfold sTry at p
  cases hm : mb E S with
  | exc c fs E1 S1 => rw [hm] at p; exact p.elim
  | bad => rw [hm] at p; exact p.elim
  | nx E1 S1 => rw [hm] at p; exact p
  | rt d S1 => rw [hm] at p; exact p
  | bk E1 S1 => rw [hm] at p; exact p
  | ct E1 S1 => rw [hm] at p; exact p
end
end J
set_option Elab.async false
set_option linter.all false
set_option maxRecDepth 100000
set_option maxHeartbeats 1000000
namespace J
open PySem PySem.Spec PyProof.Rows L2
/-! xs[::-1] of a list or tuple -/
section
variable {prog : Program} {w : World} {A : Around} {E : Value → Shared → Prop} {s : Shared}
theorem rev_adj (n : Nat) : Builtin.Slice.sliceAdjust none none (-1) (n : Int) = ((n : Int) - 1, -1) := by
  unfold Builtin.Slice.sliceAdjust
  simp
theorem rev_places (n : Nat) : Builtin.Slice.slicePlaces ((n : Int) - 1) (-1) (-1) = n := by
  unfold Builtin.Slice.slicePlaces
  have h1 : ¬ ((-1 : Int) > 0) := by decide
  rw [if_neg h1]
  by_cases h : (n : Int) - 1 > -1
  · rw [if_pos h, show (- -1 : Int) = 1 by decide, Int.ediv_one]
    omega
  · rw [if_neg h]
    omega
theorem fm_congr {α β : Type} {f g : α → Option β} : ∀ (l : List α), (∀ a ∈ l, f a = g a) → l.filterMap f = l.filterMap g
  | [], _ => rfl
  | a :: l, h => by
    rw [List.filterMap_cons, List.filterMap_cons, h a List.mem_cons_self, fm_congr l fun b hb => h b (List.mem_cons_of_mem _ hb)]
theorem rev_pick (xs : Array Value) : ((List.range xs.size).filterMap fun (k : Nat) => xs[((xs.size : Int) - 1 + (k : Int) * (-1)).toNat]?).toArray = xs.toList.reverse.toArray := by
  congr 1
  have e : ∀ k ∈ List.range xs.size, xs[((xs.size : Int) - 1 + (k : Int) * (-1)).toNat]? = xs.toList.reverse[k]? := by
    intro k hk
    have hk' := List.mem_range.mp hk
    have hx : ((xs.size : Int) - 1 + (k : Int) * (-1)).toNat = xs.size - 1 - k := by omega
    rw [hx]
    rw [List.getElem?_reverse (by simpa using hk')]
    simp only [Array.length_toList, Array.getElem?_toList]
  rw [fm_congr _ e]
  have : ∀ (ys : List Value), (List.range ys.length).filterMap (fun k => ys[k]?) = ys := by
    intro ys
    induction ys with
    | nil => rfl
    | cons y ys ih =>
      rw [List.length_cons, List.range_succ_eq_map, List.filterMap_cons]
      simp only [List.getElem?_cons_zero]
      rw [List.filterMap_map]
      simpa [Function.comp_def] using ih
  have h2 := this xs.toList.reverse
  rw [List.length_reverse, Array.length_toList] at h2
  exact h2
theorem getItem_tuple_rev {t sl : Addr} {items : Array Value} {vl vu vs : Value} {Q : Value → Shared → Prop} (ht : IsTup s.heap t items) (hs : s.heap.IsSliceOf sl vl vu vs) (pl : IsPart vl none) (pu : IsPart vu none) (ps : IsPart vs (some (-1)))
    (h : Q (.ref s.heap.objs.size) { s with heap := s.heap.push { cls := .type "tuple", data := .seq items.toList.reverse.toArray } })
    (hsz : items.size ≤ sizeLine) : wpAny (model prog w) A (getItem (.ref t) (.ref sl)) Q E s := by
  have htake : sizeOk (.seq items.toList.reverse.toArray) := by
    show items.toList.reverse.toArray.size ≤ sizeLine
    rw [List.size_toArray, List.length_reverse, Array.length_toList]
    exact hsz
  obtain ⟨os, hos, hcs, hds⟩ := id hs
  have hTs : s.TypeIs (.ref sl) "slice" := ⟨os, hos, hcs⟩
  unfold getItem
  try with_reducible refine wpAny_holding ?_
  first | refine wpAny_bind (wpAny_pure ?_) | skip
  refine wpAny_bind (wpAny_sequenceKey ht.typeIs (by decide) ?_)
  refine wpAny_bind (wpAny_callSpecial?_slot (name := Str.ofString "__getitem__") ht.typeIs PyProof.Rows.slot_tuple_getitem
    (wpAny_call_entry PyProof.Rows.slot_tuple_getitem ht.typeIs entry_tuple_getitem ?_ (args_tuple_getitem _ _)))
  show wpAny _ _ (Builtin.Tuple.tupleItemsOf (.ref t) >>= _) _ _ s
  refine wpAny_bind (tupleItemsOf_ ht ?_)
  refine wpAny_bind (wpAny_typeOf hTs ?_)
  rw [if_pos (by decide)]
  refine wpAny_bind ?_
  unfold Builtin.Slice.sliceApplied Builtin.Slice.sliceFields
  refine wpAny_bind (wpAny_bind (wpAny_field hos hds (x := vl) rfl (wpAny_bind (wpAny_field hos hds (x := vu) rfl (wpAny_bind (wpAny_field hos hds (x := vs) rfl (wpAny_pure ?_)))))))
  refine wpAny_bind (HT.slicePart_ ps ?_)
  show wpAny _ _ (if ((-1 : Int) == 0) = true then _ else _) _ _ s
  rw [if_neg (by decide)]
  refine wpAny_bind (HT.slicePart_ pl (wpAny_bind (HT.slicePart_ pu (wpAny_bind (wpAny_pure ?_)))))
  show wpAny _ _ (match Builtin.Slice.sliceAdjust none none (-1) ((items.size : Nat) : Int) with | (lo, hi) => pure (lo, (-1 : Int), Builtin.Slice.slicePlaces lo hi (-1))) _ _ s
  rw [rev_adj]
  show wpAny _ _ (pure (((items.size : Nat) : Int) - 1, (-1 : Int), Builtin.Slice.slicePlaces (((items.size : Nat) : Int) - 1) (-1) (-1))) _ _ s
  rw [rev_places]
  refine wpAny_pure ?_
  show wpAny _ _ (if ((((items.size : Nat) : Int) - 1) == 0 && (-1 : Int) == 1 && items.size == items.size) = true then _ else _) _ _ s
  rw [if_neg (by simp), rev_pick]
  first
    | exact wpAny_bind (m := Builtin.Tuple.tupleExact _) (wpAny_newObj_type (wpAny_pure ⟨_, rfl, wpAny_pure h⟩) htake)
    | exact wpAny_bind (m := Builtin.Tuple.tupleExact _) (wpAny_newObj_type (wpAny_bind (wpAny_pure (wpAny_pure ⟨_, rfl, wpAny_pure h⟩))) htake)
    | exact wpAny_bind (wpAny_bind (m := Builtin.Tuple.tupleExact _) (wpAny_newObj_type (wpAny_pure (wpAny_pure ⟨_, rfl, wpAny_pure h⟩)) htake))
    | exact wpAny_bind (wpAny_bind (m := Builtin.Tuple.tupleExact _) (wpAny_newObj_type (wpAny_pure ⟨_, rfl, wpAny_pure h⟩) htake))
end
section
variable {X : Cx} {Wx : WX} {pos : Pos}
def tRevA (K : PySem.W.Frag) (te : TE) : TE := fun σ H Q => te σ H fun x H1 => ∃ a xs, x = .ref a ∧ ((SqL K H1 a xs ∧ ∀ p, H1 p = none → Q (.ref p) (upd H1 p (.lst xs.reverse))) ∨ (SqT K H1 a xs ∧ ∀ p, H1 p = none → Q (.ref p) (upd H1 p (.tup xs.reverse))))
theorem pe_revA {e : Expr} {te : TE} {k : Nat} {p1 p2 p3 pos : Pos} (he : PE X e te) : PE X (.Subscript e (.Slice none none (some (.UnaryOp .USub (.Constant (.int 1) k p1) p2)) p3) pos) (tRevA X.K te) := by
  refine ⟨fun pins s σ H Q I h => ?_⟩
  refine Subscript_ (thn (he.run pins s σ H _ I h) fun v s1 ⟨x, H1, I1, r1, q1⟩ => ?_)
  obtain ⟨a, xs, ex, q⟩ := q1
  subst ex
  cases r1
  have hst : PO X (some (.UnaryOp .USub (.Constant (.int 1) k p1) p2)) (tPart (tUn (rU fun i => .int (-i)) (tC (.int 1)))) := po_some (pe_un un_neg pe_int)
  refine wpAny_Slice (thn (po_none.run pins s1 σ H1 (fun o H2 => o = none ∧ H2 = H1) I1 ⟨rfl, rfl⟩) fun vl s2 ⟨l, H2, I2, pl, el, e2⟩ => ?_)
  subst el e2
  refine thn (po_none.run pins s2 σ H2 (fun o H3 => o = none ∧ H3 = H2) I2 ⟨rfl, rfl⟩) fun vu s3 ⟨u, H3, I3, pu, eu, e3⟩ => ?_
  subst eu e3
  refine thn (hst.run pins s3 σ H3 (fun o H4 => o = some (-1) ∧ H4 = H3) I3 ⟨1, rfl, -1, rfl, rfl, rfl⟩) fun vs s4 ⟨o, H4, I4, ps, eo, e4⟩ => ?_
  subst eo e4
  have I5 : Inv X pins σ H4 { s4 with heap := s4.heap.push { cls := .type "slice", data := .fields #[vl, vu, vs] } } := I4.kept (t' := s4.toks) fun b ob q => Heap.get?_push_of_some _ q
  show wpAny (model X.prog X.w) X.A (subscriptTail e (.Slice none none (some (.UnaryOp .USub (.Constant (.int 1) k p1) p2)) p3) (.ref a) (.ref s4.heap.objs.size)) (EP X pins σ Q) X.xe { s4 with heap := s4.heap.push { cls := .type "slice", data := .fields #[vl, vu, vs] } }
  rcases q with ⟨hx, q⟩ | ⟨hx, q⟩
  · obtain ⟨its, r, ht, hz⟩ := I5.list hx
    have hlen := r.length
    refine tail_any (ops := [.ref a, .ref s4.heap.objs.size]) ht.isList.typeIs (PySem.slot_list_getitem.lookup) ?_ (by with_unfolding_all rfl)
    refine wpAny_getItem_list_slice ht.isList (Heap.IsSliceOf.new _ vl vu vs) pl pu ps (by decide) ?_ (by rw [List.size_toArray]; omega)
    rw [PySem.W.krv_pick]
    refine ⟨.ref _, _, I5.laid (t' := s4.toks) (o := .lst xs.reverse) (fun b ob q => Heap.get?_push_of_some _ q) (Nat.le_refl _) ?_, rfl, q _ (I5.hok.fresh (Nat.le_refl _))⟩
    exact ⟨by rw [List.length_reverse]; exact hz, _, 0, r.reverse, Heap.get?_push_size _ rfl⟩
  · obtain ⟨its, r, ht, hz⟩ := I5.tuple hx
    have hlen := r.length
    refine tail_any (ops := [.ref a, .ref s4.heap.objs.size]) ht.typeIs (PyProof.Rows.slot_tuple_getitem.lookup) ?_ (by with_unfolding_all rfl)
    refine getItem_tuple_rev ht (Heap.IsSliceOf.new _ vl vu vs) pl pu ps ?_ (by rw [List.size_toArray]; omega)
    refine ⟨.ref _, _, I5.laid (t' := s4.toks) (o := .tup xs.reverse) (fun b ob q => Heap.get?_push_of_some _ q) (Nat.le_refl _) ?_, rfl, q _ (I5.hok.fresh (Nat.le_refl _))⟩
    exact ⟨by rw [List.length_reverse]; exact hz, _, r.reverse, IsTup.new _ _⟩
theorem RDs.rev {g : G} {w : W} : ∀ {ds : List D} {vs : List V}, RDs g w ds vs → RDs g w ds.reverse vs.reverse
  | [], vs, r => by
    cases r
    exact rfl
  | d :: ds, vs, r => by
    obtain ⟨v, vs', rfl, r1, r2⟩ := r
    rw [List.reverse_cons, List.reverse_cons]
    exact r2.rev.append (RDs.one r1)
theorem de_rev {e : Expr} {ma : ME} {k : Nat} {p1 p2 p3 pos : Pos} (he : PE X e (TEof X.g Wx ma)) : PE X (.Subscript e (.Slice none none (some (.UnaryOp .USub (.Constant (.int 1) k p1) p2)) p3) pos) (TEof X.g Wx (eRev ma)) := by
  refine peImp (pe_revA he) fun σ H Q ⟨w, E, S, a, p⟩ => ?_
  refine ⟨w, E, S, a, PR.imp (PR.bind a.good a.env p) fun x H1 ⟨w1, d, S1, a1, x1, r1, p1⟩ => ?_⟩
  unfold oRev at p1
  rw [← a1.hp]
  split at p1
  · obtain ⟨q, vs, rfl, t, r⟩ := r1
    exact ⟨q, vs, rfl, .inr ⟨t.sq, fun z hz => new_tup p1 a1.good a1.sto r.rev z hz⟩⟩
  · split at p1
    · rename_i ds e2
      obtain ⟨q, vs, rfl, t, r⟩ := r1.lstAt a1.sto e2
      exact ⟨q, vs, rfl, .inl ⟨SqL.of t, fun z hz => new_lst p1 a1.good a1.sto r.rev z hz⟩⟩
    · exact p1.elim
/-! sorted of ints, of a tuple too -/
end
section
variable {prog : Program} {w : World} {A : Around} {E : Value → Shared → Prop} {s : Shared}
open SrtO in
end
section
variable {X : Cx} {Wx : WX} {pos : Pos}
/-! bool(x) -/
/-! t.count(k), ints -/
/-! t * 0 -/
theorem tuple_mulW0 (l : Addr) (items : Array Value) (n : Nat) (dd : Option Addr) (sl : Array (Option Value)) (u : Tok) (hi : items.isEmpty = false) :
    Meets (Builtin.«tuple.__mul__» ⟨[.ref l, .int 0 u], []⟩) (fun _ R s => s.heap.get? l = some { cls := .type "tuple", dict := dd, data := .seq items n, slots := sl } ∧
      R (.ok (.ret (Value.ref s.heap.objs.size))) { s with heap := s.heap.push { cls := Value.type "tuple", data := Data.seq #[] }, toks := s.toks }) :=
  .of_wp fun prog w A R s h => by
    obtain ⟨hp, g, d, tk, os⟩ := s
    obtain ⟨hl, h⟩ := h
    have f1 := AutoSeq1.idx_int
    have c0 : (decide ((0 : Int) < -(2 ^ 63)) || decide ((0 : Int) ≥ 2 ^ 63)) = false := by decide
    have c1 : (items.isEmpty || (0 : Int) == 1) = false := by rw [hi]; rfl
    have c2 : (decide ((0 : Int) ≤ 0) || items.isEmpty) = true := by simp
    wp_walk using wpAny_loadPart' hl
    repeat (first
      | (refine wpAny_ite_false (decide_eq_false (by rw [c0]; exact Bool.false_ne_true)) ?_; wp_walk using wpAny_loadPart' hl)
      | (refine wpAny_ite_false (decide_eq_false (by rw [c1]; exact Bool.false_ne_true)) ?_; wp_walk using wpAny_loadPart' hl)
      | (refine wpAny_ite_true (decide_eq_true (by rw [c2])) ?_; wp_walk using wpAny_loadPart' hl))
    exact ⟨_, rfl, h⟩
theorem op_repT0 : OpR X (binaryOp .Mult) (fun x y H Q => ∃ l xs, x = .ref l ∧ y = .int 0 ∧ SqT X.K H l xs ∧ xs ≠ [] ∧ ∀ p, H p = none → Q (.ref p) (upd H p (.tup []))) := by
  intro pins s σ H x y v u Q I rx ry h
  obtain ⟨l, xs, rfl, rfl, hT, hne, q⟩ := h
  cases rx
  obtain ⟨t, rfl⟩ := ry
  obtain ⟨its, r, ⟨⟨cls, dd, data, sl⟩, ho, hc, n, hd⟩, hs⟩ := I.tuple hT
  simp only at hc hd
  subst hc hd
  have hi : its.toArray.isEmpty = false := by
    cases its with
    | nil => cases r; exact absurd rfl hne
    | cons a b => rfl
  refine wpAny_binaryOp_repeat_ref (T := "tuple") (U := "int") (by decide) ⟨_, ho, rfl⟩ (fun s' => typeIs_int s' 0 t) noFill_tuple_mul F.fills_int_mul F.slot_int_rmul repeat_tuple F.slot_int_index.lookup
    (call_meets F.slot_int_rmul (typeIs_int s 0 t) F.entry_int_rmul (F.args_int_rmul_2 _ _) (int_rmul_tuple 0 t l its.toArray n dd sl)
      ⟨ho, rfl, ⟨_, ho, rfl⟩, call_meets F.slot_tuple_mul ⟨_, ho, rfl⟩ F.entry_tuple_mul (F.args_tuple_mul_2 _ _) (tuple_mulW0 l its.toArray n dd sl t hi) ⟨ho, ?_⟩⟩)
  exact ⟨.ref _, _, I.laid (t' := s.toks) (o := .tup []) (fun b ob q => Heap.get?_push_of_some _ q) (Nat.le_refl _) ⟨Nat.zero_le _, [], .nil, IsTup.new _ _⟩, rfl, q _ (I.hok.fresh (Nat.le_refl _))⟩
theorem jo_mulT : OpR X (binaryOp .Mult) (opOf X.g oMulT) := by
  intro pins s σ H x y v u Q I rx ry ⟨Wx, σ', w, S, d, e, hH, G, rs, r1, r2, p⟩
  unfold oMulT at p
  split at p
  · split at p
    · rename_i xs hne
      subst hH
      cases r2
      obtain ⟨a, vs, rfl, ta, ra⟩ := r1
      refine op_repT0 pins s σ _ _ _ v u Q I rx ry ⟨a, vs, rfl, rfl, ta.sq, fun z => hne ?_, new_tup p G rs rfl⟩
      have := ra.length
      rw [z] at this
      exact List.eq_nil_of_length_eq_zero this.symm
    · exact p.elim
  · exact jo_mul pins s σ H x y v u Q I rx ry ⟨Wx, σ', w, S, d, e, hH, G, rs, r1, r2, p⟩
end
end J
set_option Elab.async false
set_option linter.all false
set_option maxRecDepth 100000
set_option maxHeartbeats 1000000
namespace J
open PySem PySem.Spec PyProof.Rows L2
section
variable {X : Cx} {Wx : WX} {pos : Pos}
/-! min(d) -/
/-! d.get(k, x) -/
/-! is True -/
/-! tuple(range(n)) -/
end
end J
set_option Elab.async false
set_option linter.all false
set_option maxRecDepth 100000
set_option maxHeartbeats 1000000
namespace J
open PySem PySem.Spec PyProof.Rows L2
/-! for .. in d.items() -/
section
variable {X : Cx} {Wx : WX}
def tFz (te : TE) : TE := fun σ H Q => te σ H fun x H1 => ∃ d kvs, x = .ref d ∧ Rd H1 d (.dK kvs) ∧ (∀ o, H1 d = some (.dK kvs) → Q x (upd H1 d (.frz o (.dK kvs)))) ∧ ∀ o, H1 d = some (.frz o (.dK kvs)) → Q x H1
/-! x *= y -/
/-! gcd, lcm -/
end
end J
set_option Elab.async false
set_option linter.all false
set_option maxRecDepth 100000
set_option maxHeartbeats 1000000
namespace J
open PySem PySem.Spec PyProof.Rows L2
section
variable {X : Cx} {Wx : WX} {pos : Pos}
/-! is not True -/
/-! min(xs, default=None) -/
/-! any(xs), of a tuple too -/
end
end J
set_option Elab.async false
set_option linter.all false
set_option maxRecDepth 100000
set_option maxHeartbeats 1000000
namespace J
open PySem PySem.Spec PyProof.Rows L2
/-! dicts whose keys are tuples -/
theorem dctT_some {S : List D} {d : D} {ks : List (List Ky)} {xs : List D} (h : dctT S d = some (ks, xs)) : d = .dcT ks xs ∨ ∃ n, d = .loc n ∧ S[n]? = some (.dcT ks xs) := by
  unfold dctT at h
  split at h
  · cases h
    exact .inl rfl
  · split at h
    · rename_i n _ _ _ e
      cases h
      exact .inr ⟨_, rfl, e⟩
    · cases h
  · cases h
theorem RD.dctTAt {g : G} {w : W} {S : List D} {d : D} {v : V} {ks : List (List Ky)} {xs : List D} (rs : RS g w S) (r : RD g w d v) (h : dctT S d = some (ks, xs)) : ∃ p vs, v = .ref p ∧ Rd w.H p (.dT (ks.zip vs)) ∧ ks.length = vs.length ∧ RDs g w xs vs := by
  rcases dctT_some h with rfl | ⟨n, rfl, e⟩
  · obtain ⟨p, vs, rfl, t, l, _, r⟩ := r
    exact ⟨p, vs, rfl, t, l, r⟩
  · obtain ⟨p, rfl, hp⟩ := r
    obtain ⟨vs, h1, l, h2⟩ := rs.obj hp e
    exact ⟨p, vs, rfl, .inl h1, l, h2⟩
theorem valT_zip {g : G} {w : W} : ∀ {ks : List (List Ky)} {ds : List D} {vs : List V} (k : List Ky), ks.length = vs.length → RDs g w ds vs →
    (∀ d, getT ks ds k = some d → ∃ v, valV (ks.zip vs) k = some v ∧ RD g w d v) ∧ (getT ks ds k = none → valV (ks.zip vs) k = none)
  | [], ds, vs, k, l, r => ⟨fun d h => by simp [getT] at h, fun h => rfl⟩
  | q :: ks, [], vs, k, l, r => by
    have := r.length
    rw [← l] at this
    simp at this
  | q :: ks, e :: ds, _, k, l, r => by
    obtain ⟨v, vs, rfl, r1, r2⟩ := r
    have ih := valT_zip (ks := ks) (ds := ds) (vs := vs) k (by simpa using l) r2
    simp only [getT]
    rw [List.zip_cons_cons]
    by_cases hq : q = k
    · rw [if_pos hq]
      exact ⟨fun d h => by cases h; exact ⟨v, valV_pos hq, r1⟩, fun h => by cases h⟩
    · rw [if_neg hq, valV_neg hq]
      exact ih
section
variable {X : Cx} {Wx : WX} {pos : Pos}
/-! {k: v} -/
def tDispT (tk tv : TE) : TE := fun σ H Q => ∀ p, H p = none → tk σ (upd H p (.dT [])) fun x H1 => tv σ H1 fun y H2 => H2 p = some (.dT []) ∧ ∃ (k : List Key) (b : Addr), x = .ref b ∧ H2 b = some (.tup (k.map kV)) ∧ Q (.ref p) (upd H2 p (.dT [(k, y)]))
theorem pe_dispT {k v : Expr} {tk tv : TE} (hu : X.A.units < cLine) (hk : PE X k tk) (hv : PE X v tv) : PE X (.Dict [some k] [v] pos) (tDispT tk tv) := by
  refine ⟨fun pins s σ H Q I q => ?_⟩
  have hn := I.hok.fresh (Nat.le_refl s.heap.objs.size)
  have I1 := I.laid (a := s.heap.objs.size) (o := .dT []) (h' := s.heap.push { cls := .type "dict", data := .dict #[] }) (t' := s.toks) (fun _ _ q => Heap.get?_push_of_some _ q) (Nat.le_refl _) (dt_empty s.heap I.big)
  rw [arm_eval_Dict, zip_pairTrees [some k] [v] X.env pos rfl rfl, dictDisplay_pairs (pairTrees [some k] [v] X.env pos) (by simp [pairTrees]) (by simp [pairTrees])]
  refine wpAny_bind (wpAny_standAt (wpAny_bind ?_))
  unfold subDict
  refine wpAny_bind (wpAny_alloc ?_)
  refine wpAny_bind (wpAny_holding ?_)
  rw [if_pos (by simp [pairTrees])]
  refine wpAny_bind (pairTrees_cons_walk (thn (hk.run pins _ σ _ _ I1 (q _ hn)) fun u s2 ⟨x, H1, I2, rx, q1⟩ => thn (hv.run pins s2 σ H1 _ I2 q1) fun u2 s3 ⟨y, H2, I3, ry, q2⟩ => pairTrees_nil_walk ?_))
  obtain ⟨e, ks, b, rfl, hb, q3⟩ := q2
  cases (show u = Value.ref b from rx)
  refine wpAny_holding ?_
  rw [List.forIn_cons]
  obtain ⟨z, hd, xs, rel, dd⟩ := dt_of I3.hok e
  cases rel
  refine wpAny_bind ?_
  show wpAny _ _ ((dictSet s.heap.objs.size (Value.ref b) u2 >>= fun _ => pure (ForInStep.yield PUnit.unit)) >>= _) _ _ _
  refine wpAny_bind (wpAny_bind (wpAny_dictSet_heap (hsz := by simp) (knd := tupleKind (mixKind X.prog X.w)) hu (key_of I3.hok hb) dd fun h' dd' hs => wpAny_pure ?_))
  simp only [List.forIn_nil]
  refine wpAny_pure (wpAny_pure (wpAny_pure (wpAny_pure ?_)))
  obtain ⟨qo, es, ep, hq, h2, h3, h4, _, h5⟩ := dd'
  have hl : (putK ([] : List (List Key × V)) ks y).length ≤ sizeLine := by rw [sizeLine_eq]; simp [putK]
  refine ⟨.ref s.heap.objs.size, _, d_write (ob := .dT (putK [] ks y)) I3 (by rw [e]; exact True.intro) hs ⟨qo, hq⟩ ⟨hl, hd, _, ((KT.put (H := H2) (kvs := []) (xs := []) .nil ks hb ry).keeps fun c ys ec => ?_), qo, es, ep, hq, h2, h3, h4, h5⟩, rfl, q3⟩
  rw [upd_ne (ne_of ec e (fun z => nomatch z))]
  exact ec
/-! d.get(k, x) -/
end
/-! for k, v in d.items() -/
def ItiT (d : Addr) (o : Obj) (kvs : List (List Key × V)) : It :=
  ⟨fun i H => H d = some (.frz o (.dT kvs)) ∧ i < kvs.length, fun i H x H' => ∃ T k v q, kvs[i]? = some (k, v) ∧ x = .ref T ∧ H q = some (.tup (k.map kV)) ∧ H T = none ∧ H' = upd H T (.tup [.ref q, v]), fun i H => H d = some (.frz o (.dT kvs)) ∧ kvs.length ≤ i⟩
def iItemsT' (td : TE) : TI := fun σ H R => td σ H fun x H1 => ∃ d o kvs, x = .ref d ∧ H1 d = some (.frz o (.dT kvs)) ∧ R (ItiT d o kvs) H1
def tFzT (te : TE) : TE := fun σ H Q => te σ H fun x H1 => ∃ d kvs, x = .ref d ∧ Rd H1 d (.dT kvs) ∧ (∀ o, H1 d = some (.dT kvs) → Q x (upd H1 d (.frz o (.dT kvs)))) ∧ ∀ o, H1 d = some (.frz o (.dT kvs)) → Q x H1
section
variable {X : Cx} {Wx : WX} {pos : Pos}
end
end J
set_option Elab.async false
set_option linter.all false
set_option maxRecDepth 100000
set_option maxHeartbeats 1000000
namespace J
open PySem PySem.Spec PyProof.Rows L2
structure ExN (g : G) (c : Str) : Prop where
  ex : ∃ C : Addr, g.mg c = some (.ref C) ∧ PySem.W.excIn g.K C [.type "ValueError", .type "Exception", .type "BaseException", .type "object"] "ValueError.__new__" = true ∧ PySem.W.keepIn g.K (.ref C) = true ∧
    PySem.W.subIn g.K (.ref C) (.type "BaseException") = some true ∧ PySem.W.typeIn g.K (.ref C) = some (.type "type")
section
variable {X : Cx} {Wx : WX} {k : Nat}
structure ExT (g : G) (xB xC : Str) (kt : Str → Option Bool) : Prop where
  ex : ∃ B C : Addr, g.mg xB = some (.ref B) ∧ g.mg xC = some (.ref C) ∧ ∀ c b, kt c = some b → ∃ D, g.mg c = some (.ref D) ∧ ExcC g.K D ∧ PySem.W.kitOne g.K (.ref D) (.ref C) = some b ∧ PySem.W.exmOne g.K (.ref D) (.ref B) = some true
end
end J
set_option Elab.async false
set_option linter.all false
set_option maxRecDepth 100000
set_option maxHeartbeats 1000000
namespace J
open PySem PySem.Spec PyProof.Rows L2
section
variable {X : Cx} {Wx : WX} {pos : Pos}
def tBK (r : V → List V → Hp → VK → Prop) (to : TE) (t : TA) : TE := fun σ H Q => to σ H fun x H1 => (∃ a o ys, x = .ref a ∧ H1 a = some (.frz o (.tup ys)) ∧ o.dict = none) ∧ t σ H1 fun xs H2 => r x xs H2 Q
end
end J
set_option Elab.async false
set_option linter.all false
set_option maxRecDepth 100000
set_option maxHeartbeats 1000000
namespace J
open PySem PySem.Spec PyProof.Rows L2
section
variable {X : Cx} {Wx : WX} {pos : Pos}
end
end J
set_option Elab.async false
set_option linter.all false
set_option maxRecDepth 100000
set_option maxHeartbeats 1000000
namespace J
open PySem PySem.Spec PyProof.Rows L2
open PySem.W (alike alikeAll dataLt keyToks keyToksAll dataLe EachIs)
mutual
def D.ordB : D → Bool
  | .int _ => true
  | .tup ds => D.ordBs ds
  | _ => false
def D.ordBs : List D → Bool
  | [] => true
  | d :: ds => d.ordB && D.ordBs ds
end
mutual
theorem toks_inj : ∀ (d e : D) (r r' : List (Int ⊕ List Nat)), d.ordB = true → e.ordB = true → alike d.py e.py = true → keyToks d.py ++ r = keyToks e.py ++ r' → d = e ∧ r = r'
  | .int a, e, r, r', _, h, k, q => by
    cases e <;> simp only [D.ordB, Bool.false_eq_true] at h
    · simp only [D.py, keyToks, List.cons_append, List.nil_append, List.cons.injEq, Sum.inl.injEq] at q
      exact ⟨by rw [q.1], q.2⟩
    · simp only [D.py, alike, Bool.false_eq_true] at k
  | .tup xs, e, r, r', g, h, k, q => by
    cases e <;> simp only [D.ordB, Bool.false_eq_true] at h
    · simp only [D.py, alike, Bool.false_eq_true] at k
    · simp only [D.ordB] at g
      simp only [D.py, alike] at k
      simp only [D.py, keyToks] at q
      obtain ⟨e1, e2⟩ := toks_injs xs _ r r' g h k q
      exact ⟨by rw [e1], e2⟩
theorem toks_injs : ∀ (ds es : List D) (r r' : List (Int ⊕ List Nat)), D.ordBs ds = true → D.ordBs es = true → alikeAll (D.pys ds) (D.pys es) = true → keyToksAll (D.pys ds) ++ r = keyToksAll (D.pys es) ++ r' → ds = es ∧ r = r'
  | [], [], r, r', _, _, _, q => by
    simp only [D.pys, keyToksAll, List.cons_append, List.nil_append, List.cons.injEq] at q
    exact ⟨rfl, q.2⟩
  | [], e :: es, r, r', _, _, _, q => by
    simp [D.pys, keyToksAll] at q
  | d :: ds, [], r, r', _, _, _, q => by
    simp [D.pys, keyToksAll] at q
  | d :: ds, e :: es, r, r', g, h, k, q => by
    simp only [D.ordBs, Bool.and_eq_true] at g h
    simp only [D.pys, alikeAll, Bool.and_eq_true] at k
    simp only [D.pys, keyToksAll, List.cons_append, List.append_assoc, List.cons.injEq] at q
    obtain ⟨e1, e2⟩ := toks_inj d e _ _ g.1 h.1 k.1 q.2
    obtain ⟨e3, e4⟩ := toks_injs ds es _ _ g.2 h.2 k.2 e2
    exact ⟨by rw [e1, e3], e4⟩
end
mutual
theorem lt_py : ∀ d e : D, d.ordB = true → e.ordB = true → d.cmpb = true → e.cmpb = true → alike d.py e.py = true → d.lt e = dataLt d.py e.py
  | .int a, e, _, h, _, _, k => by
    cases e <;> simp only [D.ordB, Bool.false_eq_true] at h
    · exact (PySem.W.dataLt_int _ _).symm
    · simp only [D.py, alike, Bool.false_eq_true] at k
  | .tup xs, e, g, h, c, c', k => by
    cases e <;> simp only [D.ordB, Bool.false_eq_true] at h
    · simp only [D.py, alike, Bool.false_eq_true] at k
    · simp only [D.ordB] at g
      simp only [D.py, alike] at k
      show D.lts xs _ = dataLt (.tuple (D.pys xs)) (.tuple (D.pys _))
      rw [PySem.W.dataLt_tuple]
      exact lts_py xs _ g h c c' k
theorem lts_py : ∀ ds es : List D, D.ordBs ds = true → D.ordBs es = true → D.cmpbs ds = true → D.cmpbs es = true → alikeAll (D.pys ds) (D.pys es) = true → D.lts ds es = PyProof.Rows.lexLt itemOrd (keyToksAll (D.pys ds)) (keyToksAll (D.pys es))
  | [], [], _, _, _, _, _ => (lex_irrefl (O := itemOrd) _).symm
  | [], e :: es, _, _, _, _, _ => by
    simp only [D.lts, D.pys, keyToksAll]
    rw [PyProof.Rows.lex_diff (O := itemOrd) (by simp)]
    rfl
  | d :: ds, [], _, _, _, _, _ => by
    simp only [D.lts, D.pys, keyToksAll]
    rw [PyProof.Rows.lex_diff (O := itemOrd) (by simp)]
    rfl
  | d :: ds, e :: es, g, h, c, c', k => by
    simp only [D.ordBs, Bool.and_eq_true] at g h
    simp only [D.cmpbs, Bool.and_eq_true] at c c'
    simp only [D.pys, alikeAll, Bool.and_eq_true] at k
    simp only [D.lts, D.pys]
    rw [PySem.W.dataLt_cons k.1, py_eqv d e c.1 c'.1, lt_py d e g.1 h.1 c.1 c'.1 k.1, lts_py ds es g.2 h.2 c.2 c'.2 k.2]
end
mutual
theorem shp_ord : ∀ d e : D, d.shp e = true → d.ordB = true ∧ e.ordB = true
  | .int _, e, h => by cases e <;> simp only [D.shp, Bool.false_eq_true] at h; exact ⟨rfl, rfl⟩
  | .tup xs, e, h => by
    cases e <;> simp only [D.shp, Bool.false_eq_true] at h
    exact shps_ord xs _ h
  | .non, e, h => by cases e <;> simp [D.shp] at h
  | .bl _, e, h => by cases e <;> simp [D.shp] at h
  | .str _, e, h => by cases e <;> simp [D.shp] at h
  | .ty _, e, h => by cases e <;> simp [D.shp] at h
  | .lst _, e, h => by cases e <;> simp [D.shp] at h
  | .rdl _, e, h => by cases e <;> simp [D.shp] at h
  | .dct _ _, e, h => by cases e <;> simp [D.shp] at h
  | .dcT _ _, e, h => by cases e <;> simp [D.shp] at h
  | .tuk _, e, h => by cases e <;> simp [D.shp] at h
  | .loc _, e, h => by cases e <;> simp [D.shp] at h
theorem shps_ord : ∀ ds es : List D, D.shps ds es = true → D.ordBs ds = true ∧ D.ordBs es = true
  | [], [], _ => ⟨rfl, rfl⟩
  | [], _ :: _, h => by simp [D.shps] at h
  | _ :: _, [], h => by simp [D.shps] at h
  | d :: ds, e :: es, h => by
    simp only [D.shps, Bool.and_eq_true] at h
    obtain ⟨a, b⟩ := shp_ord d e h.1
    obtain ⟨c, f⟩ := shps_ord ds es h.2
    simp only [D.ordBs, Bool.and_eq_true]
    exact ⟨⟨a, c⟩, b, f⟩
end
mutual
theorem shp_alike : ∀ x d e : D, x.shp d = true → x.shp e = true → alike d.py e.py = true
  | .int _, d, e, h, k => by
    cases d <;> simp only [D.shp, Bool.false_eq_true] at h
    cases e <;> simp only [D.shp, Bool.false_eq_true] at k
    rfl
  | .tup xs, d, e, h, k => by
    cases d <;> simp only [D.shp, Bool.false_eq_true] at h
    cases e <;> simp only [D.shp, Bool.false_eq_true] at k
    simp only [D.py, alike]
    exact shps_alike xs _ _ h k
  | .non, d, _, h, _ => by cases d <;> simp [D.shp] at h
  | .bl _, d, _, h, _ => by cases d <;> simp [D.shp] at h
  | .str _, d, _, h, _ => by cases d <;> simp [D.shp] at h
  | .ty _, d, _, h, _ => by cases d <;> simp [D.shp] at h
  | .lst _, d, _, h, _ => by cases d <;> simp [D.shp] at h
  | .rdl _, d, _, h, _ => by cases d <;> simp [D.shp] at h
  | .dct _ _, d, _, h, _ => by cases d <;> simp [D.shp] at h
  | .dcT _ _, d, _, h, _ => by cases d <;> simp [D.shp] at h
  | .tuk _, d, _, h, _ => by cases d <;> simp [D.shp] at h
  | .loc _, d, _, h, _ => by cases d <;> simp [D.shp] at h
theorem shps_alike : ∀ xs ds es : List D, D.shps xs ds = true → D.shps xs es = true → alikeAll (D.pys ds) (D.pys es) = true
  | [], [], [], _, _ => by simp [D.pys, alikeAll]
  | [], _ :: _, _, h, _ => by simp [D.shps] at h
  | [], [], _ :: _, _, k => by simp [D.shps] at k
  | _ :: _, [], _, h, _ => by simp [D.shps] at h
  | _ :: _, _ :: _, [], _, k => by simp [D.shps] at k
  | x :: xs, d :: ds, e :: es, h, k => by
    simp only [D.shps, Bool.and_eq_true] at h k
    simp only [D.pys, alikeAll, Bool.and_eq_true]
    exact ⟨shp_alike x d e h.1 k.1, shps_alike xs ds es h.2 k.2⟩
end
structure SOk (xs : List D) : Prop where
  ord : ∀ d ∈ xs, d.ordB = true
  cmp : ∀ d ∈ xs, d.cmpb = true
  dep : ∀ d ∈ xs, d.depth ≤ 60
  alk : ∀ d ∈ xs, ∀ e ∈ xs, alike d.py e.py = true
  srt : PySem.W.Sortable (xs.map D.py)
/-! the order -/
abbrev leP (a b : D) : Bool := dataLe false D.py a b
section
variable {X : Cx} {Wx : WX} {pos : Pos}
theorem lstAny_lst {g : G} {w : W} {S : List D} {d : D} {v : V} {xs : List D} (rs : RS g w S) (r : RD g w d v) (h : lstAny S d = some xs) : ∃ p vs, v = .ref p ∧ SqL g.K w.H p vs ∧ RDs g w xs vs := by
  unfold lstAny at h
  split at h
  · cases h
    obtain ⟨p, vs, rfl, t, _, r⟩ := r
    exact ⟨p, vs, rfl, .inl (.inl t), r⟩
  · cases h
    obtain ⟨p, vs, rfl, t, r⟩ := r
    exact ⟨p, vs, rfl, t.sq, r⟩
  · rename_i n
    split at h
    · rename_i ds e
      cases h
      obtain ⟨a, rfl, ha⟩ := r
      obtain ⟨vs, h1, h2⟩ := rs.obj ha e
      exact ⟨a, vs, rfl, .inl (.inl h1), h2⟩
    · cases h
  · cases h
def Std (g : G) (w : W) (u : Value) (d : D) : Prop := ∃ x, RD g w d x ∧ RelV x u
theorem RE.drop {g : G} {w : W} {E : Env} {σ : L2.St} (h : RE g w E σ) (ids : List Nat) : RE g w (wipeE E ids) σ := by
  refine ⟨by rw [wipeE_length]; exact h.1, fun i d e => ?_⟩
  rw [wipeE_get] at e
  by_cases hi : i ∈ ids
  · rw [if_pos hi] at e
    cases q : E[i]? <;> (rw [q] at e; cases e)
  · rw [if_neg hi] at e
    exact h.2 i d e
end
end J
set_option Elab.async false
set_option linter.all false
set_option maxRecDepth 100000
set_option maxHeartbeats 1000000
namespace J
open PySem PySem.Spec PyProof.Rows L2
section
variable {X : Cx} {Wx : WX} {k : Nat}
end
abbrev tTx (t : Str) (i : Nat) : TE := fun σ H Q => tJs [tC (.str t), tFmt (tVar i)] Str.empty σ H fun out H1 => Q (.str out) H1
abbrev tIni (K : PySem.W.Frag) (f t : Str) : TS := tSeq (tDrop (tVeI K (tCons (tVar 0) (tCons (tTx t 1) tNil)))) (tOst K f (tVar 0) (tVar 1))
def spInit (K : PySem.W.Frag) (C : Addr) (f : Str) : Sp := fun vs H Q _ => ∃ (a : Addr) (i : Int), vs = [.ref a, .int i] ∧ i.natAbs.log2 < 1920 ∧ OexC K C ∧ PySem.W.findIn K (.ref C) f = some none ∧ H a = some (exo a C none) ∧
  ∀ dx, H dx = none → dx ≠ a → Q .non (upd (upd H dx (exd dx [(f, .int i)])) a (exo a C (some dx)))
structure XIn (P : Program) (wd : World) (g : G) (base : Heap) (k : Nat) (c f : Str) : Prop where
  ex : ∃ (C fI : Addr) (fd : FuncData), g.mg c = some (.ref C) ∧ OexC g.K C ∧ PySem.W.findIn g.K (.ref C) "__init__" = some (some (.ref fI)) ∧ PySem.W.typeIn g.K (.ref fI) = some (.type "function") ∧ PySem.W.findIn g.K (.ref C) f = some none ∧
    FnOk P wd g.K g.mg base CX0 k fI fd ["self", f] (spInit g.K C f) ∧ Binds g.K fd ["self", f] []
section
variable {X : Cx} {Wx : WX} {k : Nat}
def rIsE2 (K : PySem.W.Frag) (D a : Addr) (d : Option Addr) : List V → Hp → VK → Prop := fun xs H Q => ∃ (c : V) (cv : Value) (b : Bool), xs = [.ref a, c] ∧ (∀ u, RelV c u → u = cv) ∧ PySem.W.kitOne K (.ref D) cv = some b ∧ (∀ dd, d = some dd → ∃ fs, H dd = some (.xd fs)) ∧ Q (.bl b) H
structure ExTF (g : G) (xB xC f : Str) (kt : Str → Option Bool) : Prop where
  ex : ∃ B C : Addr, g.mg xB = some (.ref B) ∧ g.mg xC = some (.ref C) ∧ ∀ c b, kt c = some b → ∃ D, g.mg c = some (.ref D) ∧ ExcC g.K D ∧ PySem.W.findIn g.K (.ref D) f = some none ∧ PySem.W.kitOne g.K (.ref D) (.ref C) = some b ∧ PySem.W.exmOne g.K (.ref D) (.ref B) = some true
end
end J
set_option Elab.async false
set_option linter.all false
set_option maxRecDepth 100000
set_option maxHeartbeats 1000000
namespace J
open PySem PySem.Spec PyProof.Rows L2
section
variable {X : Cx} {Wx : WX} {pos : Pos}
theorem de_lstRg {a : Expr} {ma : ME} {p p2 pos2 : Pos} (hc : X.calm = true) (hg : Gl X "list") (hm : X.mg "list" = none) (hg2 : Gl X "range") (hm2 : X.mg "range" = none) (ha : PE X a (TEof X.g Wx ma))
    (na : starEach [a] X.env = (false, eval a X.env) :: starEach [] X.env := by rfl) (na2 : starEach [.Call (.Name "range" p2) [a] [] pos2] X.env = (false, eval (.Call (.Name "range" p2) [a] [] pos2) X.env) :: starEach [] X.env := by rfl) :
    PE X (.Call (.Name "list" p) [.Call (.Name "range" p2) [a] [] pos2] [] pos) (TEof X.g Wx (eLstRg ma)) := by
  refine peImp (pe_listRg hc hg hm (prg_1 hg2 hm2 ha na) na2) fun σ H Q ⟨w, E, S, a, p⟩ => ?_
  refine ⟨w, E, S, a, PR.imp (PR.bind a.good a.env p) fun x H1 ⟨w1, d, S1, a1, x1, r1, p1⟩ => ?_⟩
  split at p1
  · rename_i n
    split at p1
    · rename_i hn
      cases r1
      refine ⟨n, rfl, ⟨by omega, by omega, by omega, ?_, ?_⟩, fun q hq => ?_⟩
      · have := hn.2; unfold SL at this; omega
      · have := hn.2; unfold SL at this; omega
      · rw [← a1.hp] at hq ⊢
        refine new_lst p1 a1.good a1.sto ?_ q hq
        have := ints_rg (g := X.g) (w := w1) n.toNat fun i => 0 + (i : Int)
        unfold rgV
        rw [Int.sub_zero]
        simpa using this
    · exact p1.elim
  · exact p1.elim
end
end J
set_option Elab.async false
set_option linter.all false
set_option maxRecDepth 100000
set_option maxHeartbeats 1000000
namespace J
open PySem PySem.Spec PyProof.Rows L2
section
variable {X : Cx} {Wx : WX} {pos : Pos}
theorem jm_extend : MtR X "list.extend" (mtOf X.g mExtend) := by
  intro pins s σ H x xs v us Q I rx rs' ⟨Wx, σ', w, S, d, ds, hH, G, rs, r1, r2, p⟩
  subst hH
  unfold mExtend at p
  split at p
  · rename_i n y
    obtain ⟨z, rfl, r3⟩ := r2.one'
    split at p
    · rename_i ys e
      split at p
      · rename_i zs e2
        split at p
        · rename_i hl
          obtain ⟨a, vs, rfl, hp, t, r4⟩ := locUse rs r1 e
          obtain ⟨b, vz, rfl, tb, r5⟩ := r3.lstAt rs e2
          exact mt_extend pins s σ _ _ _ v us Q I rx rs' ⟨a, b, vs, vz, rfl, rfl, t, tb, by rw [r4.length, r5.length, ← sl_eq]; exact hl, putLst (d := .non) (v := .non) G rs hp (r4.append r5) rfl p⟩
        · exact p.elim
      · exact p.elim
    · exact p.elim
  · exact p.elim
end
end J
set_option Elab.async false
set_option linter.all false
set_option maxRecDepth 100000
set_option maxHeartbeats 1000000
namespace J
open PySem PySem.Spec PyProof.Rows L2
open PySem.W (alike alikeAll dataLt keyToks keyToksAll dataLe EachIs)
section
variable {X : Cx} {Wx : WX} {pos : Pos}
end
end J
set_option Elab.async false
set_option linter.all false
set_option maxRecDepth 100000
set_option maxHeartbeats 1000000
namespace J
open PySem PySem.Spec PyProof.Rows L2
section
variable {X : Cx} {Wx : WX} {k : Nat}
end
end J
set_option Elab.async false
set_option linter.all false
set_option maxRecDepth 100000
set_option maxHeartbeats 1000000
namespace J
open PySem PySem.Spec PyProof.Rows L2
/-! range down -/
section
variable {X : Cx} {Wx : WX} {tg a b c : Expr} {ma mb mc : ME} {pos : Pos}
end
/-! d.setdefault(k, x), k a tuple -/
section
variable {X : Cx} {pins : List (Addr × Obj)} {σ : L2.St} {H : Hp} {s : Shared} {a b : Addr} {r : Value} {d : V} {k : List Key} {A : Around} {E : Value → Shared → Prop}
end
def tSetd2 (td ty tx : TE) : TE := fun σ H Q => td σ H fun x H1 => ∃ a, x = .ref a ∧ IsD H1 a ∧ ty σ H1 fun y H2 => tx σ H2 fun z H3 =>
  (∃ (kvs : List (Key × V)) (k : Key), H3 a = some (.dK kvs) ∧ y = kV k ∧ kvs.length < sizeLine ∧ (∀ v, valV kvs k = some v → Q v H3) ∧ (valV kvs k = none → Q z (upd H3 a (.dK (L2.putK kvs k z))))) ∨
  ∃ (kvs : List (List Key × V)) (k : List Key) (b : Addr), H3 a = some (.dT kvs) ∧ y = .ref b ∧ H3 b = some (.tup (k.map kV)) ∧ kvs.length < sizeLine ∧ (∀ v, valV kvs k = some v → Q v H3) ∧ (valV kvs k = none → Q z (upd H3 a (.dT (L2.putK kvs k z))))
section
variable {X : Cx} {o e f : Expr} {td ty tx : TE} {apos cpos : Pos}
end
section
variable {X : Cx} {Wx : WX}
end
section
variable {X : Cx} {Wx : WX} {pos : Pos}
end
/-! an int times a tuple, a list -/
theorem int_mul_tuple (a : Int) (t : Tok) (l : Addr) (items : Array Value) (n : Nat) (dd : Option Addr) (sl : Array (Option Value)) :
    Meets (Builtin.«int.__mul__» ⟨[.int a t, .ref l], []⟩) (fun _ R s => s.heap.get? l = some { cls := .type "tuple", dict := dd, data := .seq items n, slots := sl } ∧ R (.ok (.ret Value.notImplemented)) s) :=
  .of_wp fun prog w A R s h => by
    obtain ⟨hp, g, d, tk, os⟩ := s
    obtain ⟨hl, h⟩ := h
    wp_walk using wpAny_loadPart' hl
    exact ⟨_, rfl, h⟩
section
variable {X : Cx}
theorem op_repR : OpR X (binaryOp .Mult) (fun x y H Q => ∃ l k xs, x = .int k ∧ y = .ref l ∧ H l = some (.lst xs) ∧ -(2 ^ 63) ≤ k ∧ k < 2 ^ 63 ∧ xs.length * k.toNat ≤ sizeLine ∧ ∀ p, H p = none → Q (.ref p) (upd H p (.lst (List.replicate k.toNat xs).flatten))) := by
  intro pins s σ H x y v u Q I rx ry h
  obtain ⟨l, k, xs, rfl, rfl, hH, h1, h2, hz, q⟩ := h
  cases ry
  obtain ⟨t, rfl⟩ := rx
  obtain ⟨z, its, n, r, hl, e⟩ := I.lstM hH
  have hlen : its.toArray.size * k.toNat ≤ sizeLine := by rw [List.size_toArray, ← hl]; exact hz
  have hcap : ¬ its.toArray.size * k.toNat > (2 ^ 63 - 1) / 8 := by
    have : (sizeLine : Nat) ≤ (2 ^ 63 - 1) / 8 := by decide
    omega
  have hfit : ¬ (!Builtin.List.listFitsIndex k) = true := by
    rw [fitsIndex_both h1 h2]
    exact Bool.false_ne_true
  have hlong : ¬ Builtin.List.listTooLong (its.toArray.size * k.toNat) = true := by
    rw [notLongL hlen]
    exact Bool.false_ne_true
  have hnew : List.foldl (fun x1 x2 => x1 ++ x2) #[] (List.replicate (if its.toArray.isEmpty = true then 0 else k.toNat) its.toArray) = (List.replicate k.toNat its).flatten.toArray := by
    rw [L2.size_rep]
    cases its with
    | nil => simp
    | cons a r' => rw [if_neg (by simp)]
  refine lm_binaryOp_repeat_right (T := "list") (U := "int") (by decide) (fun s' => typeIs_int s' k t) ⟨_, e, rfl⟩ F.fills_int_mul noFill_list_mul F.slot_int_mul lm_noRepeat_int repeat_list F.slot_int_index.lookup
    (call_meets F.slot_int_mul (typeIs_int s k t) F.entry_int_mul (F.args_int_mul_2 _ _) (int___mul___int_list k t l its.toArray n)
      ⟨e, rfl, ⟨_, e, rfl⟩, call_meets F.slot_list_mul ⟨_, e, rfl⟩ F.entry_list_mul (F.args_list_mul_2 _ _) (AutoListH.list___mul___list_int_3 l its.toArray n k t hfit hcap hlong) ⟨e, ?_⟩⟩)
  rw [hnew]
  exact ⟨.ref _, _, I.lnew (t' := s.toks) (r.rep k.toNat) (by rw [PyProof.Rows.lm_len_rep_flat, Nat.mul_comm]; exact hz), rfl, q _ I.fresh⟩
theorem op_repTR : OpR X (binaryOp .Mult) (fun x y H Q => ∃ l k xs, x = .int k ∧ y = .ref l ∧ SqT X.K H l xs ∧ xs ≠ [] ∧ 2 ≤ k ∧ k ≤ 1000 ∧ xs.length ≤ 1000 ∧ ∀ p, H p = none → Q (.ref p) (upd H p (.tup (List.replicate k.toNat xs).flatten))) := by
  intro pins s σ H x y v u Q I rx ry h
  obtain ⟨l, k, xs, rfl, rfl, hT, hne, h1, h2, hz, q⟩ := h
  cases ry
  obtain ⟨t, rfl⟩ := rx
  obtain ⟨its, r, ⟨⟨cls, dd, data, sl⟩, ho, hc, n, hd⟩, hs⟩ := I.tuple hT
  simp only at hc hd
  subst hc hd
  have hle : its.length = xs.length := r.length.symm
  have hi : its.toArray.isEmpty = false := by
    cases its with
    | nil => exact absurd (List.eq_nil_of_length_eq_zero hle.symm) hne
    | cons a b => rfl
  have hsz0 : its.toArray.size = xs.length := by rw [List.size_toArray, hle]
  have hm : ((its.toArray.size : Nat) : Int) * k ≤ 1000000 := by
    rw [hsz0]
    have a1 : ((xs.length : Nat) : Int) * k ≤ 1000 * k := Int.mul_le_mul_of_nonneg_right (by omega) (by omega)
    omega
  have hmul : k.toNat * xs.length ≤ 1000 * 1000 := Nat.mul_le_mul (by omega) hz
  have flen : (List.replicate k.toNat its).flatten.length ≤ sizeLine := by
    rw [PyProof.Rows.lm_len_rep_flat, hle, sizeLine_eq]
    omega
  have c0 : (decide (k < -(2 ^ 63)) || decide (k ≥ 2 ^ 63)) = false := by
    rw [decide_eq_false (by omega), decide_eq_false (by omega)] <;> rfl
  have c1 : (its.toArray.isEmpty || k == 1) = false := by
    rw [hi, Bool.false_or]
    exact beq_eq_false_iff_ne.mpr (by omega)
  have c2 : (decide (k ≤ 0) || its.toArray.isEmpty) = false := by
    rw [hi, Bool.or_false]
    exact decide_eq_false (by omega)
  have c4 : Builtin.Tuple.tupleTooMany (((its.toArray.size : Nat) : Int) * k) = false := by
    unfold Builtin.Tuple.tupleTooMany
    rw [sizeLine_eq]
    exact decide_eq_false (by omega)
  refine lm_binaryOp_repeat_right (T := "tuple") (U := "int") (by decide) (fun s' => typeIs_int s' k t) ⟨_, ho, rfl⟩ F.fills_int_mul noFill_tuple_mul F.slot_int_mul lm_noRepeat_int repeat_tuple F.slot_int_index.lookup
    (call_meets F.slot_int_mul (typeIs_int s k t) F.entry_int_mul (F.args_int_mul_2 _ _) (int_mul_tuple k t l its.toArray n dd sl)
      ⟨ho, rfl, ⟨_, ho, rfl⟩, call_meets F.slot_tuple_mul ⟨_, ho, rfl⟩ F.entry_tuple_mul (F.args_tuple_mul_2 _ _) (tuple_mulW l its.toArray n dd sl k t c0 c1 c2 (by omega) c4 (by rw [L2.size_rep, List.size_toArray]; exact flen)) ⟨ho, ?_⟩⟩)
  rw [L2.size_rep]
  refine ⟨.ref s.heap.objs.size, _, I.laid (t' := s.toks) (o := .tup (List.replicate k.toNat xs).flatten) (fun b ob q => Heap.get?_push_of_some _ q) (Nat.le_refl _) ?_, rfl, q _ (I.hok.fresh (Nat.le_refl _))⟩
  exact ⟨by rw [PyProof.Rows.lm_len_rep_flat, sizeLine_eq]; omega, _, r.rep k.toNat, IsTup.new _ _⟩
theorem jo_mulR : OpR X (binaryOp .Mult) (opOf X.g oMulR) := by
  intro pins s σ H x y v u Q I rx ry ⟨Wx, σ', w, S, d, e, hH, G, rs, r1, r2, p⟩
  subst hH
  unfold oMulR at p
  split at p
  · split at p
    · rename_i k xs h
      obtain ⟨h1, h2, h3, h4⟩ := h
      cases r1
      obtain ⟨a, vs, rfl, ta, ra⟩ := id r2
      refine op_repTR pins s σ _ _ _ v u Q I rx ry ⟨a, _, vs, rfl, rfl, ta.sq, ?_, h2, h3, by rw [ra.length]; exact h4, new_tup p G rs (ra.rep _)⟩
      intro z
      apply h1
      have := ra.length
      rw [z] at this
      exact List.eq_nil_of_length_eq_zero this.symm
    · exact p.elim
  · split at p
    · rename_i xs e1
      split at p
      · rename_i h
        cases r1
        obtain ⟨a, vs, rfl, ta, ra⟩ := r2.lstAt rs e1
        exact op_repR pins s σ _ _ _ v u Q I rx ry ⟨a, _, vs, rfl, rfl, ta, h.1, h.2.1, by rw [ra.length, ← sl_eq]; exact h.2.2, new_lst p G rs (ra.rep _)⟩
      · exact p.elim
    · exact p.elim
  · exact p.elim
end
section
variable {X : Cx} {Wx : WX} {pos : Pos}
end
/-! list(d) -/
end J
set_option Elab.async false
set_option linter.all false
set_option maxRecDepth 100000
set_option maxHeartbeats 1000000
namespace J
open PySem PySem.Spec PyProof.Rows L2
theorem keyF_some {F : MF} {d : D} {p : D × Int} (h : keyF F d = some p) : p.1 = d ∧ d.flat = true ∧ F [d] [] = .ok (.int p.2) [] := by
  unfold keyF at h
  split at h
  · rename_i hf
    split at h
    · rename_i k e
      cases h
      exact ⟨rfl, hf, e⟩
    · cases h
  · cases h
theorem keyF_all {F : MF} : ∀ {ys : List D} {ps : List (D × Int)}, ys.mapM (keyF F) = some ps → ps.length = ys.length ∧ ∀ (i : Nat) (d : D), ys[i]? = some d → ∃ k, ps[i]? = some (d, k) ∧ d.flat = true ∧ F [d] [] = .ok (.int k) []
  | [], ps, h => by
    simp at h
    subst h
    exact ⟨rfl, by simp⟩
  | y :: ys, ps, h => by
    rw [List.mapM_cons] at h
    cases e1 : keyF F y with
    | none => rw [e1] at h; cases h
    | some p =>
      rw [e1] at h
      cases e2 : ys.mapM (keyF F) with
      | none => rw [e2] at h; cases h
      | some qs =>
        rw [e2] at h
        cases h
        obtain ⟨a, b⟩ := keyF_all e2
        obtain ⟨k1, k2, k3⟩ := keyF_some e1
        refine ⟨by simp [a], fun i d hd => ?_⟩
        cases i with
        | zero =>
          simp at hd
          subst hd
          obtain ⟨p1, p2⟩ := p
          cases k1
          exact ⟨p2, rfl, k2, k3⟩
        | succ i => exact b i d (by simpa using hd)
theorem vals_at : ∀ {vs : List V} {us : List Value}, Vals vs us → ∀ (i : Nat) (u : Value), us[i]? = some u → ∃ v, vs[i]? = some v ∧ RelV v u
  | _, _, .nil, i, u, h => by simp at h
  | _, _, .cons r rs, 0, u, h => by
    simp at h
    subst h
    exact ⟨_, rfl, r⟩
  | _, _, .cons r rs, i + 1, u, h => by
    obtain ⟨v, a, b⟩ := vals_at rs i u (by simpa using h)
    exact ⟨v, by simpa using a, b⟩
theorem rds_at {g : G} {w : W} : ∀ {ds : List D} {vs : List V}, RDs g w ds vs → ∀ (i : Nat) (v : V), vs[i]? = some v → ∃ d, ds[i]? = some d ∧ RD g w d v
  | [], vs, h, i, v, e => by cases h; simp at e
  | d :: ds, vs, h, i, v, e => by
    obtain ⟨v0, r, rfl, r1, r2⟩ := h
    cases i with
    | zero =>
      simp at e
      subst e
      exact ⟨d, rfl, r1⟩
    | succ i =>
      obtain ⟨d', a, b⟩ := rds_at r2 i v (by simpa using e)
      exact ⟨d', by simpa using a, b⟩
theorem walk_vals {prog : Program} {w : World} {A : Around} (hh : A.handled = none) (I l : Addr) (hne : l ≠ I) (vs : List V) :
    WalksS prog w A I [I, l] [I] (fun a b => b = a) vs.length (fun i u => ∃ v, vs[i]? = some v ∧ RelV v u) (fun i s => ∃ its : List Value, Vals vs its ∧ s.heap.IsListIter I l i ∧ s.heap.IsList l its.toArray) where
  sub := fun b hb => by simp at hb; simp [hb]
  grefl := fun _ => rfl
  gtrans := fun _ _ _ h1 h2 => h2.trans h1
  frame := fun i s h' tk st ht hk => by
    obtain ⟨its, r, st⟩ := st
    exact ⟨its, r, (Walks.list (prog := prog) (w := w) (A := A) hh I l hne its.toArray).toS.frame i s h' tk st ht hk⟩
  item := fun i s Q E hi st hQ => by
    obtain ⟨its, r, st⟩ := st
    refine (Walks.list (prog := prog) (w := w) (A := A) hh I l hne its.toArray).toS.item i s Q E (by rw [List.size_toArray, ← r.length]; exact hi) st fun v s' hP st' m => hQ v s' ?_ ⟨its, r, st'⟩ m
    exact vals_at r i v (by simpa using hP)
  done := fun s Q E st hQ => by
    obtain ⟨its, r, st⟩ := st
    refine (Walks.list (prog := prog) (w := w) (A := A) hh I l hne its.toArray).toS.done s Q E ?_ hQ
    rw [List.size_toArray, ← r.length]
    exact st
  self := fun i s Q E st hQ => by
    obtain ⟨its, r, st⟩ := st
    exact (Walks.list (prog := prog) (w := w) (A := A) hh I l hne its.toArray).toS.self i s Q E st hQ
theorem sql_ext {g : G} {w w' : W} (hrh : w.rhA = []) (x : Ext w w') {a : Addr} {vs : List V} (h : SqL g.K w.H a vs) : SqL g.K w'.H a vs := by
  rcases h with (h | ⟨o, h⟩) | h
  · exact .inl (.inl (x.kpN h (by rw [hrh]; simp) dkt_lst))
  · exact .inl (.inr ⟨o, x.kpN h (by rw [hrh]; simp) dkt_frz⟩)
  · exact .inr h
section
variable {X : Cx} {Wx : WX} {pos : Pos}
theorem run_key {f : Addr} {fd : FuncData} {ps : List Str} {F : MF} {k : Nat} (hF : FnOk X.prog X.w X.K X.mg X.base (L2.CX X.prog X.w) k f fd ps (spF X.g 1 F)) (hr : Room k X.A.in1) (hb : Binds X.K fd ps [])
    {pins : List (Addr × Obj)} {σ : L2.St} {w : W} {s : Shared} {S : List D} {d : D} {v : V} {u : Value} {kk : Int} (I : Inv X pins σ w.H s) (G1 : Good w) (rs : RS X.g w S) (rd : RD X.g w d v) (ru : RelV v u) (fl : d.flat = true) (hk : F [d] [] = .ok (.int kk) [])
    {Q : Value → Shared → Prop} {E : Value → Shared → Prop}
    (h : ∀ (w' : W) (s' : Shared) (t : Tok), Ext w w' → Good w' → RS X.g w' S → Inv X pins σ w'.H s' → (∀ a vs, SqL X.g.K w.H a vs → SqL X.g.K w'.H a vs) → Un (frs X.stack) [] w.H w'.H s.heap s'.heap → Q (.int kk t) s') :
    wpAny (model X.prog X.w) X.A.in1 (call (.ref f) [u]) Q E s := by
  have Gc : Good ⟨w.thA, [], w.H⟩ := ⟨List.nodup_nil, fun a ha => by simp at ha, G1.al, G1.nt⟩
  have rdc : RDs X.g ⟨w.thA, [], w.H⟩ [d] [v] := ⟨v, [], rfl, RD.flatW (weak_take (w := w) (w' := ⟨w.thA, [], w.H⟩) rfl fun _ z => z) _ _ fl rd, rfl⟩
  have rsc : RS X.g ⟨w.thA, [], w.H⟩ [] := ⟨rfl, fun n d e => by simp at e⟩
  have hsp : spF X.g 1 F [v] w.H (fun y H' => ∃ wc' : W, Ext ⟨w.thA, [], w.H⟩ wc' ∧ wc'.rhA = [] ∧ Good wc' ∧ RD X.g wc' (.int kk) y ∧ RS X.g wc' [] ∧ H' = wc'.H) (fun _ _ _ => False) := by
    refine ⟨⟨w.thA, [], w.H⟩, [d], [], rfl, Gc, rdc, rsc, rfl, ?_⟩
    rw [hk]
    exact fun y w' x e g r rs => ⟨w', x, e, g, r, rs, rfl⟩
  have hl : ([u] ++ []).length = ps.length := by rw [← hF.len _ _ _ _ hsp]; rfl
  refine wpAny_call (codeAny_mono (hF.run X.A.in1 X.stack s w.H ⟨[u], []⟩ [u] [v] _ _ hr I.env0.in1 (hb s [u] I.kIn hl) (.cons ru .nil) hsp) fun r s' hq => ?_)
  cases r with
  | error e => obtain ⟨_, _, _, _, _, _, _, _, _, _, _, _, z⟩ := hq; exact z.elim
  | ok fl =>
    cases fl with
    | ret y =>
      obtain ⟨vy, H', os, bare, un, hok, ry, wc', x, hrh, g', rk, rs', rfl⟩ := id hq
      cases rk
      obtain ⟨t, rfl⟩ := ry
      obtain ⟨b1, b2, b3⟩ := back_ok (ns := []) (wc := ⟨w.thA, [], w.H⟩) G1 rs List.nodup_nil (by simp) rfl rfl rfl (by simp) x hrh g' rs' rfl rfl
      obtain ⟨_, H2, I2, _, e2⟩ := I.after (Q := fun _ H2 => H2 = wc'.H) (show CE X.stack X.prog X.w w.H s _ (.int kk t) s' from ⟨.int kk, wc'.H, os, bare, un, hok, ⟨t, rfl⟩, rfl⟩)
      subst e2
      exact h ⟨wc'.thA, w.rhA, wc'.H⟩ s' t b1 b2 b3 I2 (fun a vs hs => sql_ext (w := ⟨w.thA, [], w.H⟩) rfl x hs) un
    | next => exact False.elim hq
    | brk => exact False.elim hq
    | cont => exact False.elim hq
theorem jck_minK {f : Addr} {fd : FuncData} {ps : List Str} {F : MF} {k : Nat} (hF : FnOk X.prog X.w X.K X.mg X.base (L2.CX X.prog X.w) k f fd ps (spF X.g 1 F)) (hr : Room k X.A.in1) (hb : Binds X.K fd ps []) (hc : X.calm = true) :
    CallRK X (.builtin "min") [Str.ofString "key"] (fun vs zs H Q => zs = [.ref f] ∧ argOf X.g (bMinK F) vs H Q) := by
  intro pins s σ H vs zs us ws Q I r rz ⟨hz, Wx, σ', w, S, ds, hH, G1, rs, r1, p⟩
  subst hH
  subst hz
  obtain ⟨w1, rfl, e1⟩ := vals1 rz
  obtain rfl : w1 = Value.ref f := e1
  unfold bMinK at p
  split at p
  · obtain ⟨v, rfl, r2⟩ := r1.one'
    split at p
    · rename_i ys e
      split at p
      · rename_i q qs em
        obtain ⟨l, vs, rfl, t, r3⟩ := lstAny_lst rs r2 e
        obtain ⟨its, rv, hl, hz⟩ := I.list t
        obtain ⟨u, rfl, ru⟩ := vals1 r
        obtain rfl : u = Value.ref l := ru
        obtain ⟨km1, km2⟩ := keyF_all em
        have hvl : vs.length = ys.length := r3.length
        have hpos : vs.length = (qs.length + 1) := by rw [hvl, ← km1]; rfl
        have hlt : l < s.heap.objs.size := by obtain ⟨_, e, _⟩ := hl.isList; exact Heap.lt_size e
        refine call_min_walkK (PySem.W.iter_listW (A := X.A.in1) (by exact I.ok.hd hc) hl.isList fun s₂ es Wk st hfp hw hk => ?_)
        have sz2 : s₂.heap.objs.size = s.heap.objs.size + 1 := by subst es; exact Heap.size_push ..
        have I2 : Inv X pins σ w.H s₂ := by
          subst es
          exact I.kept (t' := s.toks) hk
        have fI : FpOk X pins w.H s.heap.objs.size := I.fpOk (Nat.le_refl _) I.fresh
        have fS : FpOk X pins w.H s₂.heap.objs.size := I.fpOk (by rw [sz2]; exact Nat.le_succ _) (I.hok.fresh (by rw [sz2]; exact Nat.le_succ _))
        refine ⟨s.heap.objs.size, [s.heap.objs.size, l], [s.heap.objs.size], (fun a b => b = a), vs.length, (fun i u => ∃ v, vs[i]? = some v ∧ RelV v u), (fun i s' => ∃ its : List Value, Vals vs its ∧ s'.heap.IsListIter s.heap.objs.size l i ∧ s'.heap.IsList l its.toArray),
          (fun s' => ∃ w' : W, Ext w w' ∧ Good w' ∧ RS X.g w' S ∧ Inv X pins σ w'.H s' ∧ SqL X.g.K w'.H l vs ∧ FpOk X pins w'.H s.heap.objs.size ∧ FpOk X pins w'.H s₂.heap.objs.size),
          (fun i kv _ => ∃ tk : Tok, kv = .int ((q :: qs).getD i (.non, 0)).2 tk),
          (fun i j => decide (((q :: qs).getD i (.non, 0)).2 < ((q :: qs).getD j (.non, 0)).2)), rfl, walk_vals (A := X.A.in1) (show X.A.in1.handled = none from I.ok.hd hc) _ l (Nat.ne_of_lt hlt) vs, ⟨its, rv, st⟩, hfp, by omega, ?_, ⟨w, Ext.refl w, G1, rs, I2, t, fI, fS⟩, ?_⟩
        · refine ⟨?_, fun _ _ _ _ h _ => h, ?_, ?_⟩
          · rintro sa sb ⟨w', x, g', rs', Ia, sq, f1, f2⟩ m
            refine ⟨w', x, g', rs', ?_, sq, f1, f2⟩
            have hg : sb.gens = sa.gens := m.gens
            have hd : sb.drawn = sa.drawn := m.drawn
            have ho : sb.os = sa.os := m.os
            have J := Ia.turnedL (h' := sb.heap) (t' := sb.toks) (ch := [s₂.heap.objs.size, s.heap.objs.size]) (fun b o hb eb => m.heap b o hb eb) (fun b hb => by
              rcases List.mem_cons.mp hb with z | z
              · rw [z]; exact f2
              · rw [List.mem_singleton.mp z]; exact f1)
            obtain ⟨h1, g1, d1, t1, o1⟩ := sb
            obtain ⟨h0, g0, d0, t0, o0⟩ := sa
            simp only at hg hd ho
            subst hg hd ho
            exact J
          · rintro i u sa o Qa Ea hi ⟨v, hv, rvu⟩ ⟨w', x, g', rs', Ia, sq, f1, f2⟩ ⟨itsa, rva, sta1, sta2⟩ hS hcont
            obtain ⟨d, hd, rd⟩ := rds_at r3 i v hv
            obtain ⟨kk, hq, hfl, hFd⟩ := km2 i d hd
            have ekk : ((q :: qs).getD i (.non, 0)).2 = kk := by rw [List.getD_eq_getElem?_getD, hq]; rfl
            refine run_key hF hr hb Ia g' rs' (rd.mono G1 x) rvu hfl hFd fun w2 s2 tk x2 g2 rs2 Ib hsq un => ?_
            have nst : ∀ b, FpOk X pins w'.H b → b ∉ frs X.stack := fun b fb hb => by
              rcases List.mem_cons.mp (Ia.stkSub b hb) with z | z
              · exact fb.2.1 z
              · exact fb.2.2.1 z
            have keepO : ∀ b ob, FpOk X pins w'.H b → sa.heap.get? b = some ob → s2.heap.get? b = some ob ∧ FpOk X pins w2.H b := fun b ob fb eb =>
              ⟨un.keep b ob eb fb.1 (nst b fb) (by simp), un.free b ob eb fb.1 (by simp), fb.2⟩
            obtain ⟨oI, eI, rI⟩ := id sta1
            have kI := keepO _ oI f1 eI
            have kS := keepO _ o f2 hS
            have sq2 := hsq l vs sq
            obtain ⟨itsb, rvb, plb, _⟩ := Ib.list sq2
            exact hcont _ s2 ⟨w2, x.trans x2, g2, rs2, Ib, sq2, kI.2, kS.2⟩ ⟨itsb, rvb, ⟨oI, kI.1, rI⟩, plb.isList⟩ kS.1 ⟨tk, by rw [ekk]⟩ fun _ _ h => h
          · rintro i j ki kj sa Qa Ea _ ⟨ti, rfl⟩ ⟨tj, rfl⟩ hq
            exact HT.rcLt_int _ _ _ _ _ _ _ _ _ _ hq
        · rintro v s' ⟨vv, hv, rvv⟩ ⟨w', x, g', rs', Ia, sq, f1, f2⟩
          have hn : vs.length - 1 = qs.length := by omega
          rw [hn] at hv
          obtain ⟨d, hd, rd⟩ := rds_at r3 _ vv hv
          obtain ⟨kk, hq, _, _⟩ := km2 _ d hd
          have e2 := (PySem.W.argBest_fold (fun a b : D × Int => decide (a.2 < b.2)) (.non, 0) q qs qs.length (Nat.le_refl _)).2
          rw [List.take_length] at e2
          have e3 : d = (minK q qs).1 := by
            have : ((q :: qs).getD (argBest (fun i j => decide (((q :: qs).getD i (D.non, (0 : Int))).2 < ((q :: qs).getD j (.non, 0)).2)) qs.length) (.non, 0)) = (d, kk) := by rw [List.getD_eq_getElem?_getD, hq]; rfl
            rw [this] at e2
            unfold minK
            rw [← e2]
          subst e3
          exact ⟨vv, w'.H, Ia, rvv, p vv w' x g' (rd.mono G1 x) rs'⟩
      · exact p.elim
    · exact p.elim
  · exact p.elim
theorem de_minK {y : Str} {k j : Nat} {F : MF} {a : Expr} {ma : MA} {p p2 pos2 : Pos} (hc : X.calm = true) (h : Fok X.prog X.w X.g X.base k y 1 F) (hk : k + 1 ≤ j) (hr : Room j X.A) (hgy : Gl X y) (hg : Gl X "min") (hm : X.mg "min" = none) (ha : PA X [a] (TAof X.g Wx ma))
    (hdb : (y == ("__debug__" : Str)) = false := by decide)
    (he : backTo pos (starEach [a] X.env) = (false, eval a X.env) :: backTo pos (starEach [] X.env) := by rfl) (hpl : (backTo pos (starEach [a] X.env)).any (·.1) = false := by rfl)
    (hall : (backToKw pos (keywordEach [⟨some "key", .Name y p2, pos2⟩] X.env)).all (·.1.isSome) = true := by rfl) (hnone : (backToKw pos (keywordEach [⟨some "key", .Name y p2, pos2⟩] X.env)).any (·.1.isNone) = false := by rfl) (hks : (backToKw pos (keywordEach [⟨some "key", .Name y p2, pos2⟩] X.env)).filterMap (·.1) = [Str.ofString "key"] := by rfl) :
    PE X (.Call (.Name "min" p) [a] [⟨some "key", .Name y p2, pos2⟩] pos) (TEof X.g Wx (eArgs (bMinK F) ma)) := by
  obtain ⟨f, fd, ps, hF, hmy, kp, b⟩ := h.ex
  refine peImp (pe_callBK (jck_minK hF ((hr.mono hk).in1) b hc) hg hm (by decide +kernel) ha (pk_cons (pe_glob hgy hmy (v := .ref f) rfl hdb) pk_nil) (by decide) (by decide) he hpl hall hnone hks) fun σ H Q ⟨w, E, S, a, p⟩ => ?_
  refine ⟨w, E, S, a, PR.imp (PR.bind a.good a.env p) fun xs H1 ⟨w1, ds, S1, a1, x1, r1, p1⟩ => ?_⟩
  exact ⟨rfl, Wx, σ, w1, S1, ds, a1.hp, a1.good, a1.sto, r1, p1⟩
end
end J
set_option Elab.async false
set_option linter.all false
set_option maxRecDepth 100000
set_option maxHeartbeats 1000000
namespace J
open PySem PySem.Spec PyProof.Rows L2
section
variable {X : Cx} {Wx : WX} {pos : Pos}
theorem jo_ixT (hu : X.A.units + 1 < cLine) : IxR X (opOf X.g oIxT) := by
  intro value slice pins s σ H x y v u Q I rx ry ⟨Wx, σ', w, S, d, e, hH, G, rs, r1, r2, p⟩ hs
  subst hH
  unfold oIxT at p
  split at p
  · rename_i ks ds e1
    split at p
    · rename_i k e2
      split at p
      · rename_i dd e3
        obtain ⟨a, us, rfl, t, l, r3⟩ := r1.dctTAt rs e1
        cases rx
        obtain ⟨b, rfl, tb, _⟩ := kyT_of r2 e2
        obtain ⟨z, h5, h6⟩ := (valT_zip k l r3).1 dd e3
        have h : DGet w.H a (.ref b) (some z) := .inr ⟨_, k, b, t, rfl, tb, h5.symm⟩
        exact tail_any (dict_typeIs I h) PySem.F.slot_dict_getitem.lookup (d_getItem hu I h ry fun w' s' I' r' => ⟨z, _, I', r', putSame p G rs h6⟩) hs
      · exact p.elim
    · exact p.elim
  · exact p.elim
theorem de_disp1TL {k v : Expr} {mk mv : ME} (hu : X.A.units + 1 < cLine) (hk : PE X k (TEof X.g Wx mk)) (hv : PE X v (TEof X.g Wx mv)) : PE X (.Dict [some k] [v] pos) (TEof X.g Wx (eDisp1TL mk mv)) := by
  refine peImp (pe_dispT (by omega) hk hv) fun σ H Q ⟨w, E, S, a, p⟩ => ?_
  intro q hq
  have hq' : w.H q = none := by rw [a.hp]; exact hq
  have x0 := hide_ext (o := .dT []) hq'
  have G0 := hide_good (o := .dT []) a.good hq'
  have nD : q ∉ w.rhA := fun z => a.good.al q (a.good.sub q z) hq'
  have a0 : At X.g (w.hide q (.dT [])) E σ (upd H q (.dT [])) S := ⟨by rw [← a.hp], G0, a.env.mono a.good x0, a.sto.keep a.good x0 rfl (fun b hb => upd_ne fun e => nD (by rw [← e]; exact hb))⟩
  have p0 : PR X.g Wx σ w (RD X.g) Q ((mk E S).bind fun x S1 => (mv E S1).bind fun y S2 => kDisp1T x y S2) := p
  refine ⟨w.hide q (.dT []), E, S, a0, ?_⟩
  cases hmk : mk E S with
  | bad => rw [hmk] at p0; exact p0.elim
  | exc c fs S1 => rw [hmk] at p0; exact PR.at p0 x0
  | ok d S1 =>
    rw [hmk] at p0
    intro x w1 x1 G1 r1 rs1
    have a1 : At X.g w1 E σ w1.H S1 := ⟨rfl, G1, a0.env.mono G0 x1, rs1⟩
    refine ⟨w1, E, S1, a1, ?_⟩
    simp only [bind_ok] at p0
    cases hmv : mv E S1 with
    | bad => rw [hmv] at p0; exact p0.elim
    | exc c fs S2 => rw [hmv] at p0; exact PR.at p0 (x0.trans x1)
    | ok d2 S2 =>
      rw [hmv] at p0
      intro y w2 x2 G2 r2 rs2
      simp only [bind_ok, kDisp1T] at p0
      split at p0
      · rename_i ky hky
        have x12 := x1.trans x2
        have x := x0.trans x12
        have hq2 : w2.H q = some (.dT []) := x12.kpT upd_same nD (.inr rfl)
        have hth : w2.thA q := x12.th1 q (.inr rfl)
        have nD2 : q ∉ w2.rhA := fun z => by
          obtain ⟨τ, e5, f5⟩ := x12.rho
          rw [e5] at z
          rcases List.mem_append.mp z with z | z
          · exact nD z
          · have := f5 q z
            rw [show (w.hide q (.dT [])).H q = some (.dT []) from upd_same] at this
            cases this
        obtain ⟨b, rfl, tb, nb⟩ := kyT_of (r1.mono G1 x2) hky
        refine ⟨hq2, ky, b, rfl, tb, ?_⟩
        · have kw : Weak w2 { w2 with H := upd w2.H q (.dT [(ky, y)]) } := weak_upd hth
          have rs2' : RS X.g { w2 with H := upd w2.H q (.dT [(ky, y)]) } S2 := rs2.weakW kw rfl (fun b hb => upd_ne fun e => nD2 (by rw [← e]; exact hb))
          have r2' : RD X.g { w2 with H := upd w2.H q (.dT [(ky, y)]) } d2 y := RD.weakW kw (fun _ _ h => h) _ _ r2
          have k3 : Weak { w2 with H := upd w2.H q (.dT [(ky, y)]) } ⟨w2.thA, w2.rhA ++ [q], upd w2.H q (.dT [(ky, y)])⟩ := weak_take rfl fun _ z => z
          have kr : ∀ (n : Nat) a, w2.rhA[n]? = some a → (w2.rhA ++ [q])[n]? = some a := fun n a h => by
            rw [List.getElem?_append_left (List.getElem?_eq_some_iff.mp h).1]; exact h
          obtain ⟨τ, eτ, fτ⟩ := x.rho
          refine p0 (.ref q) ⟨w2.thA, w2.rhA ++ [q], upd w2.H q (.dT [(ky, y)])⟩ ⟨⟨τ ++ [q], by show w2.rhA ++ [q] = _; rw [eτ, List.append_assoc], fun a h => (List.mem_append.mp h).elim (fτ a) fun h => by rw [List.mem_singleton.mp h]; exact hq'⟩, x.th1, x.th2, fun b o hb nb => ?_, fun b hb => ?_⟩
            ⟨?_, fun b h => ?_, fun b hb => ?_, fun b hb xs => by
              show upd w2.H q _ b ≠ some (.tup xs)
              by_cases e : b = q
              · rw [e, upd_same]; intro z; cases z
              · rw [upd_ne e]; exact G2.nt b hb xs⟩ ⟨q, rfl, by show (w2.rhA ++ [q])[S2.length]? = some q; rw [rs2.1]; simp⟩ ⟨by show (S2 ++ [_]).length = (w2.rhA ++ [q]).length; simp [rs2.1], fun n d e => ?_⟩
          · have hne : b ≠ q := fun e => by rw [e, hq'] at hb; cases hb
            rcases x.kp b o hb nb with q' | ⟨nt, od, kvs, eo, q'⟩
            · exact .inl ((upd_ne hne).trans q')
            · exact .inr ⟨nt, od, kvs, eo, (upd_ne hne).trans q'⟩
          · show upd w2.H q _ b ≠ none
            by_cases e : b = q
            · rw [e, upd_same]; simp
            · rw [upd_ne e]; exact x.al b hb
          · show (w2.rhA ++ [q]).Nodup
            rw [List.nodup_append]
            refine ⟨G2.nd, by simp, fun a ha b hb e => ?_⟩
            rw [List.mem_singleton.mp hb] at e
            exact nD2 (by rw [← e]; exact ha)
          · rcases List.mem_append.mp h with h | h
            · exact G2.sub b h
            · rw [List.mem_singleton.mp h]; exact hth
          · show upd w2.H q _ b ≠ none
            by_cases e : b = q
            · rw [e, upd_same]; simp
            · rw [upd_ne e]; exact G2.al b hb
          · by_cases hn : n < S2.length
            · rw [List.getElem?_append_left hn] at e
              obtain ⟨a, h1, h2⟩ := rs2'.2 n d e
              exact ⟨a, kr n a h1, h2.weakW k3 kr rfl⟩
            · have hl : n = S2.length := by
                have := (List.getElem?_eq_some_iff.mp e).1
                simp at this
                omega
              subst hl
              simp at e
              subst e
              exact ⟨q, by show (w2.rhA ++ [q])[S2.length]? = some q; rw [rs2.1]; simp, [y], upd_same, rfl, RDs.one (RD.weakW k3 kr _ _ r2')⟩
      · exact p0.elim
end
end J
set_option Elab.async false
set_option linter.all false
set_option maxRecDepth 100000
set_option maxHeartbeats 1000000
namespace J
open PySem PySem.Spec PyProof.Rows L2
section
variable {X : Cx} {Wx : WX} {k : Nat}
end
end J
set_option Elab.async false
set_option linter.all false
set_option maxRecDepth 100000
set_option maxHeartbeats 1000000
namespace J
open PySem PySem.Spec PyProof.Rows L2
section
variable {X : Cx} {Wx : WX} {pos : Pos} {es : List Expr} {t : TA}
def tTupK (t : TA) : TE := fun σ H Q => t σ H fun xs H1 => xs.length ≤ sizeLine ∧ ∀ p o, o.dict = none → H1 p = none → Q (.ref p) (upd H1 p (.frz o (.tup xs)))
end
section
variable {X : Cx} {Wx : WX} {pos : Pos}
def slOfK (g : G) : V → Option Int → Option Int → Hp → VK → Prop := fun x lo hi H Q => ∃ Wx σ w S d, w.H = H ∧ Good w ∧ RS g w S ∧ RD g w d x ∧ PR g Wx σ w (RD g) Q (oSlK d lo hi S)
def tRevK (K : PySem.W.Frag) (te : TE) : TE := fun σ H Q => te σ H fun x H1 => ∃ a xs, x = .ref a ∧ SqT K H1 a xs ∧ ∀ p o, o.dict = none → H1 p = none → Q (.ref p) (upd H1 p (.frz o (.tup xs.reverse)))
end
end J
set_option Elab.async false
set_option linter.all false
set_option maxRecDepth 100000
set_option maxHeartbeats 1000000
namespace J
open PySem PySem.Spec PyProof.Rows L2
section
variable {X : Cx} {Wx : WX}
end
end J
set_option Elab.async false
set_option linter.all false
set_option maxRecDepth 100000
set_option maxHeartbeats 1000000
namespace J
open PySem PySem.Spec PyProof.Rows L2
open PySem.W (alike alikeAll dataLt keyToks keyToksAll dataLe EachIs)
section
variable {X : Cx}
end
section
variable {prog : Program} {w : World} {A : Around} {E : Value → Shared → Prop} {s : Shared} {T : String} {r d : Addr} {n : Nat} {P : Nat → Value → Prop} {OK : Heap → Prop} {Q : Value → Shared → Prop}
end

/-! sorted(d.keys()), the keys tuples, d an object of the heap -/
section
variable {X : Cx} {pins : List (Addr × Obj)} {σ : L2.St} {H : Hp} {s : Shared}
end
section
variable {X : Cx} {Wx : WX}
end
section
variable {X : Cx}
end
end J
set_option Elab.async false
set_option linter.all false
set_option maxRecDepth 100000
set_option maxHeartbeats 1000000
namespace J
open PySem PySem.Spec PyProof.Rows L2
section
variable {X : Cx} {Wx : WX} {pos : Pos}
end
end J
set_option Elab.async false
set_option linter.all false
set_option maxRecDepth 100000
set_option maxHeartbeats 1000000
namespace J
open PySem PySem.Spec PyProof.Rows L2
def iKeysMT (td : TE) : TI := fun σ H R => td σ H fun x H1 => ∃ d o kvs, x = .ref d ∧ H1 d = some (.frz o (.dT kvs)) ∧ R (Itkt d o kvs) H1
section
variable {X : Cx} {Wx : WX} {pos : Pos}
end
end J
set_option Elab.async false
set_option linter.all false
set_option maxRecDepth 100000
set_option maxHeartbeats 1000000
namespace J
open PySem PySem.Spec PyProof.Rows L2
namespace IT
end IT
end J
set_option Elab.async false
set_option linter.all false
set_option maxRecDepth 100000
set_option maxHeartbeats 4000000
namespace J
open PySem PySem.Spec PyProof.Rows L2
def permF (q : Addr) (st : Int) (n : Nat) (last : Value) (ns : List Nat) : Array Value := ([.ref q, rawInt st, rawInt n, last] ++ ns.map fun k : Nat => rawInt k).toArray
def IsPerm (h : Heap) (it q : Addr) (st : Int) (n : Nat) (last : Value) (ns : List Nat) : Prop := ∃ o, h.get? it = some o ∧ o.cls = .type "itertools.permutations" ∧ o.data = .fields (permF q st n last ns)
section
variable {prog : Program} {w : World} {A : Around} {E : Value → Shared → Prop} {s : Shared}
theorem IsPerm.at {h h' : Heap} {it q : Addr} {st : Int} {n : Nat} {last : Value} {ns : List Nat} (x : IsPerm h it q st n last ns) (k : ∀ o, h.get? it = some o → h'.get? it = some o) : IsPerm h' it q st n last ns := by
  obtain ⟨o, ho, r⟩ := x
  exact ⟨o, k o ho, r⟩
theorem IsPerm.upd {h : Heap} {it q : Addr} {st st' : Int} {n : Nat} {last last' : Value} {ns ns' : List Nat} {f : Array Value → Array Value} (x : IsPerm h it q st n last ns) (e : f (permF q st n last ns) = permF q st' n last' ns') : IsPerm (h.update it (Obj.mapFields f)) it q st' n last' ns' := by
  obtain ⟨o, ho, hc, hd⟩ := x
  refine ⟨_, Heap.get?_update_self _ ho (Obj.isFreed_of_fields (Obj.data_mapFields hd _)), (Obj.cls_mapFields ..).trans hc, ?_⟩
  rw [Obj.data_mapFields hd, e]
end
def pst (n : Nat) : Nat → Option (List Nat × List Nat)
  | 0 => some (List.range n, (List.range n).map fun i => n - i)
  | i + 1 => (pst n i).bind fun s => pnx n n s.1 s.2
structure POk2 (n : Nat) (ix cy : List Nat) : Prop where
  l : ix.length = n
  lc : cy.length = n
  b : ∀ x ∈ ix, x < n
def rowH (fz : Bool) (row : List Nat) (ob : HO) : Prop := if fz = true then ∃ o : Obj, o.dict = none ∧ ob = .frz o (.tup (row.map fun k : Nat => V.int k)) else ob = .tup (row.map fun k : Nat => V.int k)
def Itp (fz : Bool) (n : Nat) : It := ⟨fun i _ => ∃ s, pst n i = some s, fun i H v H' => ∃ T ix cy ob, pst n i = some (ix, cy) ∧ v = .ref T ∧ H T = none ∧ rowH fz ix ob ∧ H' = upd H T ob, fun i _ => pst n i = none⟩
def permSt (it q : Addr) (n i : Nat) (h : Heap) : Prop := it ≠ q ∧ ∃ us : Array Value, h.IsTuple q us ∧ ItemsOf (fun i v => ∃ t, v = .int (0 + i * 1) t) us n ∧ ((i = 0 ∧ ∃ ix cy, pst n 0 = some (ix, cy) ∧ IsPerm h it q 0 n .none (ix ++ cy)) ∨ ∃ j last ix cy, i = j + 1 ∧ pst n j = some (ix, cy) ∧ IsPerm h it q 1 n last (ix ++ cy))
section
variable {X : Cx} {Wx : WX}
def tPerm (fz : Bool) (te : TE) : TI := fun σ H R => tRg1 te σ H fun a b H1 => a = 0 ∧ ∃ n : Nat, b = n ∧ n ≤ 100 ∧ R (Itp fz n) H1
end
section
variable {X : Cx} {Wx : WX}
end
end J
set_option Elab.async false
set_option linter.all false
set_option maxRecDepth 100000
set_option maxHeartbeats 4000000
namespace J
open PySem PySem.Spec PyProof.Rows L2
def combF (q : Addr) (st : Int) (last : Value) (ns : List Nat) : Array Value := ([.ref q, rawInt st, last] ++ ns.map fun k : Nat => rawInt k).toArray
def IsComb (h : Heap) (it q : Addr) (st : Int) (last : Value) (ns : List Nat) : Prop := ∃ o, h.get? it = some o ∧ o.cls = .type "itertools.combinations" ∧ o.data = .fields (combF q st last ns)
theorem IsComb.at {h h' : Heap} {it q : Addr} {st : Int} {last : Value} {ns : List Nat} (x : IsComb h it q st last ns) (k : ∀ o, h.get? it = some o → h'.get? it = some o) : IsComb h' it q st last ns := by
  obtain ⟨o, ho, r⟩ := x
  exact ⟨o, k o ho, r⟩
theorem IsComb.upd {h : Heap} {it q : Addr} {st st' : Int} {last last' : Value} {ns ns' : List Nat} {f : Array Value → Array Value} (x : IsComb h it q st last ns) (e : f (combF q st last ns) = combF q st' last' ns') : IsComb (h.update it (Obj.mapFields f)) it q st' last' ns' := by
  obtain ⟨o, ho, hc, hd⟩ := x
  refine ⟨_, Heap.get?_update_self _ ho (Obj.isFreed_of_fields (Obj.data_mapFields hd _)), (Obj.cls_mapFields ..).trans hc, ?_⟩
  rw [Obj.data_mapFields hd, e]
section
variable {prog : Program} {w : World} {A : Around} {E : Value → Shared → Prop} {s : Shared}
end
def cst (n m : Nat) : Nat → Option (List Nat)
  | 0 => some (List.range m)
  | i + 1 => (cst n m i).bind fun s => cnx n s
structure COk2 (n m : Nat) (ix : List Nat) : Prop where
  l : ix.length = m
  b : ∀ k, k < m → ix.getD k 0 + m ≤ k + n
theorem COk2.lt {n m : Nat} {ix : List Nat} (K : COk2 n m ix) : ∀ x ∈ ix, x < n := fun x hx => by
  obtain ⟨k, hk, e⟩ := List.getElem_of_mem hx
  have h1 := K.b k (by rw [← K.l]; exact hk)
  rw [List.getD_eq_getElem?_getD, List.getElem?_eq_getElem hk] at h1
  have h2 : ix[k] + m ≤ k + n := h1
  have := K.l
  omega
def Itcb (n m : Nat) : It := ⟨fun i _ => ∃ s, cst n m i = some s, fun i H v H' => ∃ T ix, cst n m i = some ix ∧ v = .ref T ∧ H T = none ∧ H' = upd H T (.tup (ix.map fun k : Nat => V.int k)), fun i _ => cst n m i = none⟩
def combSt (it q : Addr) (n m i : Nat) (h : Heap) : Prop := it ≠ q ∧ ∃ us : Array Value, h.IsTuple q us ∧ ItemsOf (fun i v => ∃ t, v = .int (0 + i * 1) t) us n ∧ ((i = 0 ∧ ∃ ix, cst n m 0 = some ix ∧ IsComb h it q 0 .none ix) ∨ ∃ j last ix, i = j + 1 ∧ cst n m j = some ix ∧ IsComb h it q 1 last ix)
section
variable {X : Cx} {Wx : WX}
def tComb (te : TE) (k : Nat) : TI := fun σ H R => tRg1 te σ H fun a b H1 => ∃ n m : Nat, σ[k]? = some (some (.int m)) ∧ a = 0 ∧ b = n ∧ n ≤ 100 ∧ m ≤ n ∧ R (Itcb n m) H1
end
section
variable {X : Cx} {Wx : WX}
end
end J
set_option Elab.async false
set_option linter.all false
set_option maxRecDepth 100000
set_option maxHeartbeats 4000000
namespace J
open PySem PySem.Spec PyProof.Rows L2
section
variable {X : Cx} {Wx : WX} {a : Expr} {ma : ME}
end
section
variable {X : Cx} {Wx : WX}
end
end J
set_option Elab.async false
set_option linter.all false
set_option maxRecDepth 100000
set_option maxHeartbeats 4000000
namespace J
open PySem PySem.Spec PyProof.Rows L2
open PySem.W (alike alikeAll dataLt keyToks keyToksAll dataLe EachIs)
def StdK (g : G) (w : W) (u : Value) (d : D) : Prop := ∃ es x, d = .tup es ∧ RD g w (.tuk es) x ∧ RelV x u
section
variable {X : Cx} {Wx : WX} {pos : Pos}
end
end J
set_option Elab.async false
set_option linter.all false
set_option maxRecDepth 100000
set_option maxHeartbeats 4000000
namespace J
open PySem PySem.Spec PyProof.Rows L2
open PySem.W (alike alikeAll dataLt keyToks keyToksAll dataLe EachIs)
section
variable {X : Cx} {Wx : WX} {pos : Pos}
end
end J
set_option Elab.async false
set_option linter.all false
set_option maxRecDepth 100000
set_option maxHeartbeats 4000000
namespace J
open PySem PySem.Spec PyProof.Rows L2
section
variable {X : Cx} {Wx : WX} {pos : Pos} {a b : Expr} {ma mb : ME}
end
end J
set_option Elab.async false
set_option linter.all false
set_option maxRecDepth 100000
set_option maxHeartbeats 4000000
namespace J
open PySem PySem.Spec PyProof.Rows L2
theorem tuple_mulWE (l : Addr) (items : Array Value) (n : Nat) (dd : Option Addr) (sl : Array (Option Value)) (x : Int) (u : Tok) (h1 : 1 ≤ x) (h2 : x ≤ 1000) (hi : items.isEmpty = true) :
    Meets (Builtin.«tuple.__mul__» ⟨[.ref l, .int x u], []⟩) (fun _ R s => s.heap.get? l = some { cls := .type "tuple", dict := dd, data := .seq items n, slots := sl } ∧ R (.ok (.ret (Value.ref l))) s) :=
  .of_wp fun prog w A R s h => by
    obtain ⟨hp, g, d, tk, os⟩ := s
    obtain ⟨hl, h⟩ := h
    have f1 := AutoSeq1.idx_int
    have c0 : (decide (x < -(2 ^ 63)) || decide (x ≥ 2 ^ 63)) = false := by
      rw [Bool.or_eq_false_iff, decide_eq_false_iff_not, decide_eq_false_iff_not]
      omega
    have c1 : (items.isEmpty || x == 1) = true := by rw [hi]; rfl
    wp_walk using wpAny_loadPart' hl
    repeat (first
      | (refine wpAny_ite_false (decide_eq_false (by rw [c0]; exact Bool.false_ne_true)) ?_; wp_walk using wpAny_loadPart' hl)
      | (refine wpAny_ite_true (decide_eq_true (by rw [c1])) ?_; wp_walk using wpAny_loadPart' hl))
    exact ⟨_, rfl, h⟩
theorem op_repE {X : Cx} : OpR X (binaryOp .Mult) (fun x y H Q => ∃ l k, x = .ref l ∧ y = .int k ∧ SqT X.K H l [] ∧ 1 ≤ k ∧ k ≤ 1000 ∧ Q (.ref l) H) := by
  intro pins s σ H x y v u Q I rx ry h
  obtain ⟨l, k, rfl, rfl, hT, h1, h2, q⟩ := h
  cases rx
  obtain ⟨t, rfl⟩ := ry
  obtain ⟨its, r, ⟨⟨cls, dd, data, sl⟩, ho, hc, n, hd⟩, hs⟩ := I.tuple hT
  simp only at hc hd
  subst hc hd
  have hi : its.toArray.isEmpty = true := by cases r; rfl
  refine wpAny_binaryOp_repeat_ref (T := "tuple") (U := "int") (by decide) ⟨_, ho, rfl⟩ (fun s' => typeIs_int s' k t) noFill_tuple_mul F.fills_int_mul F.slot_int_rmul repeat_tuple F.slot_int_index.lookup
    (call_meets F.slot_int_rmul (typeIs_int s k t) F.entry_int_rmul (F.args_int_rmul_2 _ _) (int_rmul_tuple k t l its.toArray n dd sl)
      ⟨ho, rfl, ⟨_, ho, rfl⟩, call_meets F.slot_tuple_mul ⟨_, ho, rfl⟩ F.entry_tuple_mul (F.args_tuple_mul_2 _ _) (tuple_mulWE l its.toArray n dd sl k t h1 h2 hi) ⟨ho, ?_⟩⟩)
  exact ⟨.ref l, H, I, rfl, q⟩
theorem jo_mulE {X : Cx} : OpR X (binaryOp .Mult) (opOf X.g oMulE) := by
  intro pins s σ H x y v u Q I rx ry ⟨Wx, σ', w, S, d, e, hH, G, rs, r1, r2, p⟩
  unfold oMulE at p
  split at p
  · split at p
    · rename_i k h
      subst hH
      cases r2
      obtain ⟨a, vs, rfl, ta, ra⟩ := id r1
      have e0 : vs = [] := by cases ra; rfl
      subst e0
      exact op_repE pins s σ _ _ _ v u Q I rx ry ⟨a, k, rfl, rfl, ta.sq, h.1, h.2, p _ w (Ext.refl w) G r1 rs⟩
    · exact p.elim
  · exact jo_mul pins s σ H x y v u Q I rx ry ⟨Wx, σ', w, S, d, e, hH, G, rs, r1, r2, p⟩
section
variable {X : Cx} {Wx : WX} {pos : Pos}
theorem maxOf_fold (n : Int) (ns : List Int) : PySem.W.maxOf n ns = ns.foldl (fun a y => if y > a then y else a) n := by
  unfold PySem.W.maxOf
  congr 1
  funext a y
  show (if decide (a < y) = true then y else a) = _
  by_cases h : a < y <;> simp [h]
theorem jck_maxZ (hc : X.calm = true) (hu : X.A.units + 1 < cLine) : CallRK X (.builtin "max") [Str.ofString "default"] (fun vs zs H Q => zs = [.int 0] ∧ argOf X.g bMaxZ vs H Q) := by
  intro pins s σ H vs zs us ws Q I r rz ⟨hz, Wx, σ', w, S, ds, hH, G, rs, r1, p⟩
  subst hH
  subst hz
  obtain ⟨w1, rfl, tz, rfl⟩ := vals1 rz
  unfold bMaxZ at p
  split at p
  · obtain ⟨v, rfl, r2⟩ := r1.one'
    split at p
    · rename_i xs e
      obtain ⟨a, vs, rfl, t, r3⟩ := r2.seq rs e
      rw [Vals.ref1 r]
      split at p
      · rename_i n ns e2
        have := ints_vals r3 e2
        subst this
        have fin : ∀ (y : Int) (ys : List Int) (v : Value) (h' : Heap) (tk : Nat), n :: ns = y :: ys → PySem.W.Holds h' v (PySem.W.maxOf y ys) → (∀ b o, s.heap.get? b = some o → h'.get? b = some o) → EP X pins σ Q v { s with heap := h', toks := tk } := fun y ys v h' tk e hv hk => by
          injection e with e1 e2
          subst e1
          subst e2
          obtain ⟨t, rfl⟩ := PySem.W.int_of_holds hv
          refine ⟨.int _, w.H, I.kept hk, ⟨t, rfl⟩, ?_⟩
          rw [maxOf_fold]
          exact putSame p G rs rfl
        rcases t with t | t
        · obtain ⟨its, rv, pl, hz⟩ := I.list t
          exact PySem.W.max_list_datum_default (α := Int) (xs := n :: ns) (I.ok.hd hc) pl.isList (hold_ints rv) (by simpa [PySem.W.Datum.depth] using hu) (fun e => by cases e) fun y ys i v h' tk e hi hv hk => fin y ys v h' tk e hv hk
        · obtain ⟨its, rv, pl, hz⟩ := I.tuple t
          exact PySem.W.max_tuple_datum_default (α := Int) (xs := n :: ns) (I.ok.hd hc) pl (hold_ints rv) (by simpa [PySem.W.Datum.depth] using hu) (fun e => by cases e) fun y ys i v h' tk e hi hv hk => fin y ys v h' tk e hv hk
      · rename_i e2
        have := ints_vals r3 e2
        subst this
        have fin : ∀ (h' : Heap) (tk : Nat), (∀ b o, s.heap.get? b = some o → h'.get? b = some o) → EP X pins σ Q (Value.int 0 tz) { s with heap := h', toks := tk } := fun h' tk hk =>
          ⟨.int 0, w.H, I.kept hk, ⟨tz, rfl⟩, putSame p G rs rfl⟩
        rcases t with t | t
        · obtain ⟨its, rv, pl, hz⟩ := I.list t
          exact PySem.W.max_list_datum_default (α := Int) (xs := []) (I.ok.hd hc) pl.isList (hold_ints rv) (by simpa [PySem.W.Datum.depth] using hu) (fun _ h' tk hk => fin h' tk hk) fun y ys i v h' tk e hi hv hk => by cases e
        · obtain ⟨its, rv, pl, hz⟩ := I.tuple t
          exact PySem.W.max_tuple_datum_default (α := Int) (xs := []) (I.ok.hd hc) pl (hold_ints rv) (by simpa [PySem.W.Datum.depth] using hu) (fun _ h' tk hk => fin h' tk hk) fun y ys i v h' tk e hi hv hk => by cases e
      · exact p.elim
    · exact p.elim
  · exact p.elim
theorem de_maxZ {a : Expr} {ma : MA} {p p2 pos2 : Pos} {j2} (hc : X.calm = true) (hu : X.A.units + 1 < cLine) (hg : Gl X "max") (hm : X.mg "max" = none) (ha : PA X [a] (TAof X.g Wx ma))
    (he : backTo pos (starEach [a] X.env) = (false, eval a X.env) :: backTo pos (starEach [] X.env) := by rfl) (hpl : (backTo pos (starEach [a] X.env)).any (·.1) = false := by rfl)
    (hall : (backToKw pos (keywordEach [⟨some "default", .Constant (.int 0) j2 p2, pos2⟩] X.env)).all (·.1.isSome) = true := by rfl) (hnone : (backToKw pos (keywordEach [⟨some "default", .Constant (.int 0) j2 p2, pos2⟩] X.env)).any (·.1.isNone) = false := by rfl) (hks : (backToKw pos (keywordEach [⟨some "default", .Constant (.int 0) j2 p2, pos2⟩] X.env)).filterMap (·.1) = [Str.ofString "default"] := by rfl) :
    PE X (.Call (.Name "max" p) [a] [⟨some "default", .Constant (.int 0) j2 p2, pos2⟩] pos) (TEof X.g Wx (eArgs bMaxZ ma)) := by
  refine peImp (pe_callBK (jck_maxZ hc hu) hg hm (by decide +kernel) ha (pk_cons pe_int pk_nil) (by decide) (by decide) he hpl hall hnone hks) fun σ H Q ⟨w, E, S, a, p⟩ => ?_
  refine ⟨w, E, S, a, PR.imp (PR.bind a.good a.env p) fun xs H1 ⟨w1, ds, S1, a1, x1, r1, p1⟩ => ?_⟩
  exact ⟨rfl, Wx, σ, w1, S1, ds, a1.hp, a1.good, a1.sto, r1, p1⟩
theorem dedup_step (ns : List Int) : ∀ acc : List Int, acc.Nodup → (ns.foldl (fun acc x => if acc.any (· == x) then acc else acc ++ [x]) acc).Nodup ∧ ∀ k, k ∈ ns.foldl (fun acc x => if acc.any (· == x) then acc else acc ++ [x]) acc ↔ k ∈ acc ∨ k ∈ ns := by
  induction ns with
  | nil => exact fun acc h => ⟨h, fun k => by simp⟩
  | cons x ns ih =>
    intro acc h
    rw [List.foldl_cons]
    by_cases q : (acc.any (· == x)) = true
    · rw [if_pos q]
      obtain ⟨a, b⟩ := ih acc h
      refine ⟨a, fun k => (b k).trans ?_⟩
      have hx : x ∈ acc := by
        obtain ⟨y, hy, e⟩ := List.any_eq_true.mp q
        rw [← eq_of_beq e]; exact hy
      constructor
      · rintro (z | z)
        · exact .inl z
        · exact .inr (List.mem_cons_of_mem _ z)
      · rintro (z | z)
        · exact .inl z
        · rcases List.mem_cons.mp z with rfl | z
          · exact .inl hx
          · exact .inr z
    · rw [if_neg q]
      have hx : x ∉ acc := fun z => q (List.any_eq_true.mpr ⟨x, z, beq_self_eq_true x⟩)
      obtain ⟨a, b⟩ := ih (acc ++ [x]) (List.nodup_append.mpr ⟨h, by simp, fun a ha b hb e => hx (by rw [← List.mem_singleton.mp hb, ← e]; exact ha)⟩)
      refine ⟨a, fun k => (b k).trans ?_⟩
      simp [or_assoc]
theorem dedup_nd (ns : List Int) : (dedupI ns).Nodup ∧ ∀ k, k ∈ dedupI ns ↔ k ∈ ns := by
  obtain ⟨a, b⟩ := dedup_step ns [] List.nodup_nil
  exact ⟨a, fun k => (b k).trans (by simp)⟩
theorem nodup_same {xs ys : List Int} (hx : xs.Nodup) (hy : ys.Nodup) (h : ∀ k, k ∈ xs ↔ k ∈ ys) : xs.length = ys.length := ((List.perm_ext_iff_of_nodup hx hy).mpr h).length_eq
theorem de_lenSetT {a : Expr} {ma : ME} {p p2 q pos : Pos} (hc : X.calm = true) (hg : Gl X "len") (hm : X.mg "len" = none) (hg2 : Gl X "set") (hm2 : X.mg "set" = none) (ha : PE X a (TEof X.g Wx ma))
    (na : starEach [a] X.env = (false, eval a X.env) :: starEach [] X.env := by rfl) : PE X (.Call (.Name "len" p) [.Call (.Name "set" p2) [a] [] q] [] pos) (TEof X.g Wx (eLenSetT ma)) := by
  refine ⟨fun pins s σ H Q I h => ?_⟩
  obtain ⟨w, E, S, at0, p0⟩ := h
  refine Call_ (ld_blt I hg hm boot_len ?_)
  refine PyProof.Rows.callWith_builtin1 (PyProof.Rows.args_cons ?_ rfl) rfl rfl
  refine Call_ (ld_blt I hg2 hm2 boot_set ?_)
  refine PyProof.Rows.callWith_type1 (PyProof.Rows.args_cons (thn (ha.run pins s σ H _ I ⟨w, E, S, at0, PR.bind at0.good at0.env p0⟩) fun v s1 ⟨x, H1, I1, r1, w1, d, S1, a1, x1, rd, p1⟩ => PyProof.Rows.args_nil ?_) na) na rfl
  obtain rfl := a1.hp
  split at p1
  · rename_i xs
    split at p1
    · rename_i ns e
      split at p1
      · rename_i hl
        obtain ⟨l, vs, rfl, t, r2⟩ := rd
        have := ints_vals r2 e
        subst this
        cases r1
        obtain ⟨its, rv, pl, hz⟩ := I1.tuple t.sq
        refine call_set_tupI ns (I1.ok.hd hc) pl (by simpa using RZ.intsAre_vals rv) (by unfold scanBound; omega) fun h' tk c R hcl hk => ?_
        refine PyProof.Rows.args_nil ?_
        obtain ⟨o, es, ep, t', ho, hex, hd, hge, hnd, hmem, hsz, hf, hn, _⟩ := R
        have I2 : Inv X pins σ w1.H { s1 with heap := h', toks := tk } := I1.kept hk
        have hc2 : es.size = (dedupI ns).length := by
          have := nodup_same hnd (dedup_nd ns).1 fun k => by
            rw [← hmem k, (dedup_nd ns).2 k, decide_eq_true_eq]
          simpa using this
        refine call_len_set ho hex hd hf (by omega) ⟨.int (es.size : Nat), w1.H, I2.tok _, ⟨_, rfl⟩, ?_⟩
        rw [hc2]
        exact putSame p1 a1.good a1.sto rfl
      · exact p1.elim
    · exact p1.elim
  · exact p1.elim
end
end J
set_option linter.all false
set_option maxRecDepth 100000
namespace K76
open J PySem
def S_p_law_taken : MS :=
  (sSeq (sIf (tV (eOp oGt (eOp oIx (eVar 0) (eC (.int 3))) (eC (.int 0)))) (sSeq (sSet 2 (eOp oMod (eArgs bInt (aCons (eOp oIx (eVar 0) (eC (.int 3))) aNil)) (eVar 1)))
    (sSeq (sPut (eVar 0) (eC (.int 3)) (eOp oDiv (eOp oIx (eVar 0) (eC (.int 3))) (eVar 1)))
    (sRet (eVar 2)))) sNext)
    (sSeq (sPut (eVar 0) (eC (.int 1)) (eOp oAdd (eOp oIx (eVar 0) (eC (.int 1))) (eC (.int 1))))
    (sSeq (sIf (tV (eOp oGt (eOp oIx (eVar 0) (eC (.int 1))) (eArgs bLen (aCons (eOp oIx (eVar 0) (eC (.int 0))) aNil)))) (sSeq (sPut (eVar 0) (eC (.int 2)) (eOp oMod (eArgs bInt (aCons (eOp oAdd (eOp oMul (eOp oIx (eVar 0) (eC (.int 2))) (eC (.int 48271))) (eC (.int 11))) aNil)) (eC (.int 2147483647))))
    (sRet (eOp oMod (eArgs bInt (aCons (eOp oDiv (eOp oIx (eVar 0) (eC (.int 2))) (eC (.int 7))) aNil)) (eVar 1)))) sNext)
    (sSeq (sSet 3 (eOp oIx (eOp oIx (eVar 0) (eC (.int 0))) (eOp oSub (eOp oIx (eVar 0) (eC (.int 1))) (eC (.int 1)))))
    (sSeq (sPut (eVar 0) (eC (.int 2)) (eOp oMod (eArgs bInt (aCons (eOp oAdd (eOp oAdd (eOp oMul (eOp oIx (eVar 0) (eC (.int 2))) (eC (.int 48271))) (eVar 3)) (eC (.int 11))) aNil)) (eC (.int 2147483647))))
    (sSeq (sIf (tV (eOp oGe (eVar 3) (eOp oPow (eC (.int 10)) (eC (.int 18))))) (sPut (eVar 0) (eC (.int 3)) (eOp oDiv (eVar 3) (eVar 1))) sNext)
    (sRet (eOp oMod (eArgs bInt (aCons (eVar 3) aNil)) (eVar 1)))))))))
def F_p_law_taken : MF := fnF 2 4 S_p_law_taken

def B1_p_law_loop (R : MF) : MS :=
  (sSeq (sSet 5 (eIf (tAnd (tV (eOp oGt (eVar 1) (eC (.int 0)))) (tV (eOp oEq (eArgs (callF F_p_law_taken) (aCons (eVar 0) (aCons (eC (.int 3)) aNil))) (eC (.int 0))))) (eArgs (callF R) (aCons (eVar 0) (aCons (eOp oSub (eVar 1) (eC (.int 1))) (aCons (eC (.int 3)) aNil)))) (eArgs bTup aNil)))
    (sSet 3 (eOp oAdd (eVar 3) (eIf (tV (eOp oNe (eVar 5) (eArgs bTup aNil))) (eArgs bTup (aCons (eArgs bTup (aCons (eOp oAdd (eC (.int 2)) (eArgs (callF F_p_law_taken) (aCons (eVar 0) (aCons (eC (.int 3)) aNil)))) (aCons (eVar 5) aNil))) aNil)) (eArgs bTup (aCons (eArgs (callF F_p_law_taken) (aCons (eVar 0) (aCons (eC (.int 4)) aNil))) aNil))))))
def S_p_law_loop (R : MF) : MS :=
  (sSeq (sSet 3 (eArgs bTup aNil))
    (sSeq (sFor (.nm 4) (iRng1 (eArgs (callF F_p_law_taken) (aCons (eVar 0) (aCons (eOp oAdd (eVar 2) (eC (.int 1))) aNil)))) (B1_p_law_loop R))
    (sRet (eVar 3))))
def F_p_law_loop : Nat → MF
  | 0 => fnF 3 6 sNever
  | k + 1 => fnF 3 6 (S_p_law_loop (F_p_law_loop k))

def B1_p_law_order : MS :=
  (sSeq (sSet 5 (eArgs (callF F_p_law_taken) (aCons (eVar 0) (aCons (eArgs bLen (aCons (eVar 2) aNil)) aNil))))
    (sSeq (sExpr (eMeth mAppend (eVar 3) (aCons (eOp oIx (eVar 2) (eVar 5)) aNil)))
    (sSet 2 (eOp oAdd (eSl (eVar 2) none (some (eVar 5))) (eSl (eVar 2) (some (eOp oAdd (eVar 5) (eC (.int 1)))) none)))))
def S_p_law_order : MS :=
  (sSeq (sPar [2, 3] (aCons (eLstRg (eVar 1)) (aCons (eArgs bLstL aNil) aNil)))
    (sSeq (sFor (.nm 4) (iRng1 (eVar 1)) B1_p_law_order)
    (sRet (eVar 3))))
def F_p_law_order : MF := fnF 2 6 S_p_law_order

def B1_p_law_unrolled (R : MF) : MS :=
  (sSet 1 (eOp oAdd (eVar 1) (eArgs (callF R) (aCons (eOp oIx (eVar 2) (eC (.int 1))) aNil))))
def B2_p_law_unrolled (R : MF) : MS :=
  (sSeq (sFor (.nm 3) (iRng1 (eIf (tTr (eUn (oIsi ["tuple"]) (eVar 2))) (eOp oIx (eVar 2) (eC (.int 0))) (eC (.int 0)))) (B1_p_law_unrolled R))
    (sSet 1 (eOp oAdd (eVar 1) (eIf (tTr (eUn (oIsi ["tuple"]) (eVar 2))) (eArgs bTup aNil) (eArgs bTup (aCons (eVar 2) aNil))))))
def S_p_law_unrolled (R : MF) : MS :=
  (sSeq (sSet 1 (eArgs bTup aNil))
    (sSeq (sFor (.nm 2) (iSeq (eVar 0)) (B2_p_law_unrolled R))
    (sRet (eVar 1))))
def F_p_law_unrolled : Nat → MF
  | 0 => fnF 1 4 sNever
  | k + 1 => fnF 1 4 (S_p_law_unrolled (F_p_law_unrolled k))

def B1_p_boxes_written (R : MF) : MS :=
  (sIf (tTr (eUn (oIsi ["tuple"]) (eVar 2))) (sExpr (eMeth mExtend (eVar 1) (aCons (eArgs (callF R) (aCons (eOp oIx (eVar 2) (eC (.int 1))) aNil)) aNil))) (sExpr (eMeth mAppend (eVar 1) (aCons (eVar 2) aNil))))
def S_p_boxes_written (R : MF) : MS :=
  (sSeq (sSet 1 (eArgs bLstL aNil))
    (sSeq (sFor (.nm 2) (iSeq (eVar 0)) (B1_p_boxes_written R))
    (sRet (eVar 1))))
def F_p_boxes_written : Nat → MF
  | 0 => fnF 1 3 sNever
  | k + 1 => fnF 1 3 (S_p_boxes_written (F_p_boxes_written k))

def S_p_is_whole : MS :=
  (sRet (eAnd (eUn (oIsi ["int"]) (eVar 0)) (eNot (eUn (oIsi ["bool"]) (eVar 0)))))
def F_p_is_whole : MF := fnF 1 1 S_p_is_whole

def S_p_is_number : MS :=
  (sRet (eAnd (eArgs (callF F_p_is_whole) (aCons (eVar 0) aNil)) (eChain oLe oLe (eVar 1) (eVar 0) (eVar 2))))
def F_p_is_number : MF := fnF 3 3 S_p_is_number

def S_p_is_box : MS :=
  (sRet (eArgs (callF F_p_is_number) (aCons (eVar 0) (aCons (eC (.int 0)) (aCons (eOp oSub (eVar 1) (eC (.int 1))) aNil)))))
def F_p_is_box : MF := fnF 2 2 S_p_is_box

def S_p_is_row : MS :=
  (sRet (eAnd (eUn (oIsi ["tuple"]) (eVar 0)) (eOp oEq (eArgs bLen (aCons (eVar 0) aNil)) (eVar 1))))
def F_p_is_row : MF := fnF 2 2 S_p_is_row

def S_p_stretch_firings (R : MF) : MS :=
  (sSeq (sIf (tOr (tNot (tTr (eArgs (callF F_p_is_row) (aCons (eVar 0) (aCons (eC (.int 2)) aNil))))) (tNot (tTr (eArgs (callF F_p_is_number) (aCons (eOp oIx (eVar 0) (eC (.int 0))) (aCons (eC (.int 2)) (aCons (eC (.int 999)) aNil))))))) sNever sNext)
    (sSeq (sSet 2 (eArgs (callF R) (aCons (eOp oIx (eVar 0) (eC (.int 1))) (aCons (eOp oAdd (eVar 1) (eC (.int 1))) aNil))))
    (sSeq (sIf (tV (eOp oEq (eVar 2) (eC (.int 0)))) sNever sNext)
    (sRet (eOp oMul (eOp oIx (eVar 0) (eC (.int 0))) (eVar 2))))))
def FO_p_stretch_firings (R : MF) : MF := fnF 2 3 (S_p_stretch_firings R)

def B1_p_loop_firings (R : MF) : MS :=
  (sSeq (sAug 2 iAdd (eIf (tTr (eArgs (callF F_p_is_box) (aCons (eVar 3) (aCons (eC (.int 8)) aNil)))) (eC (.int 1)) (eArgs (callF (FO_p_stretch_firings R)) (aCons (eVar 3) (aCons (eVar 1) aNil)))))
    (sIf (tV (eOp oGt (eVar 2) (eC (.int 2000)))) sNever sNext))
def S_p_loop_firings (R : MF) : MS :=
  (sSeq (sIf (tOr (tNot (tTr (eUn (oIsi ["tuple"]) (eVar 0)))) (tV (eOp oGt (eVar 1) (eC (.int 8))))) sNever sNext)
    (sSeq (sSet 2 (eC (.int 0)))
    (sSeq (sFor (.nm 3) (iSeq (eVar 0)) (B1_p_loop_firings R))
    (sRet (eVar 2)))))
def F_p_loop_firings : Nat → MF
  | 0 => fnF 2 4 sNever
  | k + 1 => fnF 2 4 (S_p_loop_firings (F_p_loop_firings k))

def S_p_check_loop : MS :=
  (sExpr (eArgs (callF (F_p_loop_firings 12)) (aCons (eVar 0) (aCons (eC (.int 0)) aNil))))
def F_p_check_loop : MF := fnF 1 1 S_p_check_loop

def S_p_appearances : MS :=
  (sSeq (sExpr (eArgs (callF F_p_check_loop) (aCons (eVar 0) aNil)))
    (sRet (eArgs bTuple (aCons (eArgs (callF (F_p_boxes_written 8)) (aCons (eVar 0) aNil)) aNil))))
def F_p_appearances : MF := fnF 1 1 S_p_appearances

def C1_p_deepest (R : MF) : MT :=
  (tTr (eUn (oIsi ["tuple"]) (eVar 1)))
def V2_p_deepest (R : MF) : ME :=
  (eOp oAdd (eC (.int 1)) (eArgs (callF R) (aCons (eOp oIx (eVar 1) (eC (.int 1))) aNil)))
def S_p_deepest (R : MF) : MS :=
  (sRet (eArgs bMaxZ (aCons (eLc [1] (.nm 1) (iSeq (eVar 0)) (C1_p_deepest R) (V2_p_deepest R)) aNil)))
def F_p_deepest : Nat → MF
  | 0 => fnF 1 2 sNever
  | k + 1 => fnF 1 2 (S_p_deepest (F_p_deepest k))

def S_p_depth : MS :=
  (sSeq (sExpr (eArgs (callF F_p_check_loop) (aCons (eVar 0) aNil)))
    (sRet (eArgs (callF (F_p_deepest 8)) (aCons (eVar 0) aNil))))
def F_p_depth : MF := fnF 1 1 S_p_depth

def V1_p_check_foldable : ME :=
  (eArgs (callF F_p_is_box) (aCons (eVar 1) (aCons (eC (.int 8)) aNil)))
def S_p_check_foldable : MS :=
  (sSeq (sIf (tOr (tNot (tTr (eUn (oIsi ["tuple"]) (eVar 0)))) (tNot (tTr (eArgs bAll (aCons (eLc [1] (.nm 1) (iSeq (eVar 0)) J.tYes V1_p_check_foldable) aNil))))) sNever sNext)
    (sIf (tV (eOp oGt (eArgs bLen (aCons (eVar 0) aNil)) (eC (.int 24)))) sNever sNext))
def F_p_check_foldable : MF := fnF 1 2 S_p_check_foldable

def S_p_size : MS :=
  (sRet (eArgs bLen (aCons (eArgs (callF (F_p_boxes_written 8)) (aCons (eVar 0) aNil)) aNil)))
def F_p_size : MF := fnF 1 1 S_p_size

def V1_p_least_code : ME :=
  (eOp oAdd (eOp oIxT (eVar 1) (eArgs bTup (aCons (eVar 2) (aCons (eVar 7) aNil)))) (eOp oIxT (eVar 1) (eArgs bTup (aCons (eVar 7) (aCons (eVar 3) aNil)))))
def B2_p_least_code : MS :=
  (sSeq (sSet 6 (eOp oDiv (eOp oSub (eVar 3) (eVar 2)) (eVar 5)))
    (sIf (tV (eOp oEq (eOp oMul (eSl (eVar 0) (some (eVar 2)) (some (eOp oAdd (eVar 2) (eVar 5)))) (eVar 6)) (eSl (eVar 0) (some (eVar 2)) (some (eVar 3))))) (sExpr (eMeth mAppend (eVar 4) (aCons (eArgs bTup (aCons (eArgs bTup (aCons (eVar 6) (aCons (eOp oIxT (eVar 1) (eArgs bTup (aCons (eVar 2) (aCons (eOp oAdd (eVar 2) (eVar 5)) aNil)))) aNil))) aNil)) aNil))) sNext))
def S_p_least_code : MS :=
  (sSeq (sIf (tV (eOp oEq (eOp oSub (eVar 3) (eVar 2)) (eC (.int 1)))) (sRet (eArgs bTup (aCons (eOp oIx (eVar 0) (eVar 2)) aNil))) sNext)
    (sSeq (sSet 4 (eLcL [7] (.nm 7) (iRng2 (eOp oAdd (eVar 2) (eC (.int 1))) (eVar 3)) J.tYes V1_p_least_code))
    (sSeq (sFor (.nm 5) (iRng2 (eC (.int 1)) (eOp oAdd (eOp oDiv (eOp oSub (eVar 3) (eVar 2)) (eC (.int 2))) (eC (.int 1)))) B2_p_least_code)
    (sRet (eArgs (bMinK F_p_size) (aCons (eVar 4) aNil))))))
def F_p_least_code : MF := fnF 4 8 S_p_least_code

def B1_p_folded : MS :=
  (sPut (eVar 1) (eArgs bTup (aCons (eVar 3) (aCons (eOp oAdd (eVar 3) (eVar 2)) aNil))) (eArgs (callF F_p_least_code) (aCons (eVar 0) (aCons (eVar 1) (aCons (eVar 3) (aCons (eOp oAdd (eVar 3) (eVar 2)) aNil))))))
def B2_p_folded : MS :=
  (sFor (.nm 3) (iRng1 (eOp oAdd (eOp oSub (eArgs bLen (aCons (eVar 0) aNil)) (eVar 2)) (eC (.int 1)))) B1_p_folded)
def S_p_folded : MS :=
  (sSeq (sExpr (eArgs (callF F_p_check_foldable) (aCons (eVar 0) aNil)))
    (sSeq (sSet 1 (eDisp1TL (eArgs bTup (aCons (eC (.int 0)) (aCons (eC (.int 0)) aNil))) (eArgs bTup aNil)))
    (sSeq (sFor (.nm 2) (iRng2 (eC (.int 1)) (eOp oAdd (eArgs bLen (aCons (eVar 0) aNil)) (eC (.int 1)))) B2_p_folded)
    (sRet (eOp oIxT (eVar 1) (eArgs bTup (aCons (eC (.int 0)) (aCons (eArgs bLen (aCons (eVar 0) aNil)) aNil))))))))
def F_p_folded : MF := fnF 1 4 S_p_folded

def S_p_fold_size : MS :=
  (sRet (eArgs (callF F_p_size) (aCons (eArgs (callF F_p_folded) (aCons (eVar 0) aNil)) aNil)))
def F_p_fold_size : MF := fnF 1 1 S_p_fold_size

def B1_p_boxes_said (R : MF) : MS :=
  (sIf (tTr (eUn (oIsi ["tuple"]) (eVar 2))) (sExpr (eMeth mExtend (eVar 1) (aCons (eOp oMulR (eOp oIx (eVar 2) (eC (.int 0))) (eArgs (callF R) (aCons (eOp oIx (eVar 2) (eC (.int 1))) aNil))) aNil))) (sExpr (eMeth mAppend (eVar 1) (aCons (eVar 2) aNil))))
def S_p_boxes_said (R : MF) : MS :=
  (sSeq (sSet 1 (eArgs bLstL aNil))
    (sSeq (sFor (.nm 2) (iSeq (eVar 0)) (B1_p_boxes_said R))
    (sRet (eVar 1))))
def F_p_boxes_said : Nat → MF
  | 0 => fnF 1 3 sNever
  | k + 1 => fnF 1 3 (S_p_boxes_said (F_p_boxes_said k))

def S_p_unrolled : MS :=
  (sSeq (sExpr (eArgs (callF F_p_check_loop) (aCons (eVar 0) aNil)))
    (sRet (eArgs bTuple (aCons (eArgs (callF (F_p_boxes_said 8)) (aCons (eVar 0) aNil)) aNil))))
def F_p_unrolled : MF := fnF 1 1 S_p_unrolled

def S_p_shows_fold : MS :=
  (sSeq (sSet 2 (eArgs (callF F_p_fold_size) (aCons (eVar 0) aNil)))
    (sSeq (sTry (sSet 3 (eArgs (callF F_p_unrolled) (aCons (eVar 1) aNil))))
    (sRet (eAnd (eOp oEq (eVar 3) (eVar 0)) (eOp oEq (eArgs (callF F_p_size) (aCons (eVar 1) aNil)) (eVar 2))))))
def F_p_shows_fold : MF := fnF 2 4 S_p_shows_fold

def V1_p_law : ME :=
  (eArgs (callF F_p_law_taken) (aCons (eVar 1) (aCons (eC (.int 3)) aNil)))
def V2_p_law : ME :=
  (eOp oIx (eVar 6) (eVar 9))
def S_p_law : MS :=
  (sSeq (sSet 1 (eArgs bLstL (aCons (eVar 0) (aCons (eC (.int 0)) (aCons (eC (.int 9876)) (aCons (eC (.int 0)) aNil))))))
    (sSeq (sSet 2 (eSl (eArgs (callF (F_p_law_unrolled 8)) (aCons (eArgs (callF (F_p_law_loop 8)) (aCons (eVar 1) (aCons (eC (.int 2)) (aCons (eC (.int 3)) aNil)))) aNil)) none (some (eC (.int 6)))))
    (sSeq (sSet 3 (eArgs bTuple (aCons (eLc [8] (.nm 8) (iRng1 (eArgs (callF F_p_law_taken) (aCons (eVar 1) (aCons (eC (.int 7)) aNil)))) J.tYes V1_p_law) aNil)))
    (sSeq (sAsg (.tp [(.nm 4), (.nm 5), (.nm 6)]) (eArgs bTup (aCons (eArgs (callF F_p_fold_size) (aCons (eVar 2) aNil)) (aCons (eArgs (callF F_p_fold_size) (aCons (eVar 3) aNil)) (aCons (eArgs (callF F_p_law_order) (aCons (eVar 1) (aCons (eC (.int 8)) aNil))) aNil)))))
    (sSeq (sIf (tOr (tV (eOp oGt (eArgs (callF F_p_fold_size) (aCons (eOp oAdd (eVar 2) (eVar 3)) aNil)) (eOp oAdd (eVar 4) (eVar 5)))) (tOr (tV (eOp oGt (eArgs (callF F_p_fold_size) (aCons (eOp oMulE (eVar 2) (eC (.int 2))) aNil)) (eVar 4))) (tV (eOp oNe (eArgs (callF F_p_fold_size) (aCons (eRev (eVar 2)) aNil)) (eVar 4))))) (sRet (eC (.bl false))) sNext)
    (sSeq (sIf (tOr (tV (eOp oNe (eArgs (callF F_p_fold_size) (aCons (eArgs bTuple (aCons (eLc [9] (.nm 9) (iSeq (eVar 3)) J.tYes V2_p_law) aNil)) aNil)) (eVar 5))) (tV (eOp oNe (eArgs (callF F_p_fold_size) (aCons (eOp oAdd (eArgs bTup (aCons (eC (.int 7)) aNil)) (eVar 3)) aNil)) (eOp oAdd (eVar 5) (eC (.int 1)))))) (sRet (eC (.bl false))) sNext)
    (sSeq (sIf (tOr (tV (eOp oLt (eVar 4) (eLenSetT (eVar 2)))) (tOr (tV (eOp oGt (eVar 4) (eArgs bLen (aCons (eVar 2) aNil)))) (tV (eOp oNe (eOp oEq (eVar 4) (eArgs bLen (aCons (eVar 2) aNil))) (eOp oEq (eArgs (callF F_p_folded) (aCons (eVar 2) aNil)) (eVar 2)))))) (sRet (eC (.bl false))) sNext)
    (sSeq (sSet 7 (eArgs (callF F_p_folded) (aCons (eOp oAdd (eVar 2) (eVar 3)) aNil)))
    (sSeq (sIf (tOr (tV (eOp oNe (eArgs (callF F_p_unrolled) (aCons (eVar 7) aNil)) (eOp oAdd (eVar 2) (eVar 3)))) (tV (eOp oNe (eArgs bLen (aCons (eArgs (callF F_p_appearances) (aCons (eVar 7) aNil)) aNil)) (eArgs (callF F_p_fold_size) (aCons (eOp oAdd (eVar 2) (eVar 3)) aNil))))) (sRet (eC (.bl false))) sNext)
    (sSeq (sIf (tNot (tTr (eArgs (callF F_p_shows_fold) (aCons (eOp oAdd (eVar 2) (eVar 3)) (aCons (eVar 7) aNil))))) (sRet (eC (.bl false))) sNext)
    (sSeq (sIf (tAnd (tV (eOp oNe (eVar 2) (eArgs bTup aNil))) (tV (eOp oNe (eArgs (callF F_p_shows_fold) (aCons (eOp oMulE (eVar 2) (eC (.int 3))) (aCons (eArgs bTup (aCons (eArgs bTup (aCons (eC (.int 3)) (aCons (eArgs (callF F_p_folded) (aCons (eVar 2) aNil)) aNil))) aNil)) aNil))) (eOp oEq (eArgs (callF F_p_fold_size) (aCons (eOp oMulE (eVar 2) (eC (.int 3))) aNil)) (eVar 4))))) (sRet (eC (.bl false))) sNext)
    (sRet (eAnd (eOp oEq (eOp oEq (eArgs (callF F_p_depth) (aCons (eVar 7) aNil)) (eC (.int 0))) (eOp oEq (eVar 7) (eOp oAdd (eVar 2) (eVar 3)))) (eOp oEq (eArgs (callF F_p_fold_size) (aCons (eOp oMulT (eArgs bTup (aCons (eOp oIx (eVar 6) (eC (.int 0))) aNil)) (eC (.int 24))) aNil)) (eC (.int 1))))))))))))))))
def F_p_law : MF := fnF 1 10 S_p_law
end K76
set_option Elab.async false
set_option linter.all false
set_option maxRecDepth 100000
set_option maxHeartbeats 4000000
namespace K76
open PySem PySem.Spec PyProof.Rows L2 J
def topS (i : Nat) : Stmt := PySem.Challenge.pw_rateflows_k76_across_folds.main.body.getD i (.Pass ⟨0, 0, 0, 0⟩)
def clsS (i j : Nat) : Stmt := match topS i with
  | .ClassDef (body := b) .. => b.getD j (.Pass ⟨0, 0, 0, 0⟩)
  | s => s
structure Top (K : PySem.W.Frag) (mg : Str → Option Value) : Prop where
  all : mg "all" = none
  bool : mg "bool" = none
  int : mg "int" = none
  isinstance : mg "isinstance" = none
  len : mg "len" = none
  list : mg "list" = none
  max : mg "max" = none
  min : mg "min" = none
  range : mg "range" = none
  set : mg "set" = none
  tuple : mg "tuple" = none
  c_MOST_BOXES : ∃ t, mg "MOST_BOXES" = some (.int 8 t)
  c_MOST_DEPTH : ∃ t, mg "MOST_DEPTH" = some (.int 8 t)
  c_MOST_FIRINGS : ∃ t, mg "MOST_FIRINGS" = some (.int 2000 t)
  c_MOST_FOLDED : ∃ t, mg "MOST_FOLDED" = some (.int 24 t)
  c_MOST_TIMES : ∃ t, mg "MOST_TIMES" = some (.int 999 t)
section
variable {P : Program} {wd : World} {K : PySem.W.Frag} {mg : Str → Option Value} {base : Heap}
abbrev st_p_law_taken : Stmt := topS 33
abbrev N_p_law_taken : List Str := ["row", "many", "found", "cell"]
theorem sc_p_law_taken : FnScope N_p_law_taken ["row", "many"] (defScope st_p_law_taken) := ⟨rfl, rfl, rfl, by decide +kernel, rfl, by decide +kernel, by decide +kernel⟩
theorem ok_p_law_taken {f : Addr} {fd : FuncData} (F : Fun K "_law_taken" "_law_taken" st_p_law_taken f fd) (hm : mg "_law_taken" = some (.ref f)) (b : Binds K fd ["row", "many"] []) (T : Top K mg)  : Fok P wd ⟨K, mg⟩ base 1 "_law_taken" 2 F_p_law_taken :=
  fok_of (N := N_p_law_taken) F sc_p_law_taken hm b (fun cdv A outer s H E c =>
    (ds_cons (ds_if (dt_cmp jo_gt (de_ix (jo_ix c.u1) (de_var (pv 0)) de_int (fun _ _ => rfl)) de_int (nomark _)) (ds_cons (ds_set (fun te h => ps_set (i := 2) sc_p_law_taken.nd rfl (Or.inl rfl) h) (de_op jo_mod (de_callTy jc_int (by rfl) T.int (by decide +kernel) (da_cons (de_ix (jo_ix c.u1) (de_var (pv 0)) de_int (fun _ _ => rfl)) da_nil)) (de_var (pv 1))))
    (ds_cons (ds_put (de_var (pv 0)) de_int (de_op jo_div (de_ix (jo_ix c.u1) (de_var (pv 0)) de_int (fun _ _ => rfl)) (de_var (pv 1))) c.u1)
    (ds_one (ds_ret (de_var (pv 2)))))) ds_nil)
    (ds_cons (ds_put (de_var (pv 0)) de_int (de_op jo_add (de_ix (jo_ix c.u1) (de_var (pv 0)) de_int (fun _ _ => rfl)) de_int) c.u1)
    (ds_cons (ds_if (dt_cmp jo_gt (de_ix (jo_ix c.u1) (de_var (pv 0)) de_int (fun _ _ => rfl)) (de_callB jc_len (by rfl) T.len (by decide +kernel) (da_cons (de_ix (jo_ix c.u1) (de_var (pv 0)) de_int (fun _ _ => rfl)) da_nil)) (nomark _)) (ds_cons (ds_put (de_var (pv 0)) de_int (de_op jo_mod (de_callTy jc_int (by rfl) T.int (by decide +kernel) (da_cons (de_op jo_add (de_op jo_mul (de_ix (jo_ix c.u1) (de_var (pv 0)) de_int (fun _ _ => rfl)) de_int) de_int) da_nil)) de_int) c.u1)
    (ds_one (ds_ret (de_op jo_mod (de_callTy jc_int (by rfl) T.int (by decide +kernel) (da_cons (de_op jo_div (de_ix (jo_ix c.u1) (de_var (pv 0)) de_int (fun _ _ => rfl)) de_int) da_nil)) (de_var (pv 1)))))) ds_nil)
    (ds_cons (ds_set (fun te h => ps_set (i := 3) sc_p_law_taken.nd rfl (Or.inl rfl) h) (de_ix (jo_ix c.u1) (de_ix (jo_ix c.u1) (de_var (pv 0)) de_int (fun _ _ => rfl)) (de_op jo_sub (de_ix (jo_ix c.u1) (de_var (pv 0)) de_int (fun _ _ => rfl)) de_int) (fun _ _ => rfl)))
    (ds_cons (ds_put (de_var (pv 0)) de_int (de_op jo_mod (de_callTy jc_int (by rfl) T.int (by decide +kernel) (da_cons (de_op jo_add (de_op jo_add (de_op jo_mul (de_ix (jo_ix c.u1) (de_var (pv 0)) de_int (fun _ _ => rfl)) de_int) (de_var (pv 3))) de_int) da_nil)) de_int) c.u1)
    (ds_cons (ds_if (dt_cmp jo_ge (de_var (pv 3)) (de_op jo_pow de_int de_int) (nomark _)) (ds_one (ds_put (de_var (pv 0)) de_int (de_op jo_div (de_var (pv 3)) (de_var (pv 1))) c.u1)) ds_nil)
    (ds_one (ds_ret (de_op jo_mod (de_callTy jc_int (by rfl) T.int (by decide +kernel) (da_cons (de_var (pv 3)) da_nil)) (de_var (pv 1))))))))))))
abbrev st_p_law_loop : Stmt := topS 34
abbrev N_p_law_loop : List Str := ["row", "deep", "most", "found", "turn", "body"]
theorem sc_p_law_loop : FnScope N_p_law_loop ["row", "deep", "most"] (defScope st_p_law_loop) := ⟨rfl, rfl, rfl, by decide +kernel, rfl, by decide +kernel, by decide +kernel⟩
theorem okS_p_law_loop {f : Addr} {fd : FuncData} (F : Fun K "_law_loop" "_law_loop" st_p_law_loop f fd) (hm : mg "_law_loop" = some (.ref f)) (b : Binds K fd ["row", "deep", "most"] []) (T : Top K mg) (H_p_law_taken : Fok P wd ⟨K, mg⟩ base 1 "_law_taken" 2 F_p_law_taken) (n : Nat) (R : MF) (H_p_law_loop : Fok P wd ⟨K, mg⟩ base (n + 2) "_law_loop" 3 R) : Fok P wd ⟨K, mg⟩ base (n + 2 + 1) "_law_loop" 3 (fnF 3 6 (S_p_law_loop R)) :=
  fok_of (N := N_p_law_loop) F sc_p_law_loop hm b (fun cdv A outer s H E c =>
    (ds_cons (ds_set (fun te h => ps_set (i := 3) sc_p_law_loop.nd rfl (Or.inl rfl) h) (de_tup da_nil))
    (ds_cons (ds_for c.po c.calm (di_rng1 (by rfl) T.range (da_cons (de_call H_p_law_taken (by omega) c.hr c.tk (by rfl) (by rfl) (da_cons (de_var (pv 0)) (da_cons (de_op jo_add (de_var (pv 2)) de_int) da_nil)) (hlen := (alen_cons (alen_cons alen_nil)))) da_nil)) (dg_name (pg_name (i := 4) sc_p_law_loop.nd rfl (Or.inl rfl))) (ds_cons (ds_set (fun te h => ps_set (i := 5) sc_p_law_loop.nd rfl (Or.inl rfl) h) (de_if (PW.pt (dw_and (dt_cmp jo_gt (de_var (pv 1)) de_int (nomark _)) (dw_and1 (dt_cmp (jo_eq c.u64) (de_call H_p_law_taken (by omega) c.hr c.tk (by rfl) (by rfl) (da_cons (de_var (pv 0)) (da_cons de_int da_nil)) (hlen := (alen_cons (alen_cons alen_nil)))) de_int (nomark _))))) (de_call H_p_law_loop (by omega) c.hr c.tk (by rfl) (by rfl) (da_cons (de_var (pv 0)) (da_cons (de_op jo_sub (de_var (pv 1)) de_int) (da_cons de_int da_nil))) (hlen := (alen_cons (alen_cons (alen_cons alen_nil))))) (de_tup da_nil)))
    (ds_one (ds_set (fun te h => ps_set (i := 3) sc_p_law_loop.nd rfl (Or.inl rfl) h) (de_op jo_add (de_var (pv 3)) (de_if (dt_cmp (jo_ne c.u64) (de_var (pv 5)) (de_tup da_nil) (nomark _)) (de_tup (da_cons (de_tup (da_cons (de_op jo_add de_int (de_call H_p_law_taken (by omega) c.hr c.tk (by rfl) (by rfl) (da_cons (de_var (pv 0)) (da_cons de_int da_nil)) (hlen := (alen_cons (alen_cons alen_nil))))) (da_cons (de_var (pv 5)) da_nil))) da_nil)) (de_tup (da_cons (de_call H_p_law_taken (by omega) c.hr c.tk (by rfl) (by rfl) (da_cons (de_var (pv 0)) (da_cons de_int da_nil)) (hlen := (alen_cons (alen_cons alen_nil)))) da_nil))))))))
    (ds_one (ds_ret (de_var (pv 3)))))))
theorem okA_p_law_loop {f : Addr} {fd : FuncData} (F : Fun K "_law_loop" "_law_loop" st_p_law_loop f fd) (hm : mg "_law_loop" = some (.ref f)) (b : Binds K fd ["row", "deep", "most"] []) (T : Top K mg) (H_p_law_taken : Fok P wd ⟨K, mg⟩ base 1 "_law_taken" 2 F_p_law_taken) : ∀ n : Nat, Fok P wd ⟨K, mg⟩ base (n + 2) "_law_loop" 3 (F_p_law_loop n)
  | 0 => (fok_of (N := N_p_law_loop) (k := 0) F sc_p_law_loop hm b (fun cdv A outer s H E c => dss_never)).mono (by decide)
  | n + 1 => (okS_p_law_loop F hm b T H_p_law_taken n _ (okA_p_law_loop F hm b T H_p_law_taken n)).mono (by omega)
theorem ok_p_law_loop {f : Addr} {fd : FuncData} (F : Fun K "_law_loop" "_law_loop" st_p_law_loop f fd) (hm : mg "_law_loop" = some (.ref f)) (b : Binds K fd ["row", "deep", "most"] []) (T : Top K mg) (H_p_law_taken : Fok P wd ⟨K, mg⟩ base 1 "_law_taken" 2 F_p_law_taken) : Fok P wd ⟨K, mg⟩ base 10 "_law_loop" 3 (F_p_law_loop 8) :=
  okA_p_law_loop F hm b T H_p_law_taken 8
abbrev st_p_law_order : Stmt := topS 35
abbrev N_p_law_order : List Str := ["row", "many", "left", "found", "turn", "at"]
theorem sc_p_law_order : FnScope N_p_law_order ["row", "many"] (defScope st_p_law_order) := ⟨rfl, rfl, rfl, by decide +kernel, rfl, by decide +kernel, by decide +kernel⟩
theorem ok_p_law_order {f : Addr} {fd : FuncData} (F : Fun K "_law_order" "_law_order" st_p_law_order f fd) (hm : mg "_law_order" = some (.ref f)) (b : Binds K fd ["row", "many"] []) (T : Top K mg) (H_p_law_taken : Fok P wd ⟨K, mg⟩ base 1 "_law_taken" 2 F_p_law_taken) : Fok P wd ⟨K, mg⟩ base 2 "_law_order" 2 F_p_law_order :=
  fok_of (N := N_p_law_order) F sc_p_law_order hm b (fun cdv A outer s H E c =>
    (ds_cons (ds_par (fun t h => ps_par (i := 2) (j := 3) c.calm sc_p_law_order.nd rfl rfl (by decide) rfl rfl h (by rfl)) (da_cons (de_lstRg c.calm (by rfl) T.list (by rfl) T.range (de_var (pv 1))) (da_cons (de_lstL da_nil) da_nil)))
    (ds_cons (ds_for c.po c.calm (di_rng1 (by rfl) T.range (da_cons (de_var (pv 1)) da_nil)) (dg_name (pg_name (i := 4) sc_p_law_order.nd rfl (Or.inl rfl))) (ds_cons (ds_set (fun te h => ps_set (i := 5) sc_p_law_order.nd rfl (Or.inl rfl) h) (de_call H_p_law_taken (by decide) c.hr c.tk (by rfl) (by rfl) (da_cons (de_var (pv 0)) (da_cons (de_callB jc_len (by rfl) T.len (by decide +kernel) (da_cons (de_var (pv 2)) da_nil)) da_nil)) (hlen := (alen_cons (alen_cons alen_nil)))))
    (ds_cons (ds_expr (de_meth PySem.F.slot_list_append PySem.F.type_list_append jm_append (de_var (pv 3)) (da_cons (de_ix (jo_ix c.u1) (de_var (pv 2)) (de_var (pv 5)) (fun _ _ => rfl)) da_nil)))
    (ds_one (ds_set (fun te h => ps_set (i := 2) sc_p_law_order.nd rfl (Or.inl rfl) h) (de_op jo_add (de_slice (de_var (pv 2)) dp_none (dp_some (de_var (pv 5)))) (de_slice (de_var (pv 2)) (dp_some (de_op jo_add (de_var (pv 5)) de_int)) dp_none)))))))
    (ds_one (ds_ret (de_var (pv 3)))))))
abbrev st_p_law_unrolled : Stmt := topS 32
abbrev N_p_law_unrolled : List Str := ["loop", "found", "item", "turn"]
theorem sc_p_law_unrolled : FnScope N_p_law_unrolled ["loop"] (defScope st_p_law_unrolled) := ⟨rfl, rfl, rfl, by decide +kernel, rfl, by decide +kernel, by decide +kernel⟩
theorem okS_p_law_unrolled {f : Addr} {fd : FuncData} (F : Fun K "_law_unrolled" "_law_unrolled" st_p_law_unrolled f fd) (hm : mg "_law_unrolled" = some (.ref f)) (b : Binds K fd ["loop"] []) (T : Top K mg)  (n : Nat) (R : MF) (H_p_law_unrolled : Fok P wd ⟨K, mg⟩ base (n + 1) "_law_unrolled" 1 R) : Fok P wd ⟨K, mg⟩ base (n + 1 + 1) "_law_unrolled" 1 (fnF 1 4 (S_p_law_unrolled R)) :=
  fok_of (N := N_p_law_unrolled) F sc_p_law_unrolled hm b (fun cdv A outer s H E c =>
    (ds_cons (ds_set (fun te h => ps_set (i := 1) sc_p_law_unrolled.nd rfl (Or.inl rfl) h) (de_tup da_nil))
    (ds_cons (ds_for c.po c.calm (di_seq (de_var (pv 0))) (dg_name (pg_name (i := 2) sc_p_law_unrolled.nd rfl (Or.inl rfl))) (ds_cons (ds_for c.po c.calm (di_rng1 (by rfl) T.range (da_cons (de_if (dt_truth (jc_isi (x := "isinstance") (by decide) (de_var (pv 2)) (pe_bltn (v := .ty "tuple") (by rfl) T.tuple (by decide +kernel) rfl) (by rfl) T.isinstance)) (de_ix (jo_ix c.u1) (de_var (pv 2)) de_int (fun _ _ => rfl)) de_int) da_nil)) (dg_name (pg_name (i := 3) sc_p_law_unrolled.nd rfl (Or.inl rfl))) (ds_one (ds_set (fun te h => ps_set (i := 1) sc_p_law_unrolled.nd rfl (Or.inl rfl) h) (de_op jo_add (de_var (pv 1)) (de_call H_p_law_unrolled (by omega) c.hr c.tk (by rfl) (by rfl) (da_cons (de_ix (jo_ix c.u1) (de_var (pv 2)) de_int (fun _ _ => rfl)) da_nil) (hlen := (alen_cons alen_nil)))))))
    (ds_one (ds_set (fun te h => ps_set (i := 1) sc_p_law_unrolled.nd rfl (Or.inl rfl) h) (de_op jo_add (de_var (pv 1)) (de_if (dt_truth (jc_isi (x := "isinstance") (by decide) (de_var (pv 2)) (pe_bltn (v := .ty "tuple") (by rfl) T.tuple (by decide +kernel) rfl) (by rfl) T.isinstance)) (de_tup da_nil) (de_tup (da_cons (de_var (pv 2)) da_nil))))))))
    (ds_one (ds_ret (de_var (pv 1)))))))
theorem okA_p_law_unrolled {f : Addr} {fd : FuncData} (F : Fun K "_law_unrolled" "_law_unrolled" st_p_law_unrolled f fd) (hm : mg "_law_unrolled" = some (.ref f)) (b : Binds K fd ["loop"] []) (T : Top K mg)  : ∀ n : Nat, Fok P wd ⟨K, mg⟩ base (n + 1) "_law_unrolled" 1 (F_p_law_unrolled n)
  | 0 => (fok_of (N := N_p_law_unrolled) (k := 0) F sc_p_law_unrolled hm b (fun cdv A outer s H E c => dss_never)).mono (by decide)
  | n + 1 => (okS_p_law_unrolled F hm b T  n _ (okA_p_law_unrolled F hm b T  n)).mono (by omega)
theorem ok_p_law_unrolled {f : Addr} {fd : FuncData} (F : Fun K "_law_unrolled" "_law_unrolled" st_p_law_unrolled f fd) (hm : mg "_law_unrolled" = some (.ref f)) (b : Binds K fd ["loop"] []) (T : Top K mg)  : Fok P wd ⟨K, mg⟩ base 9 "_law_unrolled" 1 (F_p_law_unrolled 8) :=
  okA_p_law_unrolled F hm b T  8
abbrev st_p_boxes_written : Stmt := topS 27
abbrev N_p_boxes_written : List Str := ["loop", "boxes", "item"]
theorem sc_p_boxes_written : FnScope N_p_boxes_written ["loop"] (defScope st_p_boxes_written) := ⟨rfl, rfl, rfl, by decide +kernel, rfl, by decide +kernel, by decide +kernel⟩
theorem okS_p_boxes_written {f : Addr} {fd : FuncData} (F : Fun K "boxes_written" "boxes_written" st_p_boxes_written f fd) (hm : mg "boxes_written" = some (.ref f)) (b : Binds K fd ["loop"] []) (T : Top K mg)  (n : Nat) (R : MF) (H_p_boxes_written : Fok P wd ⟨K, mg⟩ base (n + 1) "boxes_written" 1 R) : Fok P wd ⟨K, mg⟩ base (n + 1 + 1) "boxes_written" 1 (fnF 1 3 (S_p_boxes_written R)) :=
  fok_of (N := N_p_boxes_written) F sc_p_boxes_written hm b (fun cdv A outer s H E c =>
    (ds_cons (ds_set (fun te h => ps_set (i := 1) sc_p_boxes_written.nd rfl (Or.inl rfl) h) (de_lstL da_nil))
    (ds_cons (ds_for c.po c.calm (di_seq (de_var (pv 0))) (dg_name (pg_name (i := 2) sc_p_boxes_written.nd rfl (Or.inl rfl))) (ds_one (ds_if (dt_truth (jc_isi (x := "isinstance") (by decide) (de_var (pv 2)) (pe_bltn (v := .ty "tuple") (by rfl) T.tuple (by decide +kernel) rfl) (by rfl) T.isinstance)) (ds_one (ds_expr (de_meth PySem.F.slot_list_extend PySem.F.type_list_extend jm_extend (de_var (pv 1)) (da_cons (de_call H_p_boxes_written (by omega) c.hr c.tk (by rfl) (by rfl) (da_cons (de_ix (jo_ix c.u1) (de_var (pv 2)) de_int (fun _ _ => rfl)) da_nil) (hlen := (alen_cons alen_nil))) da_nil)))) (ds_one (ds_expr (de_meth PySem.F.slot_list_append PySem.F.type_list_append jm_append (de_var (pv 1)) (da_cons (de_var (pv 2)) da_nil)))))))
    (ds_one (ds_ret (de_var (pv 1)))))))
theorem okA_p_boxes_written {f : Addr} {fd : FuncData} (F : Fun K "boxes_written" "boxes_written" st_p_boxes_written f fd) (hm : mg "boxes_written" = some (.ref f)) (b : Binds K fd ["loop"] []) (T : Top K mg)  : ∀ n : Nat, Fok P wd ⟨K, mg⟩ base (n + 1) "boxes_written" 1 (F_p_boxes_written n)
  | 0 => (fok_of (N := N_p_boxes_written) (k := 0) F sc_p_boxes_written hm b (fun cdv A outer s H E c => dss_never)).mono (by decide)
  | n + 1 => (okS_p_boxes_written F hm b T  n _ (okA_p_boxes_written F hm b T  n)).mono (by omega)
theorem ok_p_boxes_written {f : Addr} {fd : FuncData} (F : Fun K "boxes_written" "boxes_written" st_p_boxes_written f fd) (hm : mg "boxes_written" = some (.ref f)) (b : Binds K fd ["loop"] []) (T : Top K mg)  : Fok P wd ⟨K, mg⟩ base 9 "boxes_written" 1 (F_p_boxes_written 8) :=
  okA_p_boxes_written F hm b T  8
abbrev st_p_is_whole : Stmt := topS 10
abbrev N_p_is_whole : List Str := ["value"]
theorem sc_p_is_whole : FnScope N_p_is_whole ["value"] (defScope st_p_is_whole) := ⟨rfl, rfl, rfl, by decide +kernel, rfl, by decide +kernel, by decide +kernel⟩
theorem ok_p_is_whole {f : Addr} {fd : FuncData} (F : Fun K "is_whole" "is_whole" st_p_is_whole f fd) (hm : mg "is_whole" = some (.ref f)) (b : Binds K fd ["value"] []) (T : Top K mg)  : Fok P wd ⟨K, mg⟩ base 1 "is_whole" 1 F_p_is_whole :=
  fok_of (N := N_p_is_whole) F sc_p_is_whole hm b (fun cdv A outer s H E c =>
    (ds_one (ds_ret (de_and (jc_isi (x := "isinstance") (by decide) (de_var (pv 0)) (pe_bltn (v := .ty "int") (by rfl) T.int (by decide +kernel) rfl) (by rfl) T.isinstance) (de_one (de_not (jc_isi (x := "isinstance") (by decide) (de_var (pv 0)) (pe_bltn (v := .ty "bool") (by rfl) T.bool (by decide +kernel) rfl) (by rfl) T.isinstance)))))))
abbrev st_p_is_number : Stmt := topS 11
abbrev N_p_is_number : List Str := ["value", "low", "high"]
theorem sc_p_is_number : FnScope N_p_is_number ["value", "low", "high"] (defScope st_p_is_number) := ⟨rfl, rfl, rfl, by decide +kernel, rfl, by decide +kernel, by decide +kernel⟩
theorem ok_p_is_number {f : Addr} {fd : FuncData} (F : Fun K "is_number" "is_number" st_p_is_number f fd) (hm : mg "is_number" = some (.ref f)) (b : Binds K fd ["value", "low", "high"] []) (T : Top K mg) (H_p_is_whole : Fok P wd ⟨K, mg⟩ base 1 "is_whole" 1 F_p_is_whole) : Fok P wd ⟨K, mg⟩ base 2 "is_number" 3 F_p_is_number :=
  fok_of (N := N_p_is_number) F sc_p_is_number hm b (fun cdv A outer s H E c =>
    (ds_one (ds_ret (de_and (de_call H_p_is_whole (by decide) c.hr c.tk (by rfl) (by rfl) (da_cons (de_var (pv 0)) da_nil) (hlen := (alen_cons alen_nil))) (de_one (de_chain jo_le jo_le (de_var (pv 1)) (de_var (pv 0)) (de_var (pv 2))))))))
abbrev st_p_is_box : Stmt := topS 12
abbrev N_p_is_box : List Str := ["value", "boxes"]
theorem sc_p_is_box : FnScope N_p_is_box ["value", "boxes"] (defScope st_p_is_box) := ⟨rfl, rfl, rfl, by decide +kernel, rfl, by decide +kernel, by decide +kernel⟩
theorem ok_p_is_box {f : Addr} {fd : FuncData} (F : Fun K "is_box" "is_box" st_p_is_box f fd) (hm : mg "is_box" = some (.ref f)) (b : Binds K fd ["value", "boxes"] []) (T : Top K mg) (H_p_is_number : Fok P wd ⟨K, mg⟩ base 2 "is_number" 3 F_p_is_number) : Fok P wd ⟨K, mg⟩ base 3 "is_box" 2 F_p_is_box :=
  fok_of (N := N_p_is_box) F sc_p_is_box hm b (fun cdv A outer s H E c =>
    (ds_one (ds_ret (de_call H_p_is_number (by decide) c.hr c.tk (by rfl) (by rfl) (da_cons (de_var (pv 0)) (da_cons de_int (da_cons (de_op jo_sub (de_var (pv 1)) de_int) da_nil))) (hlen := (alen_cons (alen_cons (alen_cons alen_nil))))))))
abbrev st_p_is_row : Stmt := topS 13
abbrev N_p_is_row : List Str := ["value", "many"]
theorem sc_p_is_row : FnScope N_p_is_row ["value", "many"] (defScope st_p_is_row) := ⟨rfl, rfl, rfl, by decide +kernel, rfl, by decide +kernel, by decide +kernel⟩
theorem ok_p_is_row {f : Addr} {fd : FuncData} (F : Fun K "is_row" "is_row" st_p_is_row f fd) (hm : mg "is_row" = some (.ref f)) (b : Binds K fd ["value", "many"] []) (T : Top K mg)  : Fok P wd ⟨K, mg⟩ base 1 "is_row" 2 F_p_is_row :=
  fok_of (N := N_p_is_row) F sc_p_is_row hm b (fun cdv A outer s H E c =>
    (ds_one (ds_ret (de_and (jc_isi (x := "isinstance") (by decide) (de_var (pv 0)) (pe_bltn (v := .ty "tuple") (by rfl) T.tuple (by decide +kernel) rfl) (by rfl) T.isinstance) (de_one (de_cmp (jo_eq c.u64) (de_callB jc_len (by rfl) T.len (by decide +kernel) (da_cons (de_var (pv 0)) da_nil)) (de_var (pv 1)) (nomark _)))))))
abbrev st_p_stretch_firings : Stmt := topS 16
abbrev N_p_stretch_firings : List Str := ["item", "depth", "body"]
theorem sc_p_stretch_firings : FnScope N_p_stretch_firings ["item", "depth"] (defScope st_p_stretch_firings) := ⟨rfl, rfl, rfl, by decide +kernel, rfl, by decide +kernel, by decide +kernel⟩
theorem okS_p_stretch_firings {f : Addr} {fd : FuncData} (F : Fun K "stretch_firings" "stretch_firings" st_p_stretch_firings f fd) (hm : mg "stretch_firings" = some (.ref f)) (b : Binds K fd ["item", "depth"] []) (T : Top K mg) (H_p_is_number : Fok P wd ⟨K, mg⟩ base 2 "is_number" 3 F_p_is_number) (H_p_is_row : Fok P wd ⟨K, mg⟩ base 1 "is_row" 2 F_p_is_row) (n : Nat) (R : MF) (H_p_loop_firings : Fok P wd ⟨K, mg⟩ base n "loop_firings" 2 R) (hn : 3 ≤ n) : Fok P wd ⟨K, mg⟩ base (n + 1) "stretch_firings" 2 (FO_p_stretch_firings R) :=
  fok_of (N := N_p_stretch_firings) F sc_p_stretch_firings hm b (fun cdv A outer s H E c =>
    (ds_cons (ds_if (PW.pt (dw_or (dt_not (dt_truth (de_call H_p_is_row (by omega) c.hr c.tk (by rfl) (by rfl) (da_cons (de_var (pv 0)) (da_cons de_int da_nil)) (hlen := (alen_cons (alen_cons alen_nil)))))) (dw_or1 (dt_not (dt_truth (de_call H_p_is_number (by omega) c.hr c.tk (by rfl) (by rfl) (da_cons (de_ix (jo_ix c.u1) (de_var (pv 0)) de_int (fun _ _ => rfl)) (da_cons de_int (da_cons (de_c (pe_glob (v := .int 999) (by rfl) T.c_MOST_TIMES.choose_spec ⟨_, rfl⟩) fun _ => rfl) da_nil))) (hlen := (alen_cons (alen_cons (alen_cons alen_nil)))))))))) (ds_one ds_never) ds_nil)
    (ds_cons (ds_set (fun te h => ps_set (i := 2) sc_p_stretch_firings.nd rfl (Or.inl rfl) h) (de_call H_p_loop_firings (by omega) c.hr c.tk (by rfl) (by rfl) (da_cons (de_ix (jo_ix c.u1) (de_var (pv 0)) de_int (fun _ _ => rfl)) (da_cons (de_op jo_add (de_var (pv 1)) de_int) da_nil)) (hlen := (alen_cons (alen_cons alen_nil)))))
    (ds_cons (ds_if (dt_cmp (jo_eq c.u64) (de_var (pv 2)) de_int (nomark _)) (ds_one ds_never) ds_nil)
    (ds_one (ds_ret (de_op jo_mul (de_ix (jo_ix c.u1) (de_var (pv 0)) de_int (fun _ _ => rfl)) (de_var (pv 2)))))))))
abbrev st_p_loop_firings : Stmt := topS 15
abbrev N_p_loop_firings : List Str := ["items", "depth", "many", "item"]
theorem sc_p_loop_firings : FnScope N_p_loop_firings ["items", "depth"] (defScope st_p_loop_firings) := ⟨rfl, rfl, rfl, by decide +kernel, rfl, by decide +kernel, by decide +kernel⟩
theorem okS_p_loop_firings {f : Addr} {fd : FuncData} (F : Fun K "loop_firings" "loop_firings" st_p_loop_firings f fd) (hm : mg "loop_firings" = some (.ref f)) (b : Binds K fd ["items", "depth"] []) {f2 : Addr} {fd2 : FuncData} (F2 : Fun K "stretch_firings" "stretch_firings" st_p_stretch_firings f2 fd2) (hm2 : mg "stretch_firings" = some (.ref f2)) (b2 : Binds K fd2 ["item", "depth"] []) (T : Top K mg) (H_p_is_box : Fok P wd ⟨K, mg⟩ base 3 "is_box" 2 F_p_is_box) (H_p_is_number : Fok P wd ⟨K, mg⟩ base 2 "is_number" 3 F_p_is_number) (H_p_is_row : Fok P wd ⟨K, mg⟩ base 1 "is_row" 2 F_p_is_row) (n : Nat) (hn : 4 ≤ n) (R : MF) (H_p_loop_firings : Fok P wd ⟨K, mg⟩ base n "loop_firings" 2 R) : Fok P wd ⟨K, mg⟩ base (n + 2) "loop_firings" 2 (fnF 2 4 (S_p_loop_firings R)) := by
  have H_p_stretch_firings := okS_p_stretch_firings F2 hm2 b2 T H_p_is_number H_p_is_row n R H_p_loop_firings (by omega)
  exact fok_of (N := N_p_loop_firings) F sc_p_loop_firings hm b (fun cdv A outer s H E c =>
    (ds_cons (ds_if (PW.pt (dw_or (dt_not (dt_truth (jc_isi (x := "isinstance") (by decide) (de_var (pv 0)) (pe_bltn (v := .ty "tuple") (by rfl) T.tuple (by decide +kernel) rfl) (by rfl) T.isinstance))) (dw_or1 (dt_cmp jo_gt (de_var (pv 1)) (de_c (pe_glob (v := .int 8) (by rfl) T.c_MOST_DEPTH.choose_spec ⟨_, rfl⟩) fun _ => rfl) (nomark _))))) (ds_one ds_never) ds_nil)
    (ds_cons (ds_set (fun te h => ps_set (i := 2) sc_p_loop_firings.nd rfl (Or.inl rfl) h) de_int)
    (ds_cons (ds_for c.po c.calm (di_seq (de_var (pv 0))) (dg_name (pg_name (i := 3) sc_p_loop_firings.nd rfl (Or.inl rfl))) (ds_cons (ds_aug (i := 2) sc_p_loop_firings.nd rfl (Or.inl rfl) (de_if (dt_truth (de_call H_p_is_box (by omega) c.hr c.tk (by rfl) (by rfl) (da_cons (de_var (pv 3)) (da_cons (de_c (pe_glob (v := .int 8) (by rfl) T.c_MOST_BOXES.choose_spec ⟨_, rfl⟩) fun _ => rfl) da_nil)) (hlen := (alen_cons (alen_cons alen_nil))))) de_int (de_call H_p_stretch_firings (by omega) c.hr c.tk (by rfl) (by rfl) (da_cons (de_var (pv 3)) (da_cons (de_var (pv 1)) da_nil)) (hlen := (alen_cons (alen_cons alen_nil))))) ji_add (.inl rfl))
    (ds_one (ds_if (dt_cmp jo_gt (de_var (pv 2)) (de_c (pe_glob (v := .int 2000) (by rfl) T.c_MOST_FIRINGS.choose_spec ⟨_, rfl⟩) fun _ => rfl) (nomark _)) (ds_one ds_never) ds_nil))))
    (ds_one (ds_ret (de_var (pv 2))))))))
theorem okA_p_loop_firings {f : Addr} {fd : FuncData} (F : Fun K "loop_firings" "loop_firings" st_p_loop_firings f fd) (hm : mg "loop_firings" = some (.ref f)) (b : Binds K fd ["items", "depth"] []) {f2 : Addr} {fd2 : FuncData} (F2 : Fun K "stretch_firings" "stretch_firings" st_p_stretch_firings f2 fd2) (hm2 : mg "stretch_firings" = some (.ref f2)) (b2 : Binds K fd2 ["item", "depth"] []) (T : Top K mg) (H_p_is_box : Fok P wd ⟨K, mg⟩ base 3 "is_box" 2 F_p_is_box) (H_p_is_number : Fok P wd ⟨K, mg⟩ base 2 "is_number" 3 F_p_is_number) (H_p_is_row : Fok P wd ⟨K, mg⟩ base 1 "is_row" 2 F_p_is_row) : ∀ n : Nat, Fok P wd ⟨K, mg⟩ base (2 * n + 4) "loop_firings" 2 (F_p_loop_firings n)
  | 0 => (fok_of (N := N_p_loop_firings) (k := 0) F sc_p_loop_firings hm b (fun cdv A outer s H E c => dss_never)).mono (by decide)
  | n + 1 => (okS_p_loop_firings F hm b F2 hm2 b2 T H_p_is_box H_p_is_number H_p_is_row (2 * n + 4) (by omega) _ (okA_p_loop_firings F hm b F2 hm2 b2 T H_p_is_box H_p_is_number H_p_is_row n)).mono (by omega)
theorem ok_p_loop_firings {f : Addr} {fd : FuncData} (F : Fun K "loop_firings" "loop_firings" st_p_loop_firings f fd) (hm : mg "loop_firings" = some (.ref f)) (b : Binds K fd ["items", "depth"] []) {f2 : Addr} {fd2 : FuncData} (F2 : Fun K "stretch_firings" "stretch_firings" st_p_stretch_firings f2 fd2) (hm2 : mg "stretch_firings" = some (.ref f2)) (b2 : Binds K fd2 ["item", "depth"] []) (T : Top K mg) (H_p_is_box : Fok P wd ⟨K, mg⟩ base 3 "is_box" 2 F_p_is_box) (H_p_is_number : Fok P wd ⟨K, mg⟩ base 2 "is_number" 3 F_p_is_number) (H_p_is_row : Fok P wd ⟨K, mg⟩ base 1 "is_row" 2 F_p_is_row) : Fok P wd ⟨K, mg⟩ base 28 "loop_firings" 2 (F_p_loop_firings 12) :=
  (okA_p_loop_firings F hm b F2 hm2 b2 T H_p_is_box H_p_is_number H_p_is_row 12).mono (by decide)
abbrev st_p_check_loop : Stmt := topS 14
abbrev N_p_check_loop : List Str := ["loop"]
theorem sc_p_check_loop : FnScope N_p_check_loop ["loop"] (defScope st_p_check_loop) := ⟨rfl, rfl, rfl, by decide +kernel, rfl, by decide +kernel, by decide +kernel⟩
theorem ok_p_check_loop {f : Addr} {fd : FuncData} (F : Fun K "check_loop" "check_loop" st_p_check_loop f fd) (hm : mg "check_loop" = some (.ref f)) (b : Binds K fd ["loop"] []) (T : Top K mg) (H_p_loop_firings : Fok P wd ⟨K, mg⟩ base 28 "loop_firings" 2 (F_p_loop_firings 12)) : Fok P wd ⟨K, mg⟩ base 29 "check_loop" 1 F_p_check_loop :=
  fok_of (N := N_p_check_loop) F sc_p_check_loop hm b (fun cdv A outer s H E c =>
    (ds_one (ds_expr (de_call H_p_loop_firings (by decide) c.hr c.tk (by rfl) (by rfl) (da_cons (de_var (pv 0)) (da_cons de_int da_nil)) (hlen := (alen_cons (alen_cons alen_nil)))))))
abbrev st_p_appearances : Stmt := topS 20
abbrev N_p_appearances : List Str := ["loop"]
theorem sc_p_appearances : FnScope N_p_appearances ["loop"] (defScope st_p_appearances) := ⟨rfl, rfl, rfl, by decide +kernel, rfl, by decide +kernel, by decide +kernel⟩
theorem ok_p_appearances {f : Addr} {fd : FuncData} (F : Fun K "appearances" "appearances" st_p_appearances f fd) (hm : mg "appearances" = some (.ref f)) (b : Binds K fd ["loop"] []) (T : Top K mg) (H_p_boxes_written : Fok P wd ⟨K, mg⟩ base 9 "boxes_written" 1 (F_p_boxes_written 8)) (H_p_check_loop : Fok P wd ⟨K, mg⟩ base 29 "check_loop" 1 F_p_check_loop) : Fok P wd ⟨K, mg⟩ base 30 "appearances" 1 F_p_appearances :=
  fok_of (N := N_p_appearances) F sc_p_appearances hm b (fun cdv A outer s H E c =>
    (ds_cons (ds_expr (de_call H_p_check_loop (by decide) c.hr c.tk (by rfl) (by rfl) (da_cons (de_var (pv 0)) da_nil) (hlen := (alen_cons alen_nil))))
    (ds_one (ds_ret (de_callTy jc_tuple (by rfl) T.tuple (by decide +kernel) (da_cons (de_call H_p_boxes_written (by decide) c.hr c.tk (by rfl) (by rfl) (da_cons (de_var (pv 0)) da_nil) (hlen := (alen_cons alen_nil))) da_nil))))))
abbrev st_p_deepest : Stmt := topS 29
abbrev N_p_deepest : List Str := ["loop", "item"]
theorem sc_p_deepest : FnScope N_p_deepest ["loop"] (defScope st_p_deepest) := ⟨rfl, rfl, rfl, by decide +kernel, rfl, by decide +kernel, by decide +kernel⟩
theorem okS_p_deepest {f : Addr} {fd : FuncData} (F : Fun K "deepest" "deepest" st_p_deepest f fd) (hm : mg "deepest" = some (.ref f)) (b : Binds K fd ["loop"] []) (T : Top K mg)  (n : Nat) (R : MF) (H_p_deepest : Fok P wd ⟨K, mg⟩ base (n + 1) "deepest" 1 R) : Fok P wd ⟨K, mg⟩ base (n + 1 + 1) "deepest" 1 (fnF 1 2 (S_p_deepest R)) :=
  fok_of (N := N_p_deepest) F sc_p_deepest hm b (fun cdv A outer s H E c =>
    (ds_one (ds_ret (de_maxZ c.calm c.u1 (by rfl) T.max (da_cons (de_lc (own := [("item", 1)]) (by decide) (.inl rfl) (pe_lc (own := [("item", 1)]) c.calm sc_p_deepest.nd (di_seq (de_var (pv 0))) (blkOk_by (N := N_p_deepest) (sc := defScope st_p_deepest) (by decide +kernel)) (fun _ _ _ _ _ => (dg_name (pg_name (i := 1) sc_p_deepest.nd rfl (Or.inl rfl)))) (fun _ _ _ _ _ => (dts_one (dt_truth (jc_isi (x := "isinstance") (by decide) (de_var (pv 1)) (pe_bltn (v := .ty "tuple") (by rfl) T.tuple (by decide +kernel) rfl) (by rfl) T.isinstance)))) (fun _ _ _ _ _ => (de_op jo_add de_int (de_call H_p_deepest (by omega) (c.blk _ _ _ _ _).hr (c.blk _ _ _ _ _).tk (by rfl) (by rfl) (da_cons (de_ix (jo_ix (c.blk _ _ _ _ _).u1) (de_var (pv 1)) de_int (fun _ _ => rfl)) da_nil) (hlen := (alen_cons alen_nil))))))) da_nil)))))
theorem okA_p_deepest {f : Addr} {fd : FuncData} (F : Fun K "deepest" "deepest" st_p_deepest f fd) (hm : mg "deepest" = some (.ref f)) (b : Binds K fd ["loop"] []) (T : Top K mg)  : ∀ n : Nat, Fok P wd ⟨K, mg⟩ base (n + 1) "deepest" 1 (F_p_deepest n)
  | 0 => (fok_of (N := N_p_deepest) (k := 0) F sc_p_deepest hm b (fun cdv A outer s H E c => dss_never)).mono (by decide)
  | n + 1 => (okS_p_deepest F hm b T  n _ (okA_p_deepest F hm b T  n)).mono (by omega)
theorem ok_p_deepest {f : Addr} {fd : FuncData} (F : Fun K "deepest" "deepest" st_p_deepest f fd) (hm : mg "deepest" = some (.ref f)) (b : Binds K fd ["loop"] []) (T : Top K mg)  : Fok P wd ⟨K, mg⟩ base 9 "deepest" 1 (F_p_deepest 8) :=
  okA_p_deepest F hm b T  8
abbrev st_p_depth : Stmt := topS 21
abbrev N_p_depth : List Str := ["loop"]
theorem sc_p_depth : FnScope N_p_depth ["loop"] (defScope st_p_depth) := ⟨rfl, rfl, rfl, by decide +kernel, rfl, by decide +kernel, by decide +kernel⟩
theorem ok_p_depth {f : Addr} {fd : FuncData} (F : Fun K "depth" "depth" st_p_depth f fd) (hm : mg "depth" = some (.ref f)) (b : Binds K fd ["loop"] []) (T : Top K mg) (H_p_check_loop : Fok P wd ⟨K, mg⟩ base 29 "check_loop" 1 F_p_check_loop) (H_p_deepest : Fok P wd ⟨K, mg⟩ base 9 "deepest" 1 (F_p_deepest 8)) : Fok P wd ⟨K, mg⟩ base 30 "depth" 1 F_p_depth :=
  fok_of (N := N_p_depth) F sc_p_depth hm b (fun cdv A outer s H E c =>
    (ds_cons (ds_expr (de_call H_p_check_loop (by decide) c.hr c.tk (by rfl) (by rfl) (da_cons (de_var (pv 0)) da_nil) (hlen := (alen_cons alen_nil))))
    (ds_one (ds_ret (de_call H_p_deepest (by decide) c.hr c.tk (by rfl) (by rfl) (da_cons (de_var (pv 0)) da_nil) (hlen := (alen_cons alen_nil)))))))
abbrev st_p_check_foldable : Stmt := topS 25
abbrev N_p_check_foldable : List Str := ["word", "box"]
theorem sc_p_check_foldable : FnScope N_p_check_foldable ["word"] (defScope st_p_check_foldable) := ⟨rfl, rfl, rfl, by decide +kernel, rfl, by decide +kernel, by decide +kernel⟩
theorem ok_p_check_foldable {f : Addr} {fd : FuncData} (F : Fun K "check_foldable" "check_foldable" st_p_check_foldable f fd) (hm : mg "check_foldable" = some (.ref f)) (b : Binds K fd ["word"] []) (T : Top K mg) (H_p_is_box : Fok P wd ⟨K, mg⟩ base 3 "is_box" 2 F_p_is_box) : Fok P wd ⟨K, mg⟩ base 4 "check_foldable" 1 F_p_check_foldable :=
  fok_of (N := N_p_check_foldable) F sc_p_check_foldable hm b (fun cdv A outer s H E c =>
    (ds_cons (ds_if (PW.pt (dw_or (dt_not (dt_truth (jc_isi (x := "isinstance") (by decide) (de_var (pv 0)) (pe_bltn (v := .ty "tuple") (by rfl) T.tuple (by decide +kernel) rfl) (by rfl) T.isinstance))) (dw_or1 (dt_not (dt_truth (de_callB (jc_all c.calm) (by rfl) T.all (by decide +kernel) (da_cons (de_lc (own := [("box", 1)]) (by decide) (.inl rfl) (pe_lc (own := [("box", 1)]) c.calm sc_p_check_foldable.nd (di_seq (de_var (pv 0))) (blkOk_by (N := N_p_check_foldable) (sc := defScope st_p_check_foldable) (by decide +kernel)) (fun _ _ _ _ _ => (dg_name (pg_name (i := 1) sc_p_check_foldable.nd rfl (Or.inl rfl)))) (fun _ _ _ _ _ => dts_nil) (fun _ _ _ _ _ => (de_call H_p_is_box (by decide) (c.blk _ _ _ _ _).hr (c.blk _ _ _ _ _).tk (by rfl) (by rfl) (da_cons (de_var (pv 1)) (da_cons (de_c (pe_glob (v := .int 8) (by rfl) T.c_MOST_BOXES.choose_spec ⟨_, rfl⟩) fun _ => rfl) da_nil)) (hlen := (alen_cons (alen_cons alen_nil))))))) da_nil))))))) (ds_one ds_never) ds_nil)
    (ds_one (ds_if (dt_cmp jo_gt (de_callB jc_len (by rfl) T.len (by decide +kernel) (da_cons (de_var (pv 0)) da_nil)) (de_c (pe_glob (v := .int 24) (by rfl) T.c_MOST_FOLDED.choose_spec ⟨_, rfl⟩) fun _ => rfl) (nomark _)) (ds_one ds_never) ds_nil))))
abbrev st_p_size : Stmt := topS 28
abbrev N_p_size : List Str := ["loop"]
theorem sc_p_size : FnScope N_p_size ["loop"] (defScope st_p_size) := ⟨rfl, rfl, rfl, by decide +kernel, rfl, by decide +kernel, by decide +kernel⟩
theorem ok_p_size {f : Addr} {fd : FuncData} (F : Fun K "size" "size" st_p_size f fd) (hm : mg "size" = some (.ref f)) (b : Binds K fd ["loop"] []) (T : Top K mg) (H_p_boxes_written : Fok P wd ⟨K, mg⟩ base 9 "boxes_written" 1 (F_p_boxes_written 8)) : Fok P wd ⟨K, mg⟩ base 10 "size" 1 F_p_size :=
  fok_of (N := N_p_size) F sc_p_size hm b (fun cdv A outer s H E c =>
    (ds_one (ds_ret (de_callB jc_len (by rfl) T.len (by decide +kernel) (da_cons (de_call H_p_boxes_written (by decide) c.hr c.tk (by rfl) (by rfl) (da_cons (de_var (pv 0)) da_nil) (hlen := (alen_cons alen_nil))) da_nil)))))
abbrev st_p_least_code : Stmt := topS 30
abbrev N_p_least_code : List Str := ["word", "codes", "first", "end", "found", "period", "times", "middle"]
theorem sc_p_least_code : FnScope N_p_least_code ["word", "codes", "first", "end"] (defScope st_p_least_code) := ⟨rfl, rfl, rfl, by decide +kernel, rfl, by decide +kernel, by decide +kernel⟩
theorem ok_p_least_code {f : Addr} {fd : FuncData} (F : Fun K "least_code" "least_code" st_p_least_code f fd) (hm : mg "least_code" = some (.ref f)) (b : Binds K fd ["word", "codes", "first", "end"] []) (T : Top K mg) (H_p_size : Fok P wd ⟨K, mg⟩ base 10 "size" 1 F_p_size) : Fok P wd ⟨K, mg⟩ base 12 "least_code" 4 F_p_least_code :=
  fok_of (N := N_p_least_code) F sc_p_least_code hm b (fun cdv A outer s H E c =>
    (ds_cons (ds_if (dt_cmp (jo_eq c.u64) (de_op jo_sub (de_var (pv 3)) (de_var (pv 2))) de_int (nomark _)) (ds_one (ds_ret (de_tup (da_cons (de_ix (jo_ix c.u1) (de_var (pv 0)) (de_var (pv 2)) (fun _ _ => rfl)) da_nil)))) ds_nil)
    (ds_cons (ds_setT (ps_setLc (i := 4) (own := [("middle", 7)]) c.calm sc_p_least_code.nd rfl rfl (sw_true rfl rfl rfl (by decide +kernel)) (di_rng2 (by rfl) T.range (da_cons (de_op jo_add (de_var (pv 2)) de_int) (da_cons (de_var (pv 3)) da_nil))) (blkOk_by (N := N_p_least_code) (sc := defScope st_p_least_code) (by decide +kernel)) (fun _ _ _ _ _ => (dg_name (pg_name (i := 7) sc_p_least_code.nd rfl (Or.inl rfl)))) (fun _ _ _ _ _ => dts_nil) (fun _ _ _ _ _ => (de_op jo_add (de_ix (jo_ixT (c.blk _ _ _ _ _).u1) (de_var (pv 1)) (de_tup (da_cons (de_var (pv 2)) (da_cons (de_var (pv 7)) da_nil))) (fun _ _ => rfl)) (de_ix (jo_ixT (c.blk _ _ _ _ _).u1) (de_var (pv 1)) (de_tup (da_cons (de_var (pv 7)) (da_cons (de_var (pv 3)) da_nil))) (fun _ _ => rfl))))) (lcUse (by decide) (.inr rfl)))
    (ds_cons (ds_for c.po c.calm (di_rng2 (by rfl) T.range (da_cons de_int (da_cons (de_op jo_add (de_op jo_div (de_op jo_sub (de_var (pv 3)) (de_var (pv 2))) de_int) de_int) da_nil))) (dg_name (pg_name (i := 5) sc_p_least_code.nd rfl (Or.inl rfl))) (ds_cons (ds_set (fun te h => ps_set (i := 6) sc_p_least_code.nd rfl (Or.inl rfl) h) (de_op jo_div (de_op jo_sub (de_var (pv 3)) (de_var (pv 2))) (de_var (pv 5))))
    (ds_one (ds_if (dt_cmp (jo_eq c.u64) (de_op jo_mul (de_slice (de_var (pv 0)) (dp_some (de_var (pv 2))) (dp_some (de_op jo_add (de_var (pv 2)) (de_var (pv 5))))) (de_var (pv 6))) (de_slice (de_var (pv 0)) (dp_some (de_var (pv 2))) (dp_some (de_var (pv 3)))) (nomark _)) (ds_one (ds_expr (de_meth PySem.F.slot_list_append PySem.F.type_list_append jm_append (de_var (pv 4)) (da_cons (de_tup (da_cons (de_tup (da_cons (de_var (pv 6)) (da_cons (de_ix (jo_ixT c.u1) (de_var (pv 1)) (de_tup (da_cons (de_var (pv 2)) (da_cons (de_op jo_add (de_var (pv 2)) (de_var (pv 5))) da_nil))) (fun _ _ => rfl)) da_nil))) da_nil)) da_nil)))) ds_nil))))
    (ds_one (ds_ret (de_minK c.calm H_p_size (by decide) c.hr (by rfl) (by rfl) T.min (da_cons (de_var (pv 4)) da_nil))))))))
abbrev st_p_folded : Stmt := topS 23
abbrev N_p_folded : List Str := ["word", "codes", "length", "first"]
theorem sc_p_folded : FnScope N_p_folded ["word"] (defScope st_p_folded) := ⟨rfl, rfl, rfl, by decide +kernel, rfl, by decide +kernel, by decide +kernel⟩
theorem ok_p_folded {f : Addr} {fd : FuncData} (F : Fun K "folded" "folded" st_p_folded f fd) (hm : mg "folded" = some (.ref f)) (b : Binds K fd ["word"] []) (T : Top K mg) (H_p_check_foldable : Fok P wd ⟨K, mg⟩ base 4 "check_foldable" 1 F_p_check_foldable) (H_p_least_code : Fok P wd ⟨K, mg⟩ base 12 "least_code" 4 F_p_least_code) : Fok P wd ⟨K, mg⟩ base 13 "folded" 1 F_p_folded :=
  fok_of (N := N_p_folded) F sc_p_folded hm b (fun cdv A outer s H E c =>
    (ds_cons (ds_expr (de_call H_p_check_foldable (by decide) c.hr c.tk (by rfl) (by rfl) (da_cons (de_var (pv 0)) da_nil) (hlen := (alen_cons alen_nil))))
    (ds_cons (ds_set (fun te h => ps_set (i := 1) sc_p_folded.nd rfl (Or.inl rfl) h) (de_disp1TL c.u1 (de_tup (da_cons de_int (da_cons de_int da_nil))) (de_tup da_nil)))
    (ds_cons (ds_for c.po c.calm (di_rng2 (by rfl) T.range (da_cons de_int (da_cons (de_op jo_add (de_callB jc_len (by rfl) T.len (by decide +kernel) (da_cons (de_var (pv 0)) da_nil)) de_int) da_nil))) (dg_name (pg_name (i := 2) sc_p_folded.nd rfl (Or.inl rfl))) (ds_one (ds_for c.po c.calm (di_rng1 (by rfl) T.range (da_cons (de_op jo_add (de_op jo_sub (de_callB jc_len (by rfl) T.len (by decide +kernel) (da_cons (de_var (pv 0)) da_nil)) (de_var (pv 2))) de_int) da_nil)) (dg_name (pg_name (i := 3) sc_p_folded.nd rfl (Or.inl rfl))) (ds_one (ds_put (de_var (pv 1)) (de_tup (da_cons (de_var (pv 3)) (da_cons (de_op jo_add (de_var (pv 3)) (de_var (pv 2))) da_nil))) (de_call H_p_least_code (by decide) c.hr c.tk (by rfl) (by rfl) (da_cons (de_var (pv 0)) (da_cons (de_var (pv 1)) (da_cons (de_var (pv 3)) (da_cons (de_op jo_add (de_var (pv 3)) (de_var (pv 2))) da_nil)))) (hlen := (alen_cons (alen_cons (alen_cons (alen_cons alen_nil)))))) c.u1)))))
    (ds_one (ds_ret (de_ix (jo_ixT c.u1) (de_var (pv 1)) (de_tup (da_cons de_int (da_cons (de_callB jc_len (by rfl) T.len (by decide +kernel) (da_cons (de_var (pv 0)) da_nil)) da_nil))) (fun _ _ => rfl))))))))
abbrev st_p_fold_size : Stmt := topS 22
abbrev N_p_fold_size : List Str := ["word"]
theorem sc_p_fold_size : FnScope N_p_fold_size ["word"] (defScope st_p_fold_size) := ⟨rfl, rfl, rfl, by decide +kernel, rfl, by decide +kernel, by decide +kernel⟩
theorem ok_p_fold_size {f : Addr} {fd : FuncData} (F : Fun K "fold_size" "fold_size" st_p_fold_size f fd) (hm : mg "fold_size" = some (.ref f)) (b : Binds K fd ["word"] []) (T : Top K mg) (H_p_folded : Fok P wd ⟨K, mg⟩ base 13 "folded" 1 F_p_folded) (H_p_size : Fok P wd ⟨K, mg⟩ base 10 "size" 1 F_p_size) : Fok P wd ⟨K, mg⟩ base 14 "fold_size" 1 F_p_fold_size :=
  fok_of (N := N_p_fold_size) F sc_p_fold_size hm b (fun cdv A outer s H E c =>
    (ds_one (ds_ret (de_call H_p_size (by decide) c.hr c.tk (by rfl) (by rfl) (da_cons (de_call H_p_folded (by decide) c.hr c.tk (by rfl) (by rfl) (da_cons (de_var (pv 0)) da_nil) (hlen := (alen_cons alen_nil))) da_nil) (hlen := (alen_cons alen_nil))))))
abbrev st_p_boxes_said : Stmt := topS 26
abbrev N_p_boxes_said : List Str := ["loop", "boxes", "item"]
theorem sc_p_boxes_said : FnScope N_p_boxes_said ["loop"] (defScope st_p_boxes_said) := ⟨rfl, rfl, rfl, by decide +kernel, rfl, by decide +kernel, by decide +kernel⟩
theorem okS_p_boxes_said {f : Addr} {fd : FuncData} (F : Fun K "boxes_said" "boxes_said" st_p_boxes_said f fd) (hm : mg "boxes_said" = some (.ref f)) (b : Binds K fd ["loop"] []) (T : Top K mg)  (n : Nat) (R : MF) (H_p_boxes_said : Fok P wd ⟨K, mg⟩ base (n + 1) "boxes_said" 1 R) : Fok P wd ⟨K, mg⟩ base (n + 1 + 1) "boxes_said" 1 (fnF 1 3 (S_p_boxes_said R)) :=
  fok_of (N := N_p_boxes_said) F sc_p_boxes_said hm b (fun cdv A outer s H E c =>
    (ds_cons (ds_set (fun te h => ps_set (i := 1) sc_p_boxes_said.nd rfl (Or.inl rfl) h) (de_lstL da_nil))
    (ds_cons (ds_for c.po c.calm (di_seq (de_var (pv 0))) (dg_name (pg_name (i := 2) sc_p_boxes_said.nd rfl (Or.inl rfl))) (ds_one (ds_if (dt_truth (jc_isi (x := "isinstance") (by decide) (de_var (pv 2)) (pe_bltn (v := .ty "tuple") (by rfl) T.tuple (by decide +kernel) rfl) (by rfl) T.isinstance)) (ds_one (ds_expr (de_meth PySem.F.slot_list_extend PySem.F.type_list_extend jm_extend (de_var (pv 1)) (da_cons (de_op jo_mulR (de_ix (jo_ix c.u1) (de_var (pv 2)) de_int (fun _ _ => rfl)) (de_call H_p_boxes_said (by omega) c.hr c.tk (by rfl) (by rfl) (da_cons (de_ix (jo_ix c.u1) (de_var (pv 2)) de_int (fun _ _ => rfl)) da_nil) (hlen := (alen_cons alen_nil)))) da_nil)))) (ds_one (ds_expr (de_meth PySem.F.slot_list_append PySem.F.type_list_append jm_append (de_var (pv 1)) (da_cons (de_var (pv 2)) da_nil)))))))
    (ds_one (ds_ret (de_var (pv 1)))))))
theorem okA_p_boxes_said {f : Addr} {fd : FuncData} (F : Fun K "boxes_said" "boxes_said" st_p_boxes_said f fd) (hm : mg "boxes_said" = some (.ref f)) (b : Binds K fd ["loop"] []) (T : Top K mg)  : ∀ n : Nat, Fok P wd ⟨K, mg⟩ base (n + 1) "boxes_said" 1 (F_p_boxes_said n)
  | 0 => (fok_of (N := N_p_boxes_said) (k := 0) F sc_p_boxes_said hm b (fun cdv A outer s H E c => dss_never)).mono (by decide)
  | n + 1 => (okS_p_boxes_said F hm b T  n _ (okA_p_boxes_said F hm b T  n)).mono (by omega)
theorem ok_p_boxes_said {f : Addr} {fd : FuncData} (F : Fun K "boxes_said" "boxes_said" st_p_boxes_said f fd) (hm : mg "boxes_said" = some (.ref f)) (b : Binds K fd ["loop"] []) (T : Top K mg)  : Fok P wd ⟨K, mg⟩ base 9 "boxes_said" 1 (F_p_boxes_said 8) :=
  okA_p_boxes_said F hm b T  8
abbrev st_p_unrolled : Stmt := topS 19
abbrev N_p_unrolled : List Str := ["loop"]
theorem sc_p_unrolled : FnScope N_p_unrolled ["loop"] (defScope st_p_unrolled) := ⟨rfl, rfl, rfl, by decide +kernel, rfl, by decide +kernel, by decide +kernel⟩
theorem ok_p_unrolled {f : Addr} {fd : FuncData} (F : Fun K "unrolled" "unrolled" st_p_unrolled f fd) (hm : mg "unrolled" = some (.ref f)) (b : Binds K fd ["loop"] []) (T : Top K mg) (H_p_boxes_said : Fok P wd ⟨K, mg⟩ base 9 "boxes_said" 1 (F_p_boxes_said 8)) (H_p_check_loop : Fok P wd ⟨K, mg⟩ base 29 "check_loop" 1 F_p_check_loop) : Fok P wd ⟨K, mg⟩ base 30 "unrolled" 1 F_p_unrolled :=
  fok_of (N := N_p_unrolled) F sc_p_unrolled hm b (fun cdv A outer s H E c =>
    (ds_cons (ds_expr (de_call H_p_check_loop (by decide) c.hr c.tk (by rfl) (by rfl) (da_cons (de_var (pv 0)) da_nil) (hlen := (alen_cons alen_nil))))
    (ds_one (ds_ret (de_callTy jc_tuple (by rfl) T.tuple (by decide +kernel) (da_cons (de_call H_p_boxes_said (by decide) c.hr c.tk (by rfl) (by rfl) (da_cons (de_var (pv 0)) da_nil) (hlen := (alen_cons alen_nil))) da_nil))))))
abbrev st_p_shows_fold : Stmt := topS 24
abbrev N_p_shows_fold : List Str := ["word", "value", "fewest", "said"]
theorem sc_p_shows_fold : FnScope N_p_shows_fold ["word", "value"] (defScope st_p_shows_fold) := ⟨rfl, rfl, rfl, by decide +kernel, rfl, by decide +kernel, by decide +kernel⟩
theorem ok_p_shows_fold {f : Addr} {fd : FuncData} (F : Fun K "shows_fold" "shows_fold" st_p_shows_fold f fd) (hm : mg "shows_fold" = some (.ref f)) (b : Binds K fd ["word", "value"] []) (T : Top K mg) (H_p_fold_size : Fok P wd ⟨K, mg⟩ base 14 "fold_size" 1 F_p_fold_size) (H_p_size : Fok P wd ⟨K, mg⟩ base 10 "size" 1 F_p_size) (H_p_unrolled : Fok P wd ⟨K, mg⟩ base 30 "unrolled" 1 F_p_unrolled) : Fok P wd ⟨K, mg⟩ base 31 "shows_fold" 2 F_p_shows_fold :=
  fok_of (N := N_p_shows_fold) F sc_p_shows_fold hm b (fun cdv A outer s H E c =>
    (ds_cons (ds_set (fun te h => ps_set (i := 2) sc_p_shows_fold.nd rfl (Or.inl rfl) h) (de_call H_p_fold_size (by decide) c.hr c.tk (by rfl) (by rfl) (da_cons (de_var (pv 0)) da_nil) (hlen := (alen_cons alen_nil))))
    (ds_cons (ds_try (ds_one (ds_set (fun te h => ps_set (i := 3) sc_p_shows_fold.nd rfl (Or.inl rfl) h) (de_call H_p_unrolled (by decide) (Ctx.nox c).hr (Ctx.nox c).tk (by rfl) (by rfl) (da_cons (de_var (pv 1)) da_nil) (hlen := (alen_cons alen_nil))))))
    (ds_one (ds_ret (de_and (de_cmp (jo_eq c.u64) (de_var (pv 3)) (de_var (pv 0)) (nomark _)) (de_one (de_cmp (jo_eq c.u64) (de_call H_p_size (by decide) c.hr c.tk (by rfl) (by rfl) (da_cons (de_var (pv 1)) da_nil) (hlen := (alen_cons alen_nil))) (de_var (pv 2)) (nomark _)))))))))
abbrev st_p_law : Stmt := topS 36
abbrev N_p_law : List Str := ["script", "row", "one", "other", "first", "second", "order", "loop", "turn", "box"]
theorem sc_p_law : FnScope N_p_law ["script"] (defScope st_p_law) := ⟨rfl, rfl, rfl, by decide +kernel, rfl, by decide +kernel, by decide +kernel⟩
theorem ok_p_law {f : Addr} {fd : FuncData} (F : Fun K "law" "law" st_p_law f fd) (T : Top K mg) (H_p_law_loop : Fok P wd ⟨K, mg⟩ base 10 "_law_loop" 3 (F_p_law_loop 8)) (H_p_law_order : Fok P wd ⟨K, mg⟩ base 2 "_law_order" 2 F_p_law_order) (H_p_law_taken : Fok P wd ⟨K, mg⟩ base 1 "_law_taken" 2 F_p_law_taken) (H_p_law_unrolled : Fok P wd ⟨K, mg⟩ base 9 "_law_unrolled" 1 (F_p_law_unrolled 8)) (H_p_appearances : Fok P wd ⟨K, mg⟩ base 30 "appearances" 1 F_p_appearances) (H_p_depth : Fok P wd ⟨K, mg⟩ base 30 "depth" 1 F_p_depth) (H_p_fold_size : Fok P wd ⟨K, mg⟩ base 14 "fold_size" 1 F_p_fold_size) (H_p_folded : Fok P wd ⟨K, mg⟩ base 13 "folded" 1 F_p_folded) (H_p_shows_fold : Fok P wd ⟨K, mg⟩ base 31 "shows_fold" 2 F_p_shows_fold) (H_p_unrolled : Fok P wd ⟨K, mg⟩ base 30 "unrolled" 1 F_p_unrolled) : FnOk P wd K mg base (L2.CX P wd) 32 f fd ["script"] (spF ⟨K, mg⟩ 1 F_p_law) :=
  fn_ok (N := N_p_law) F sc_p_law (fun cdv A outer s H E c =>
    (ds_cons (ds_set (fun te h => ps_set (i := 1) sc_p_law.nd rfl (Or.inr rfl) h) (de_lstL (da_cons (de_var (pv 0)) (da_cons de_int (da_cons de_int (da_cons de_int da_nil))))))
    (ds_cons (ds_set (fun te h => ps_set (i := 2) sc_p_law.nd rfl (Or.inl rfl) h) (de_slice (de_call H_p_law_unrolled (by decide) c.hr c.tk (by rfl) (by rfl) (da_cons (de_call H_p_law_loop (by decide) c.hr c.tk (by rfl) (by rfl) (da_cons (de_var (pv 1)) (da_cons de_int (da_cons de_int da_nil))) (hlen := (alen_cons (alen_cons (alen_cons alen_nil))))) da_nil) (hlen := (alen_cons alen_nil))) dp_none (dp_some de_int)))
    (ds_cons (ds_set (fun te h => ps_set (i := 3) sc_p_law.nd rfl (Or.inl rfl) h) (de_callTy jc_tuple (by rfl) T.tuple (by decide +kernel) (da_cons (de_lc (own := [("turn", 8)]) (by decide) (.inl rfl) (pe_lc (own := [("turn", 8)]) c.calm sc_p_law.nd (di_rng1 (by rfl) T.range (da_cons (de_call H_p_law_taken (by decide) c.hr c.tk (by rfl) (by rfl) (da_cons (de_var (pv 1)) (da_cons de_int da_nil)) (hlen := (alen_cons (alen_cons alen_nil)))) da_nil)) (blkOk_by (N := N_p_law) (sc := defScope st_p_law) (by decide +kernel)) (fun _ _ _ _ _ => (dg_name (pg_name (i := 8) sc_p_law.nd rfl (Or.inl rfl)))) (fun _ _ _ _ _ => dts_nil) (fun _ _ _ _ _ => (de_call H_p_law_taken (by decide) (c.blk _ _ _ _ _).hr (c.blk _ _ _ _ _).tk (by rfl) (by rfl) (da_cons (de_var (pv 1)) (da_cons de_int da_nil)) (hlen := (alen_cons (alen_cons alen_nil))))))) da_nil)))
    (ds_cons (ds_asg (de_tup (da_cons (de_call H_p_fold_size (by decide) c.hr c.tk (by rfl) (by rfl) (da_cons (de_var (pv 2)) da_nil) (hlen := (alen_cons alen_nil))) (da_cons (de_call H_p_fold_size (by decide) c.hr c.tk (by rfl) (by rfl) (da_cons (de_var (pv 3)) da_nil) (hlen := (alen_cons alen_nil))) (da_cons (de_call H_p_law_order (by decide) c.hr c.tk (by rfl) (by rfl) (da_cons (de_var (pv 1)) (da_cons de_int da_nil)) (hlen := (alen_cons (alen_cons alen_nil)))) da_nil)))) (dg_tup c.calm (dg_cons (dg_name (pg_name (i := 4) sc_p_law.nd rfl (Or.inl rfl))) (dg_cons (dg_name (pg_name (i := 5) sc_p_law.nd rfl (Or.inl rfl))) (dg_cons (dg_name (pg_name (i := 6) sc_p_law.nd rfl (Or.inr rfl))) dg_nil)))))
    (ds_cons (ds_if (PW.pt (dw_or (dt_cmp jo_gt (de_call H_p_fold_size (by decide) c.hr c.tk (by rfl) (by rfl) (da_cons (de_op jo_add (de_var (pv 2)) (de_var (pv 3))) da_nil) (hlen := (alen_cons alen_nil))) (de_op jo_add (de_var (pv 4)) (de_var (pv 5))) (nomark _)) (dw_or (dt_cmp jo_gt (de_call H_p_fold_size (by decide) c.hr c.tk (by rfl) (by rfl) (da_cons (de_op jo_mulE (de_var (pv 2)) de_int) da_nil) (hlen := (alen_cons alen_nil))) (de_var (pv 4)) (nomark _)) (dw_or1 (dt_cmp (jo_ne c.u64) (de_call H_p_fold_size (by decide) c.hr c.tk (by rfl) (by rfl) (da_cons (de_rev (de_var (pv 2))) da_nil) (hlen := (alen_cons alen_nil))) (de_var (pv 4)) (nomark _)))))) (ds_one (ds_ret de_bl)) ds_nil)
    (ds_cons (ds_if (PW.pt (dw_or (dt_cmp (jo_ne c.u64) (de_call H_p_fold_size (by decide) c.hr c.tk (by rfl) (by rfl) (da_cons (de_callTy jc_tuple (by rfl) T.tuple (by decide +kernel) (da_cons (de_lc (own := [("box", 9)]) (by decide) (.inl rfl) (pe_lc (own := [("box", 9)]) c.calm sc_p_law.nd (di_seq (de_var (pv 3))) (blkOk_by (N := N_p_law) (sc := defScope st_p_law) (by decide +kernel)) (fun _ _ _ _ _ => (dg_name (pg_name (i := 9) sc_p_law.nd rfl (Or.inl rfl)))) (fun _ _ _ _ _ => dts_nil) (fun _ _ _ _ _ => (de_ix (jo_ix (c.blk _ _ _ _ _).u1) (de_var (pv 6)) (de_var (pv 9)) (fun _ _ => rfl))))) da_nil)) da_nil) (hlen := (alen_cons alen_nil))) (de_var (pv 5)) (nomark _)) (dw_or1 (dt_cmp (jo_ne c.u64) (de_call H_p_fold_size (by decide) c.hr c.tk (by rfl) (by rfl) (da_cons (de_op jo_add (de_tup (da_cons de_int da_nil)) (de_var (pv 3))) da_nil) (hlen := (alen_cons alen_nil))) (de_op jo_add (de_var (pv 5)) de_int) (nomark _))))) (ds_one (ds_ret de_bl)) ds_nil)
    (ds_cons (ds_if (PW.pt (dw_or (dt_cmp jo_lt (de_var (pv 4)) (de_lenSetT c.calm (by rfl) T.len (by rfl) T.set (de_var (pv 2))) (nomark _)) (dw_or (dt_cmp jo_gt (de_var (pv 4)) (de_callB jc_len (by rfl) T.len (by decide +kernel) (da_cons (de_var (pv 2)) da_nil)) (nomark _)) (dw_or1 (dt_cmp (jo_ne c.u64) (de_cmp (jo_eq c.u64) (de_var (pv 4)) (de_callB jc_len (by rfl) T.len (by decide +kernel) (da_cons (de_var (pv 2)) da_nil)) (nomark _)) (de_cmp (jo_eq c.u64) (de_call H_p_folded (by decide) c.hr c.tk (by rfl) (by rfl) (da_cons (de_var (pv 2)) da_nil) (hlen := (alen_cons alen_nil))) (de_var (pv 2)) (nomark _)) (nomark _)))))) (ds_one (ds_ret de_bl)) ds_nil)
    (ds_cons (ds_set (fun te h => ps_set (i := 7) sc_p_law.nd rfl (Or.inl rfl) h) (de_call H_p_folded (by decide) c.hr c.tk (by rfl) (by rfl) (da_cons (de_op jo_add (de_var (pv 2)) (de_var (pv 3))) da_nil) (hlen := (alen_cons alen_nil))))
    (ds_cons (ds_if (PW.pt (dw_or (dt_cmp (jo_ne c.u64) (de_call H_p_unrolled (by decide) c.hr c.tk (by rfl) (by rfl) (da_cons (de_var (pv 7)) da_nil) (hlen := (alen_cons alen_nil))) (de_op jo_add (de_var (pv 2)) (de_var (pv 3))) (nomark _)) (dw_or1 (dt_cmp (jo_ne c.u64) (de_callB jc_len (by rfl) T.len (by decide +kernel) (da_cons (de_call H_p_appearances (by decide) c.hr c.tk (by rfl) (by rfl) (da_cons (de_var (pv 7)) da_nil) (hlen := (alen_cons alen_nil))) da_nil)) (de_call H_p_fold_size (by decide) c.hr c.tk (by rfl) (by rfl) (da_cons (de_op jo_add (de_var (pv 2)) (de_var (pv 3))) da_nil) (hlen := (alen_cons alen_nil))) (nomark _))))) (ds_one (ds_ret de_bl)) ds_nil)
    (ds_cons (ds_if (dt_not (dt_truth (de_call H_p_shows_fold (by decide) c.hr c.tk (by rfl) (by rfl) (da_cons (de_op jo_add (de_var (pv 2)) (de_var (pv 3))) (da_cons (de_var (pv 7)) da_nil)) (hlen := (alen_cons (alen_cons alen_nil)))))) (ds_one (ds_ret de_bl)) ds_nil)
    (ds_cons (ds_if (PW.pt (dw_and (dt_cmp (jo_ne c.u64) (de_var (pv 2)) (de_tup da_nil) (nomark _)) (dw_and1 (dt_cmp (jo_ne c.u64) (de_call H_p_shows_fold (by decide) c.hr c.tk (by rfl) (by rfl) (da_cons (de_op jo_mulE (de_var (pv 2)) de_int) (da_cons (de_tup (da_cons (de_tup (da_cons de_int (da_cons (de_call H_p_folded (by decide) c.hr c.tk (by rfl) (by rfl) (da_cons (de_var (pv 2)) da_nil) (hlen := (alen_cons alen_nil))) da_nil))) da_nil)) da_nil)) (hlen := (alen_cons (alen_cons alen_nil)))) (de_cmp (jo_eq c.u64) (de_call H_p_fold_size (by decide) c.hr c.tk (by rfl) (by rfl) (da_cons (de_op jo_mulE (de_var (pv 2)) de_int) da_nil) (hlen := (alen_cons alen_nil))) (de_var (pv 4)) (nomark _)) (nomark _))))) (ds_one (ds_ret de_bl)) ds_nil)
    (ds_one (ds_ret (de_and (de_cmp (jo_eq c.u64) (de_cmp (jo_eq c.u64) (de_call H_p_depth (by decide) c.hr c.tk (by rfl) (by rfl) (da_cons (de_var (pv 7)) da_nil) (hlen := (alen_cons alen_nil))) de_int (nomark _)) (de_cmp (jo_eq c.u64) (de_var (pv 7)) (de_op jo_add (de_var (pv 2)) (de_var (pv 3))) (nomark _)) (nomark _)) (de_one (de_cmp (jo_eq c.u64) (de_call H_p_fold_size (by decide) c.hr c.tk (by rfl) (by rfl) (da_cons (de_op jo_mulT (de_tup (da_cons (de_ix (jo_ix c.u1) (de_var (pv 6)) de_int (fun _ _ => rfl)) da_nil)) de_int) da_nil) (hlen := (alen_cons alen_nil))) de_int (nomark _))))))))))))))))))
end
end K76
set_option Elab.async false
set_option linter.all false
set_option maxRecDepth 100000
set_option maxHeartbeats 4000000
namespace K76
open PySem PySem.Spec PyProof.Rows L2 J
def spLaw (K : PySem.W.Frag) : Sp := fun vs H Q _ => ∃ (a : Addr) (ns : List Int), vs = [.ref a] ∧ SqL K H a (ns.map V.int) ∧ ns.length ≤ 63 ∧ ∀ H', Q (.bl true) H'
theorem ints_rd {g : G} {w : W} : ∀ ns : List Int, RDs g w (ns.map D.int) (ns.map V.int)
  | [] => rfl
  | n :: ns => RDs.cons (show RD g w (.int n) (.int n) from rfl) (ints_rd ns)
theorem law_sp {g : G} (ok : ∀ ns : List Int, ns.length ≤ 63 → ∃ S, F_p_law [.rdl (ns.map D.int)] [] = .ok (.bl true) S) : ∀ vs H Q E, spLaw g.K vs H Q E → spF g 1 F_p_law vs H Q E := fun vs H Q E ⟨a, ns, e, hS, hl, q⟩ => by
  obtain ⟨S, hF⟩ := ok ns hl
  refine ⟨⟨fun _ => False, [], H⟩, [.rdl (ns.map D.int)], [], rfl, ⟨List.nodup_nil, by simp, fun _ z => z.elim, fun _ z => z.elim⟩, ?_, ⟨rfl, by simp⟩, rfl, ?_⟩
  · subst e
    refine RDs.one ⟨a, _, rfl, ?_, ints_rd ns⟩
    exact hS.elim (fun h => .inl ⟨h, fun z => z⟩) .inr
  · rw [hF]
    intro v w' _ _ _ r _
    cases r
    exact q _

theorem all_mk {l : PySem.W.OpenLaw} {w : World} {K : PySem.W.Frag} {h : Heap} {mg : Str → Option Value} {fa : Addr} (X : K.In h) (G : h.Ns mainGlobals mg) (hfa : mg "law" = some (.ref fa))
    (ok : ∀ ns : List Int, ns.length ≤ 63 → ∃ S, F_p_law [.rdl (ns.map D.int)] [] = .ok (.bl true) S)
    {f0 : Addr} {od0 an0 : Option Addr} {sl0 : Array (Option Value)} {oc0 kV0 dc0 pm0 cd0 ct0 : Value}
    {f1 : Addr} {od1 an1 : Option Addr} {sl1 : Array (Option Value)} {oc1 kV1 dc1 pm1 cd1 ct1 : Value}
    {f2 : Addr} {od2 an2 : Option Addr} {sl2 : Array (Option Value)} {oc2 kV2 dc2 pm2 cd2 ct2 : Value}
    {f3 : Addr} {od3 an3 : Option Addr} {sl3 : Array (Option Value)} {oc3 kV3 dc3 pm3 cd3 ct3 : Value}
    {f4 : Addr} {od4 an4 : Option Addr} {sl4 : Array (Option Value)} {oc4 kV4 dc4 pm4 cd4 ct4 : Value}
    {f5 : Addr} {od5 an5 : Option Addr} {sl5 : Array (Option Value)} {oc5 kV5 dc5 pm5 cd5 ct5 : Value}
    {f6 : Addr} {od6 an6 : Option Addr} {sl6 : Array (Option Value)} {oc6 kV6 dc6 pm6 cd6 ct6 : Value}
    {f7 : Addr} {od7 an7 : Option Addr} {sl7 : Array (Option Value)} {oc7 kV7 dc7 pm7 cd7 ct7 : Value}
    {f8 : Addr} {od8 an8 : Option Addr} {sl8 : Array (Option Value)} {oc8 kV8 dc8 pm8 cd8 ct8 : Value}
    {f9 : Addr} {od9 an9 : Option Addr} {sl9 : Array (Option Value)} {oc9 kV9 dc9 pm9 cd9 ct9 : Value}
    {f10 : Addr} {od10 an10 : Option Addr} {sl10 : Array (Option Value)} {oc10 kV10 dc10 pm10 cd10 ct10 : Value}
    {f11 : Addr} {od11 an11 : Option Addr} {sl11 : Array (Option Value)} {oc11 kV11 dc11 pm11 cd11 ct11 : Value}
    {f12 : Addr} {od12 an12 : Option Addr} {sl12 : Array (Option Value)} {oc12 kV12 dc12 pm12 cd12 ct12 : Value}
    {f13 : Addr} {od13 an13 : Option Addr} {sl13 : Array (Option Value)} {oc13 kV13 dc13 pm13 cd13 ct13 : Value}
    {f14 : Addr} {od14 an14 : Option Addr} {sl14 : Array (Option Value)} {oc14 kV14 dc14 pm14 cd14 ct14 : Value}
    {f15 : Addr} {od15 an15 : Option Addr} {sl15 : Array (Option Value)} {oc15 kV15 dc15 pm15 cd15 ct15 : Value}
    {f16 : Addr} {od16 an16 : Option Addr} {sl16 : Array (Option Value)} {oc16 kV16 dc16 pm16 cd16 ct16 : Value}
    {f17 : Addr} {od17 an17 : Option Addr} {sl17 : Array (Option Value)} {oc17 kV17 dc17 pm17 cd17 ct17 : Value}
    {f18 : Addr} {od18 an18 : Option Addr} {sl18 : Array (Option Value)} {oc18 kV18 dc18 pm18 cd18 ct18 : Value}
    {f19 : Addr} {od19 an19 : Option Addr} {sl19 : Array (Option Value)} {oc19 kV19 dc19 pm19 cd19 ct19 : Value}
    {f20 : Addr} {od20 an20 : Option Addr} {sl20 : Array (Option Value)} {oc20 kV20 dc20 pm20 cd20 ct20 : Value}
    {f21 : Addr} {od21 an21 : Option Addr} {sl21 : Array (Option Value)} {oc21 kV21 dc21 pm21 cd21 ct21 : Value}
    {f22 : Addr} {od22 an22 : Option Addr} {sl22 : Array (Option Value)} {oc22 kV22 dc22 pm22 cd22 ct22 : Value}
    {f23 : Addr} {od23 an23 : Option Addr} {sl23 : Array (Option Value)} {oc23 kV23 dc23 pm23 cd23 ct23 : Value}
    {t_MOST_BOXES : Tok}
    {t_MOST_DEPTH : Tok}
    {t_MOST_FIRINGS : Tok}
    {t_MOST_FOLDED : Tok}
    {t_MOST_TIMES : Tok}
    (a0 : PySem.W.nsIn K mainGlobals "_law_taken" = some (some (.ref f0))) (l0 : K.lookup f0 = some ⟨oc0, od0, .func (PySem.W.fnOf "_law_taken" "_law_taken" (defArgs st_p_law_taken) (defBody st_p_law_taken) (defScope st_p_law_taken) .none kV0 dc0 pm0 an0 cd0 ct0), sl0⟩) (c0 : PySem.W.codeIn K cd0 "_law_taken" = true) (k0 : PySem.W.keepIn K (.ref f0) = true)
    (a1 : PySem.W.nsIn K mainGlobals "_law_loop" = some (some (.ref f1))) (l1 : K.lookup f1 = some ⟨oc1, od1, .func (PySem.W.fnOf "_law_loop" "_law_loop" (defArgs st_p_law_loop) (defBody st_p_law_loop) (defScope st_p_law_loop) .none kV1 dc1 pm1 an1 cd1 ct1), sl1⟩) (c1 : PySem.W.codeIn K cd1 "_law_loop" = true) (k1 : PySem.W.keepIn K (.ref f1) = true)
    (a2 : PySem.W.nsIn K mainGlobals "_law_order" = some (some (.ref f2))) (l2 : K.lookup f2 = some ⟨oc2, od2, .func (PySem.W.fnOf "_law_order" "_law_order" (defArgs st_p_law_order) (defBody st_p_law_order) (defScope st_p_law_order) .none kV2 dc2 pm2 an2 cd2 ct2), sl2⟩) (c2 : PySem.W.codeIn K cd2 "_law_order" = true) (k2 : PySem.W.keepIn K (.ref f2) = true)
    (a3 : PySem.W.nsIn K mainGlobals "_law_unrolled" = some (some (.ref f3))) (l3 : K.lookup f3 = some ⟨oc3, od3, .func (PySem.W.fnOf "_law_unrolled" "_law_unrolled" (defArgs st_p_law_unrolled) (defBody st_p_law_unrolled) (defScope st_p_law_unrolled) .none kV3 dc3 pm3 an3 cd3 ct3), sl3⟩) (c3 : PySem.W.codeIn K cd3 "_law_unrolled" = true) (k3 : PySem.W.keepIn K (.ref f3) = true)
    (a4 : PySem.W.nsIn K mainGlobals "boxes_written" = some (some (.ref f4))) (l4 : K.lookup f4 = some ⟨oc4, od4, .func (PySem.W.fnOf "boxes_written" "boxes_written" (defArgs st_p_boxes_written) (defBody st_p_boxes_written) (defScope st_p_boxes_written) .none kV4 dc4 pm4 an4 cd4 ct4), sl4⟩) (c4 : PySem.W.codeIn K cd4 "boxes_written" = true) (k4 : PySem.W.keepIn K (.ref f4) = true)
    (a5 : PySem.W.nsIn K mainGlobals "is_whole" = some (some (.ref f5))) (l5 : K.lookup f5 = some ⟨oc5, od5, .func (PySem.W.fnOf "is_whole" "is_whole" (defArgs st_p_is_whole) (defBody st_p_is_whole) (defScope st_p_is_whole) .none kV5 dc5 pm5 an5 cd5 ct5), sl5⟩) (c5 : PySem.W.codeIn K cd5 "is_whole" = true) (k5 : PySem.W.keepIn K (.ref f5) = true)
    (a6 : PySem.W.nsIn K mainGlobals "is_number" = some (some (.ref f6))) (l6 : K.lookup f6 = some ⟨oc6, od6, .func (PySem.W.fnOf "is_number" "is_number" (defArgs st_p_is_number) (defBody st_p_is_number) (defScope st_p_is_number) .none kV6 dc6 pm6 an6 cd6 ct6), sl6⟩) (c6 : PySem.W.codeIn K cd6 "is_number" = true) (k6 : PySem.W.keepIn K (.ref f6) = true)
    (a7 : PySem.W.nsIn K mainGlobals "is_box" = some (some (.ref f7))) (l7 : K.lookup f7 = some ⟨oc7, od7, .func (PySem.W.fnOf "is_box" "is_box" (defArgs st_p_is_box) (defBody st_p_is_box) (defScope st_p_is_box) .none kV7 dc7 pm7 an7 cd7 ct7), sl7⟩) (c7 : PySem.W.codeIn K cd7 "is_box" = true) (k7 : PySem.W.keepIn K (.ref f7) = true)
    (a8 : PySem.W.nsIn K mainGlobals "is_row" = some (some (.ref f8))) (l8 : K.lookup f8 = some ⟨oc8, od8, .func (PySem.W.fnOf "is_row" "is_row" (defArgs st_p_is_row) (defBody st_p_is_row) (defScope st_p_is_row) .none kV8 dc8 pm8 an8 cd8 ct8), sl8⟩) (c8 : PySem.W.codeIn K cd8 "is_row" = true) (k8 : PySem.W.keepIn K (.ref f8) = true)
    (a9 : PySem.W.nsIn K mainGlobals "stretch_firings" = some (some (.ref f9))) (l9 : K.lookup f9 = some ⟨oc9, od9, .func (PySem.W.fnOf "stretch_firings" "stretch_firings" (defArgs st_p_stretch_firings) (defBody st_p_stretch_firings) (defScope st_p_stretch_firings) .none kV9 dc9 pm9 an9 cd9 ct9), sl9⟩) (c9 : PySem.W.codeIn K cd9 "stretch_firings" = true) (k9 : PySem.W.keepIn K (.ref f9) = true)
    (a10 : PySem.W.nsIn K mainGlobals "loop_firings" = some (some (.ref f10))) (l10 : K.lookup f10 = some ⟨oc10, od10, .func (PySem.W.fnOf "loop_firings" "loop_firings" (defArgs st_p_loop_firings) (defBody st_p_loop_firings) (defScope st_p_loop_firings) .none kV10 dc10 pm10 an10 cd10 ct10), sl10⟩) (c10 : PySem.W.codeIn K cd10 "loop_firings" = true) (k10 : PySem.W.keepIn K (.ref f10) = true)
    (a11 : PySem.W.nsIn K mainGlobals "check_loop" = some (some (.ref f11))) (l11 : K.lookup f11 = some ⟨oc11, od11, .func (PySem.W.fnOf "check_loop" "check_loop" (defArgs st_p_check_loop) (defBody st_p_check_loop) (defScope st_p_check_loop) .none kV11 dc11 pm11 an11 cd11 ct11), sl11⟩) (c11 : PySem.W.codeIn K cd11 "check_loop" = true) (k11 : PySem.W.keepIn K (.ref f11) = true)
    (a12 : PySem.W.nsIn K mainGlobals "appearances" = some (some (.ref f12))) (l12 : K.lookup f12 = some ⟨oc12, od12, .func (PySem.W.fnOf "appearances" "appearances" (defArgs st_p_appearances) (defBody st_p_appearances) (defScope st_p_appearances) .none kV12 dc12 pm12 an12 cd12 ct12), sl12⟩) (c12 : PySem.W.codeIn K cd12 "appearances" = true) (k12 : PySem.W.keepIn K (.ref f12) = true)
    (a13 : PySem.W.nsIn K mainGlobals "deepest" = some (some (.ref f13))) (l13 : K.lookup f13 = some ⟨oc13, od13, .func (PySem.W.fnOf "deepest" "deepest" (defArgs st_p_deepest) (defBody st_p_deepest) (defScope st_p_deepest) .none kV13 dc13 pm13 an13 cd13 ct13), sl13⟩) (c13 : PySem.W.codeIn K cd13 "deepest" = true) (k13 : PySem.W.keepIn K (.ref f13) = true)
    (a14 : PySem.W.nsIn K mainGlobals "depth" = some (some (.ref f14))) (l14 : K.lookup f14 = some ⟨oc14, od14, .func (PySem.W.fnOf "depth" "depth" (defArgs st_p_depth) (defBody st_p_depth) (defScope st_p_depth) .none kV14 dc14 pm14 an14 cd14 ct14), sl14⟩) (c14 : PySem.W.codeIn K cd14 "depth" = true) (k14 : PySem.W.keepIn K (.ref f14) = true)
    (a15 : PySem.W.nsIn K mainGlobals "check_foldable" = some (some (.ref f15))) (l15 : K.lookup f15 = some ⟨oc15, od15, .func (PySem.W.fnOf "check_foldable" "check_foldable" (defArgs st_p_check_foldable) (defBody st_p_check_foldable) (defScope st_p_check_foldable) .none kV15 dc15 pm15 an15 cd15 ct15), sl15⟩) (c15 : PySem.W.codeIn K cd15 "check_foldable" = true) (k15 : PySem.W.keepIn K (.ref f15) = true)
    (a16 : PySem.W.nsIn K mainGlobals "size" = some (some (.ref f16))) (l16 : K.lookup f16 = some ⟨oc16, od16, .func (PySem.W.fnOf "size" "size" (defArgs st_p_size) (defBody st_p_size) (defScope st_p_size) .none kV16 dc16 pm16 an16 cd16 ct16), sl16⟩) (c16 : PySem.W.codeIn K cd16 "size" = true) (k16 : PySem.W.keepIn K (.ref f16) = true)
    (a17 : PySem.W.nsIn K mainGlobals "least_code" = some (some (.ref f17))) (l17 : K.lookup f17 = some ⟨oc17, od17, .func (PySem.W.fnOf "least_code" "least_code" (defArgs st_p_least_code) (defBody st_p_least_code) (defScope st_p_least_code) .none kV17 dc17 pm17 an17 cd17 ct17), sl17⟩) (c17 : PySem.W.codeIn K cd17 "least_code" = true) (k17 : PySem.W.keepIn K (.ref f17) = true)
    (a18 : PySem.W.nsIn K mainGlobals "folded" = some (some (.ref f18))) (l18 : K.lookup f18 = some ⟨oc18, od18, .func (PySem.W.fnOf "folded" "folded" (defArgs st_p_folded) (defBody st_p_folded) (defScope st_p_folded) .none kV18 dc18 pm18 an18 cd18 ct18), sl18⟩) (c18 : PySem.W.codeIn K cd18 "folded" = true) (k18 : PySem.W.keepIn K (.ref f18) = true)
    (a19 : PySem.W.nsIn K mainGlobals "fold_size" = some (some (.ref f19))) (l19 : K.lookup f19 = some ⟨oc19, od19, .func (PySem.W.fnOf "fold_size" "fold_size" (defArgs st_p_fold_size) (defBody st_p_fold_size) (defScope st_p_fold_size) .none kV19 dc19 pm19 an19 cd19 ct19), sl19⟩) (c19 : PySem.W.codeIn K cd19 "fold_size" = true) (k19 : PySem.W.keepIn K (.ref f19) = true)
    (a20 : PySem.W.nsIn K mainGlobals "boxes_said" = some (some (.ref f20))) (l20 : K.lookup f20 = some ⟨oc20, od20, .func (PySem.W.fnOf "boxes_said" "boxes_said" (defArgs st_p_boxes_said) (defBody st_p_boxes_said) (defScope st_p_boxes_said) .none kV20 dc20 pm20 an20 cd20 ct20), sl20⟩) (c20 : PySem.W.codeIn K cd20 "boxes_said" = true) (k20 : PySem.W.keepIn K (.ref f20) = true)
    (a21 : PySem.W.nsIn K mainGlobals "unrolled" = some (some (.ref f21))) (l21 : K.lookup f21 = some ⟨oc21, od21, .func (PySem.W.fnOf "unrolled" "unrolled" (defArgs st_p_unrolled) (defBody st_p_unrolled) (defScope st_p_unrolled) .none kV21 dc21 pm21 an21 cd21 ct21), sl21⟩) (c21 : PySem.W.codeIn K cd21 "unrolled" = true) (k21 : PySem.W.keepIn K (.ref f21) = true)
    (a22 : PySem.W.nsIn K mainGlobals "shows_fold" = some (some (.ref f22))) (l22 : K.lookup f22 = some ⟨oc22, od22, .func (PySem.W.fnOf "shows_fold" "shows_fold" (defArgs st_p_shows_fold) (defBody st_p_shows_fold) (defScope st_p_shows_fold) .none kV22 dc22 pm22 an22 cd22 ct22), sl22⟩) (c22 : PySem.W.codeIn K cd22 "shows_fold" = true) (k22 : PySem.W.keepIn K (.ref f22) = true)
    (a23 : PySem.W.nsIn K mainGlobals "law" = some (some (.ref f23))) (l23 : K.lookup f23 = some ⟨oc23, od23, .func (PySem.W.fnOf "law" "law" (defArgs st_p_law) (defBody st_p_law) (defScope st_p_law) .none kV23 dc23 pm23 an23 cd23 ct23), sl23⟩) (c23 : PySem.W.codeIn K cd23 "law" = true) (k23 : PySem.W.keepIn K (.ref f23) = true)
    (z_all : PySem.W.nsIn K mainGlobals "all" = some none)
    (z_bool : PySem.W.nsIn K mainGlobals "bool" = some none)
    (z_int : PySem.W.nsIn K mainGlobals "int" = some none)
    (z_isinstance : PySem.W.nsIn K mainGlobals "isinstance" = some none)
    (z_len : PySem.W.nsIn K mainGlobals "len" = some none)
    (z_list : PySem.W.nsIn K mainGlobals "list" = some none)
    (z_max : PySem.W.nsIn K mainGlobals "max" = some none)
    (z_min : PySem.W.nsIn K mainGlobals "min" = some none)
    (z_range : PySem.W.nsIn K mainGlobals "range" = some none)
    (z_set : PySem.W.nsIn K mainGlobals "set" = some none)
    (z_tuple : PySem.W.nsIn K mainGlobals "tuple" = some none)
    (z_MOST_BOXES : PySem.W.nsIn K mainGlobals "MOST_BOXES" = some (some (.int 8 t_MOST_BOXES)))
    (z_MOST_DEPTH : PySem.W.nsIn K mainGlobals "MOST_DEPTH" = some (some (.int 8 t_MOST_DEPTH)))
    (z_MOST_FIRINGS : PySem.W.nsIn K mainGlobals "MOST_FIRINGS" = some (some (.int 2000 t_MOST_FIRINGS)))
    (z_MOST_FOLDED : PySem.W.nsIn K mainGlobals "MOST_FOLDED" = some (some (.int 24 t_MOST_FOLDED)))
    (z_MOST_TIMES : PySem.W.nsIn K mainGlobals "MOST_TIMES" = some (some (.int 999 t_MOST_TIMES))) :
    ∃ fd : FuncData, (∀ (s : Shared) (v : Value), BindsTo s fd ⟨[v], []⟩ [("script", v)]) ∧ ∀ base : Heap, K.In base → base.Ns mainGlobals mg → FnOk l.prog w K mg base (L2.CX l.prog w) 32 fa fd ["script"] (spLaw K) := by
  have e := hfa.symm.trans (PySem.W.mg_of X G a23)
  cases e
  have T : Top K mg := { all := PySem.W.mg_none_of X G z_all, bool := PySem.W.mg_none_of X G z_bool, int := PySem.W.mg_none_of X G z_int, isinstance := PySem.W.mg_none_of X G z_isinstance, len := PySem.W.mg_none_of X G z_len, list := PySem.W.mg_none_of X G z_list, max := PySem.W.mg_none_of X G z_max, min := PySem.W.mg_none_of X G z_min, range := PySem.W.mg_none_of X G z_range, set := PySem.W.mg_none_of X G z_set, tuple := PySem.W.mg_none_of X G z_tuple, c_MOST_BOXES := ⟨t_MOST_BOXES, PySem.W.mg_of X G z_MOST_BOXES⟩, c_MOST_DEPTH := ⟨t_MOST_DEPTH, PySem.W.mg_of X G z_MOST_DEPTH⟩, c_MOST_FIRINGS := ⟨t_MOST_FIRINGS, PySem.W.mg_of X G z_MOST_FIRINGS⟩, c_MOST_FOLDED := ⟨t_MOST_FOLDED, PySem.W.mg_of X G z_MOST_FOLDED⟩, c_MOST_TIMES := ⟨t_MOST_TIMES, PySem.W.mg_of X G z_MOST_TIMES⟩ }
  have F0 := fun_mk (st := st_p_law_taken) l0 c0 k0
  have b0 := F0.binds (ps := ["row", "many"]) fun _ _ _ _ _ _ us hl => match us, hl with | [_, _], _ => rfl
  have F1 := fun_mk (st := st_p_law_loop) l1 c1 k1
  have b1 := F1.binds (ps := ["row", "deep", "most"]) fun _ _ _ _ _ _ us hl => match us, hl with | [_, _, _], _ => rfl
  have F2 := fun_mk (st := st_p_law_order) l2 c2 k2
  have b2 := F2.binds (ps := ["row", "many"]) fun _ _ _ _ _ _ us hl => match us, hl with | [_, _], _ => rfl
  have F3 := fun_mk (st := st_p_law_unrolled) l3 c3 k3
  have b3 := F3.binds (ps := ["loop"]) fun _ _ _ _ _ _ us hl => match us, hl with | [_], _ => rfl
  have F4 := fun_mk (st := st_p_boxes_written) l4 c4 k4
  have b4 := F4.binds (ps := ["loop"]) fun _ _ _ _ _ _ us hl => match us, hl with | [_], _ => rfl
  have F5 := fun_mk (st := st_p_is_whole) l5 c5 k5
  have b5 := F5.binds (ps := ["value"]) fun _ _ _ _ _ _ us hl => match us, hl with | [_], _ => rfl
  have F6 := fun_mk (st := st_p_is_number) l6 c6 k6
  have b6 := F6.binds (ps := ["value", "low", "high"]) fun _ _ _ _ _ _ us hl => match us, hl with | [_, _, _], _ => rfl
  have F7 := fun_mk (st := st_p_is_box) l7 c7 k7
  have b7 := F7.binds (ps := ["value", "boxes"]) fun _ _ _ _ _ _ us hl => match us, hl with | [_, _], _ => rfl
  have F8 := fun_mk (st := st_p_is_row) l8 c8 k8
  have b8 := F8.binds (ps := ["value", "many"]) fun _ _ _ _ _ _ us hl => match us, hl with | [_, _], _ => rfl
  have F9 := fun_mk (st := st_p_stretch_firings) l9 c9 k9
  have b9 := F9.binds (ps := ["item", "depth"]) fun _ _ _ _ _ _ us hl => match us, hl with | [_, _], _ => rfl
  have F10 := fun_mk (st := st_p_loop_firings) l10 c10 k10
  have b10 := F10.binds (ps := ["items", "depth"]) fun _ _ _ _ _ _ us hl => match us, hl with | [_, _], _ => rfl
  have F11 := fun_mk (st := st_p_check_loop) l11 c11 k11
  have b11 := F11.binds (ps := ["loop"]) fun _ _ _ _ _ _ us hl => match us, hl with | [_], _ => rfl
  have F12 := fun_mk (st := st_p_appearances) l12 c12 k12
  have b12 := F12.binds (ps := ["loop"]) fun _ _ _ _ _ _ us hl => match us, hl with | [_], _ => rfl
  have F13 := fun_mk (st := st_p_deepest) l13 c13 k13
  have b13 := F13.binds (ps := ["loop"]) fun _ _ _ _ _ _ us hl => match us, hl with | [_], _ => rfl
  have F14 := fun_mk (st := st_p_depth) l14 c14 k14
  have b14 := F14.binds (ps := ["loop"]) fun _ _ _ _ _ _ us hl => match us, hl with | [_], _ => rfl
  have F15 := fun_mk (st := st_p_check_foldable) l15 c15 k15
  have b15 := F15.binds (ps := ["word"]) fun _ _ _ _ _ _ us hl => match us, hl with | [_], _ => rfl
  have F16 := fun_mk (st := st_p_size) l16 c16 k16
  have b16 := F16.binds (ps := ["loop"]) fun _ _ _ _ _ _ us hl => match us, hl with | [_], _ => rfl
  have F17 := fun_mk (st := st_p_least_code) l17 c17 k17
  have b17 := F17.binds (ps := ["word", "codes", "first", "end"]) fun _ _ _ _ _ _ us hl => match us, hl with | [_, _, _, _], _ => rfl
  have F18 := fun_mk (st := st_p_folded) l18 c18 k18
  have b18 := F18.binds (ps := ["word"]) fun _ _ _ _ _ _ us hl => match us, hl with | [_], _ => rfl
  have F19 := fun_mk (st := st_p_fold_size) l19 c19 k19
  have b19 := F19.binds (ps := ["word"]) fun _ _ _ _ _ _ us hl => match us, hl with | [_], _ => rfl
  have F20 := fun_mk (st := st_p_boxes_said) l20 c20 k20
  have b20 := F20.binds (ps := ["loop"]) fun _ _ _ _ _ _ us hl => match us, hl with | [_], _ => rfl
  have F21 := fun_mk (st := st_p_unrolled) l21 c21 k21
  have b21 := F21.binds (ps := ["loop"]) fun _ _ _ _ _ _ us hl => match us, hl with | [_], _ => rfl
  have F22 := fun_mk (st := st_p_shows_fold) l22 c22 k22
  have b22 := F22.binds (ps := ["word", "value"]) fun _ _ _ _ _ _ us hl => match us, hl with | [_, _], _ => rfl
  have F23 := fun_mk (st := st_p_law) l23 c23 k23
  have b23 := F23.binds (ps := ["script"]) fun _ _ _ _ _ _ us hl => match us, hl with | [_], _ => rfl
  refine ⟨PySem.W.fnOf "law" "law" (defArgs st_p_law) (defBody st_p_law) (defScope st_p_law) .none kV23 dc23 pm23 an23 cd23 ct23, fun s v => .of_eq rfl, fun base _ _ => ?_⟩
  have H0 := ok_p_law_taken (P := l.prog) (wd := w) (base := base) F0 (PySem.W.mg_of X G a0) b0 T 
  have H1 := ok_p_law_loop (P := l.prog) (wd := w) (base := base) F1 (PySem.W.mg_of X G a1) b1 T H0
  have H2 := ok_p_law_order (P := l.prog) (wd := w) (base := base) F2 (PySem.W.mg_of X G a2) b2 T H0
  have H3 := ok_p_law_unrolled (P := l.prog) (wd := w) (base := base) F3 (PySem.W.mg_of X G a3) b3 T 
  have H4 := ok_p_boxes_written (P := l.prog) (wd := w) (base := base) F4 (PySem.W.mg_of X G a4) b4 T 
  have H5 := ok_p_is_whole (P := l.prog) (wd := w) (base := base) F5 (PySem.W.mg_of X G a5) b5 T 
  have H6 := ok_p_is_number (P := l.prog) (wd := w) (base := base) F6 (PySem.W.mg_of X G a6) b6 T H5
  have H7 := ok_p_is_box (P := l.prog) (wd := w) (base := base) F7 (PySem.W.mg_of X G a7) b7 T H6
  have H8 := ok_p_is_row (P := l.prog) (wd := w) (base := base) F8 (PySem.W.mg_of X G a8) b8 T 
  have H10 := ok_p_loop_firings (P := l.prog) (wd := w) (base := base) F10 (PySem.W.mg_of X G a10) b10 F9 (PySem.W.mg_of X G a9) b9 T H7 H6 H8
  have H11 := ok_p_check_loop (P := l.prog) (wd := w) (base := base) F11 (PySem.W.mg_of X G a11) b11 T H10
  have H12 := ok_p_appearances (P := l.prog) (wd := w) (base := base) F12 (PySem.W.mg_of X G a12) b12 T H4 H11
  have H13 := ok_p_deepest (P := l.prog) (wd := w) (base := base) F13 (PySem.W.mg_of X G a13) b13 T 
  have H14 := ok_p_depth (P := l.prog) (wd := w) (base := base) F14 (PySem.W.mg_of X G a14) b14 T H11 H13
  have H15 := ok_p_check_foldable (P := l.prog) (wd := w) (base := base) F15 (PySem.W.mg_of X G a15) b15 T H7
  have H16 := ok_p_size (P := l.prog) (wd := w) (base := base) F16 (PySem.W.mg_of X G a16) b16 T H4
  have H17 := ok_p_least_code (P := l.prog) (wd := w) (base := base) F17 (PySem.W.mg_of X G a17) b17 T H16
  have H18 := ok_p_folded (P := l.prog) (wd := w) (base := base) F18 (PySem.W.mg_of X G a18) b18 T H15 H17
  have H19 := ok_p_fold_size (P := l.prog) (wd := w) (base := base) F19 (PySem.W.mg_of X G a19) b19 T H18 H16
  have H20 := ok_p_boxes_said (P := l.prog) (wd := w) (base := base) F20 (PySem.W.mg_of X G a20) b20 T 
  have H21 := ok_p_unrolled (P := l.prog) (wd := w) (base := base) F21 (PySem.W.mg_of X G a21) b21 T H20 H11
  have H22 := ok_p_shows_fold (P := l.prog) (wd := w) (base := base) F22 (PySem.W.mg_of X G a22) b22 T H19 H16 H21
  exact (ok_p_law (P := l.prog) (wd := w) (base := base) F23 T H1 H2 H0 H3 H12 H14 H19 H18 H22 H21).imp (law_sp (g := ⟨K, mg⟩) ok)
theorem no_exc {P : Program} {w : World} {H : Hp} {s : Shared} {e : Value} {s' : Shared} (h : L2.CX P w [] H s (fun _ _ _ => False) e s') : False := by
  obtain ⟨_, _, _, _, _, _, _, _, _, _, _, _, z⟩ := h
  exact z
end K76
set_option linter.all false
set_option maxRecDepth 100000
/-! Reckoning: each rule fires only when what stands ahead is a value. -/
namespace J
open PySem (Str)
variable {E : Env} {S : List D} {d x y z : D} {ds xs : List D}
@[simp] theorem bind_exc {α β : Type} (c : Str) (fs : List (Str × D)) (S : List D) (k : α → List D → R β) : (R.exc c fs S).bind k = .exc c fs S := id rfl
@[simp] theorem bind_bad {α β : Type} (k : α → List D → R β) : (R.bad : R α).bind k = .bad := id rfl
/-! variables -/
@[simp] theorem ev_var0 : eVar 0 (some d :: E) S = .ok d S := id rfl
@[simp] theorem ev_varS (i : Nat) (o : Option D) : eVar (i + 1) (o :: E) S = eVar i E S := id rfl
@[simp] theorem ev_c : eC d E S = .ok d S := id rfl
/-! expressions -/
def kOp1 (f : D → D → List D → R D) (b : ME) (E : Env) (x : D) (S : List D) : R D := (b E S).bind (fun y S2 => f x y S2)
def kOp2 (f : D → D → List D → R D) (x : D) (y : D) (S : List D) : R D := f x y S
@[simp] theorem ev_op (f : D → D → List D → R D) (a b : ME) : eOp f a b E S = (a E S).bind (kOp1 f b E) := id rfl
@[simp] theorem kop1 (f : D → D → List D → R D) (b : ME) : kOp1 f b E x S = (b E S).bind (kOp2 f x) := id rfl
@[simp] theorem kop2 (f : D → D → List D → R D) : kOp2 f x y S = f x y S := id rfl
@[simp] theorem ev_un (f : D → List D → R D) (a : ME) : eUn f a E S = (a E S).bind f := id rfl
@[simp] theorem ev_nil : aNil E S = .ok [] S := id rfl
def kCons1 (r : MA) (E : Env) (x : D) (S : List D) : R (List D) := (r E S).bind fun xs S2 => .ok (x :: xs) S2
def kCons2 (x : D) (xs : List D) (S : List D) : R (List D) := .ok (x :: xs) S
@[simp] theorem ev_cons (a : ME) (r : MA) : aCons a r E S = (a E S).bind (kCons1 r E) := id rfl
@[simp] theorem kcons1 (r : MA) : kCons1 r E x S = (r E S).bind (kCons2 x) := id rfl
@[simp] theorem kcons2 : kCons2 x xs S = .ok (x :: xs) S := id rfl
@[simp] theorem ev_args (f : List D → List D → R D) (a : MA) : eArgs f a E S = (a E S).bind f := id rfl
def kIf (a b : ME) (E : Env) (c : Bool) (S : List D) : R D := if c = true then a E S else b E S
@[simp] theorem ev_if (t : MT) (a b : ME) : eIf t a b E S = (t E S).bind (kIf a b E) := id rfl
@[simp] theorem kif_t (a b : ME) : kIf a b E true S = a E S := id rfl
@[simp] theorem kif_f (a b : ME) : kIf a b E false S = b E S := id rfl
def kAnd (b : ME) (E : Env) (x : D) (S : List D) : R D := onBl x fun c => if c = true then b E S else .ok (.bl false) S
@[simp] theorem ev_and (a b : ME) : eAnd a b E S = (a E S).bind (kAnd b E) := id rfl
@[simp] theorem kand_t (b : ME) : kAnd b E (.bl true) S = b E S := id rfl
@[simp] theorem kand_f (b : ME) : kAnd b E (.bl false) S = .ok (.bl false) S := id rfl
def kOr (b : ME) (E : Env) (x : D) (S : List D) : R D := onBl x fun c => if c = true then .ok (.bl true) S else b E S
@[simp] theorem ev_or (a b : ME) : eOr a b E S = (a E S).bind (kOr b E) := id rfl
@[simp] theorem kor_t (b : ME) : kOr b E (.bl true) S = .ok (.bl true) S := id rfl
@[simp] theorem kor_f (b : ME) : kOr b E (.bl false) S = b E S := id rfl
def kNot (x : D) (S : List D) : R D := onBl x fun c => .ok (.bl (!c)) S
@[simp] theorem ev_not (a : ME) : eNot a E S = (a E S).bind kNot := id rfl
@[simp] theorem knot_b (c : Bool) : kNot (.bl c) S = .ok (.bl (!c)) S := id rfl
def kCh1 (f h : D → D → List D → R D) (b c : ME) (E : Env) (x : D) (S : List D) : R D := (b E S).bind fun y S2 => (f x y S2).bind fun t S3 => onBl t fun k => if k = true then (c E S3).bind fun z S4 => h y z S4 else .ok (.bl false) S3
def kCh2 (f h : D → D → List D → R D) (c : ME) (E : Env) (x y : D) (S : List D) : R D := (f x y S).bind fun t S3 => onBl t fun k => if k = true then (c E S3).bind fun z S4 => h y z S4 else .ok (.bl false) S3
def kCh3 (h : D → D → List D → R D) (c : ME) (E : Env) (y t : D) (S : List D) : R D := onBl t fun k => if k = true then (c E S).bind fun z S4 => h y z S4 else .ok (.bl false) S
@[simp] theorem ev_chain (f h : D → D → List D → R D) (a b c : ME) : eChain f h a b c E S = (a E S).bind (kCh1 f h b c E) := id rfl
@[simp] theorem kch1 (f h : D → D → List D → R D) (b c : ME) : kCh1 f h b c E x S = (b E S).bind (kCh2 f h c E x) := id rfl
@[simp] theorem kch2 (f h : D → D → List D → R D) (c : ME) : kCh2 f h c E x y S = (f x y S).bind (kCh3 h c E y) := id rfl
@[simp] theorem kch3_t (h : D → D → List D → R D) (c : ME) : kCh3 h c E y (.bl true) S = (c E S).bind (kOp2 h y) := id rfl
@[simp] theorem kch3_f (h : D → D → List D → R D) (c : ME) : kCh3 h c E y (.bl false) S = .ok (.bl false) S := id rfl
/-! tests -/
def kTV (x : D) (S : List D) : R Bool := onBl x fun c => .ok c S
@[simp] theorem ev_tv (a : ME) : tV a E S = (a E S).bind kTV := id rfl
@[simp] theorem ktv (c : Bool) : kTV (.bl c) S = .ok c S := id rfl
def kTT (x : D) (S : List D) : R Bool := match truth S x with
  | some c => .ok c S
  | none => .bad
@[simp] theorem ev_tr (a : ME) : tTr a E S = (a E S).bind kTT := id rfl
@[simp] theorem ktt_bl (c : Bool) : kTT (.bl c) S = .ok c S := id rfl
@[simp] theorem ktt_int (i : Int) : kTT (.int i) S = .ok (!decide (i = 0)) S := id rfl
@[simp] theorem ktt_tup : kTT (.tup ds) S = .ok (!ds.isEmpty) S := id rfl
@[simp] theorem ktt_lst : kTT (.lst ds) S = .ok (!ds.isEmpty) S := id rfl
@[simp] theorem ktt_non : kTT .non S = .ok false S := id rfl
def kTAnd (b : MT) (E : Env) (c : Bool) (S : List D) : R Bool := if c = true then b E S else .ok false S
@[simp] theorem ev_tand (a b : MT) : tAnd a b E S = (a E S).bind (kTAnd b E) := id rfl
@[simp] theorem ktand_t (b : MT) : kTAnd b E true S = b E S := id rfl
@[simp] theorem ktand_f (b : MT) : kTAnd b E false S = .ok false S := id rfl
def kTOr (b : MT) (E : Env) (c : Bool) (S : List D) : R Bool := if c = true then .ok true S else b E S
@[simp] theorem ev_tor (a b : MT) : tOr a b E S = (a E S).bind (kTOr b E) := id rfl
@[simp] theorem ktor_t (b : MT) : kTOr b E true S = .ok true S := id rfl
@[simp] theorem ktor_f (b : MT) : kTOr b E false S = b E S := id rfl
def kTNot (c : Bool) (S : List D) : R Bool := .ok (!c) S
@[simp] theorem ev_tnot (a : MT) : tNot a E S = (a E S).bind kTNot := id rfl
@[simp] theorem ktnot (c : Bool) : kTNot c S = .ok (!c) S := id rfl
@[simp] theorem ev_tyes : tYes E S = .ok true S := id rfl
/-! statements -/
def kSeq (b : MS) : O → O
  | .nx E1 S1 => b E1 S1
  | o => o
@[simp] theorem ev_seq (a b : MS) : sSeq a b E S = kSeq b (a E S) := by
  unfold sSeq kSeq
  cases a E S <;> rfl
@[simp] theorem kseq_nx (b : MS) : kSeq b (.nx E S) = b E S := id rfl
@[simp] theorem kseq_rt (b : MS) : kSeq b (.rt d S) = .rt d S := id rfl
@[simp] theorem kseq_bk (b : MS) : kSeq b (.bk E S) = .bk E S := id rfl
@[simp] theorem kseq_ct (b : MS) : kSeq b (.ct E S) = .ct E S := id rfl
@[simp] theorem kseq_bad (b : MS) : kSeq b .bad = .bad := id rfl
@[simp] theorem kseq_exc (b : MS) (c : Str) (fs : List (Str × D)) : kSeq b (.exc c fs E S) = .exc c fs E S := id rfl
@[simp] theorem ev_next : sNext E S = .nx E S := id rfl
@[simp] theorem ev_break : sBreak E S = .bk E S := id rfl
@[simp] theorem ev_cont : sCont E S = .ct E S := id rfl
@[simp] theorem ev_never : sNever E S = .bad := id rfl
@[simp] theorem ev_retN : sRetN E S = .rt .non S := id rfl
def kExpr (E : Env) (_ : D) (S : List D) : O := .nx E S
@[simp] theorem ev_expr (a : ME) : sExpr a E S = (a E S).toO E (kExpr E) := id rfl
@[simp] theorem kexpr : kExpr E d S = .nx E S := id rfl
def kRet (d : D) (S : List D) : O := .rt d S
@[simp] theorem ev_ret (a : ME) : sRet a E S = (a E S).toO E kRet := id rfl
@[simp] theorem kret : kRet d S = .rt d S := id rfl
def kSIf (a b : MS) (E : Env) (c : Bool) (S : List D) : O := if c = true then a E S else b E S
@[simp] theorem ev_sif (t : MT) (a b : MS) : sIf t a b E S = (t E S).tO E (kSIf a b E) := id rfl
@[simp] theorem ksif_t (a b : MS) : kSIf a b E true S = a E S := id rfl
@[simp] theorem ksif_f (a b : MS) : kSIf a b E false S = b E S := id rfl
def kSet (i : Nat) (E : Env) (d : D) (S : List D) : O := .nx (E.set i (some d)) S
@[simp] theorem ev_set (i : Nat) (a : ME) : sSet i a E S = (a E S).toO E (kSet i E) := id rfl
@[simp] theorem kset (i : Nat) : kSet i E d S = .nx (E.set i (some d)) S := id rfl
def kAug1 (f : D → D → List D → R D) (i : Nat) (x : D) (E : Env) (y : D) (S : List D) : O := (f x y S).toO E (kSet i E)
def kAug0 (f : D → D → List D → R D) (i : Nat) (a : ME) (E : Env) (x : D) (S : List D) : O := (a E S).toO E (kAug1 f i x E)
@[simp] theorem ev_aug (i : Nat) (f : D → D → List D → R D) (a : ME) : sAug i f a E S = (eVar i E S).toO E (kAug0 f i a E) := by
  unfold sAug eVar
  split <;> rfl
@[simp] theorem kaug0 (f : D → D → List D → R D) (i : Nat) (a : ME) : kAug0 f i a E x S = (a E S).toO E (kAug1 f i x E) := id rfl
@[simp] theorem kaug1 (f : D → D → List D → R D) (i : Nat) : kAug1 f i x E y S = (f x y S).toO E (kSet i E) := id rfl
def kAsg (t : Tg) (E : Env) (d : D) (S : List D) : O := match t.bind d E with
  | some E1 => .nx E1 S
  | none => .bad
@[simp] theorem ev_asg (t : Tg) (a : ME) : sAsg t a E S = (a E S).toO E (kAsg t E) := id rfl
def kA (o : Option Env) (S : List D) : O := match o with
  | some E1 => .nx E1 S
  | none => .bad
@[simp] theorem kA_s : kA (some E) S = .nx E S := id rfl
@[simp] theorem kasg' (t : Tg) : kAsg t E d S = kA (t.bind d E) S := by
  unfold kAsg kA
  cases t.bind d E <;> rfl
theorem kasg {t : Tg} {E1 : Env} (h : t.bind d E = some E1) : kAsg t E d S = .nx E1 S := by simp [kAsg, h]
def kPar (is_ : List Nat) (E : Env) : R (List D) → O
  | .ok ds S1 => match Tg.binds (is_.map .nm) ds E with
    | some E1 => .nx E1 S1
    | none => .bad
  | .exc c fs S1 => .exc c fs E S1
  | .bad => .bad
@[simp] theorem ev_par (is_ : List Nat) (a : MA) : sPar is_ a E S = kPar is_ E (a E S) := by
  unfold sPar kPar
  cases a E S <;> rfl
@[simp] theorem kpar2 (i j : Nat) (a b : D) : kPar [i, j] E (.ok [a, b] S) = .nx ((E.set i (some a)).set j (some b)) S := id rfl
@[simp] theorem kpar3 (i j k : Nat) (a b c : D) : kPar [i, j, k] E (.ok [a, b, c] S) = .nx (((E.set i (some a)).set j (some b)).set k (some c)) S := id rfl
@[simp] theorem bind_nm (i : Nat) : (Tg.nm i).bind d E = some (E.set i (some d)) := id rfl
@[simp] theorem bind_tp (ts : List Tg) : (Tg.tp ts).bind (.tup ds) E = Tg.binds ts ds E := id rfl
@[simp] theorem binds_nil : Tg.binds [] [] E = some E := id rfl
@[simp] theorem binds_cons (i : Nat) (ts : List Tg) : Tg.binds (.nm i :: ts) (d :: ds) E = Tg.binds ts ds (E.set i (some d)) := id rfl
@[simp] theorem binds_tp (us ts : List Tg) : Tg.binds (.tp us :: ts) (.tup xs :: ds) E = (Tg.binds us xs E).bind fun E1 => Tg.binds ts ds E1 := by
  simp only [Tg.binds, Tg.bind]
  cases Tg.binds us xs E <;> rfl
/-! o[i] = e -/
def kPut2 (x v : D) (E : Env) (k : D) (S : List D) : O := match putAt x k v S with
  | some S4 => .nx E S4
  | none => .bad
def kPut1 (i : ME) (v : D) (E : Env) (x : D) (S : List D) : O := (i E S).toO E (kPut2 x v E)
def kPut0 (o i : ME) (E : Env) (v : D) (S : List D) : O := (o E S).toO E (kPut1 i v E)
@[simp] theorem ev_put (o i e : ME) : sPut o i e E S = (e E S).toO E (kPut0 o i E) := id rfl
@[simp] theorem kput0 (o i : ME) : kPut0 o i E d S = (o E S).toO E (kPut1 i d E) := id rfl
@[simp] theorem kput1 (i : ME) (v : D) : kPut1 i v E x S = (i E S).toO E (kPut2 x v E) := id rfl
def kPA4 (x k : D) (E : Env) (v : D) (S : List D) : O := kPut2 x v E k S
def kPA3 (f : D → D → List D → R D) (x k y : D) (E : Env) (z : D) (S : List D) : O := (f y z S).toO E (kPA4 x k E)
def kPA2 (f : D → D → List D → R D) (e : ME) (x k : D) (E : Env) (y : D) (S : List D) : O := (e E S).toO E (kPA3 f x k y E)
def kPA1 (f : D → D → List D → R D) (e : ME) (x : D) (E : Env) (k : D) (S : List D) : O := (oIx x k S).toO E (kPA2 f e x k E)
def kPA0 (f : D → D → List D → R D) (i e : ME) (E : Env) (x : D) (S : List D) : O := (i E S).toO E (kPA1 f e x E)
@[simp] theorem ev_putAug (f : D → D → List D → R D) (o i e : ME) : sPutAug f o i e E S = (o E S).toO E (kPA0 f i e E) := id rfl
@[simp] theorem kpa0 (f : D → D → List D → R D) (i e : ME) : kPA0 f i e E x S = (i E S).toO E (kPA1 f e x E) := id rfl
@[simp] theorem kpa1 (f : D → D → List D → R D) (e : ME) : kPA1 f e x E y S = (oIx x y S).toO E (kPA2 f e x y E) := id rfl
@[simp] theorem kpa2 (f : D → D → List D → R D) (e : ME) : kPA2 f e x y E z S = (e E S).toO E (kPA3 f x y z E) := id rfl
@[simp] theorem kpa3 (f : D → D → List D → R D) (k v : D) : kPA3 f x y k E v S = (f k v S).toO E (kPA4 x y E) := id rfl
@[simp] theorem kpa4 (v : D) : kPA4 x y E v S = kPut2 x v E y S := id rfl
/-! operators by values -/
@[simp] theorem o_add (i j : Int) : oAdd (.int i) (.int j) S = .ok (.int (i + j)) S := id rfl
@[simp] theorem i_add (i j : Int) : iAdd (.int i) (.int j) S = .ok (.int (i + j)) S := id rfl
theorem o_addT (h : xs.length + ds.length ≤ SL) : oAdd (.tup xs) (.tup ds) S = .ok (.tup (xs ++ ds)) S := by simp [oAdd, h]
theorem o_addL {x y : D} (h1 : lstOf S x = some xs) (h2 : lstOf S y = some ds) (h : xs.length + ds.length ≤ SL) : oAdd x y S = .ok (.lst (xs ++ ds)) S := by
  unfold oAdd
  split
  · simp [lstOf] at h1
  · simp [lstOf] at h1
  · rw [h1, h2]; simp [h]
@[simp] theorem o_sub (i j : Int) : oSub (.int i) (.int j) S = .ok (.int (i - j)) S := id rfl
theorem o_mul {i j : Int} (h : smallI i = true ∨ smallI j = true) : oMul (.int i) (.int j) S = .ok (.int (i * j)) S := by simp [oMul, h]
theorem o_div {i j : Int} (h : 0 < j) (h2 : j < 1073741824) : oDiv (.int i) (.int j) S = .ok (.int (i / j)) S := by
  have : j ≠ 0 ∧ j.natAbs < 1073741824 := ⟨by omega, by omega⟩
  simp only [oDiv, if_pos this, Int.fdiv_eq_ediv_of_nonneg _ (Int.le_of_lt h)]
theorem o_mod {i j : Int} (h : 0 < j) : oMod (.int i) (.int j) S = .ok (.int (i % j)) S := by
  have : j ≠ 0 := by omega
  simp only [oMod, if_pos this, Int.fmod_eq_emod_of_nonneg _ (Int.le_of_lt h)]
@[simp] theorem o_lt (i j : Int) : oLt (.int i) (.int j) S = .ok (.bl (decide (i < j))) S := id rfl
@[simp] theorem o_le (i j : Int) : oLe (.int i) (.int j) S = .ok (.bl (decide (i ≤ j))) S := id rfl
@[simp] theorem o_gt (i j : Int) : oGt (.int i) (.int j) S = .ok (.bl (decide (j < i))) S := id rfl
@[simp] theorem o_ge (i j : Int) : oGe (.int i) (.int j) S = .ok (.bl (decide (j ≤ i))) S := id rfl
@[simp] theorem o_neg (i : Int) : oNeg (.int i) S = .ok (.int (-i)) S := id rfl
@[simp] theorem o_isN : oIsN x S = .ok (.bl x.isNon) S := id rfl
@[simp] theorem o_notN : oNotN x S = .ok (.bl (!x.isNon)) S := id rfl
theorem cmpOk_int (i : Int) : cmpOk (.int i) = true := rfl
@[simp] theorem o_eqI (i j : Int) : oEq (.int i) (.int j) S = .ok (.bl (decide (i = j))) S := id rfl
@[simp] theorem o_neI (i j : Int) : oNe (.int i) (.int j) S = .ok (.bl (!decide (i = j))) S := id rfl
theorem o_eq (h1 : cmpOk (seen S x) = true) (h2 : cmpOk (seen S y) = true) : oEq x y S = .ok (.bl (D.eqB (seen S x) (seen S y))) S := by simp [oEq, h1, h2]
theorem o_ne (h1 : cmpOk (seen S x) = true) (h2 : cmpOk (seen S y) = true) : oNe x y S = .ok (.bl (!D.eqB (seen S x) (seen S y))) S := by simp [oNe, h1, h2]
/-! subscripts -/
theorem atOf_nat {xs : List D} {i : Nat} {d : D} (h : xs[i]? = some d) : atOf xs (i : Int) = some d := by
  have hl := (List.getElem?_eq_some_iff.mp h).1
  have : ixOf xs.length (i : Int) = some i := by
    unfold ixOf
    rw [if_pos (by omega), if_pos (by omega)]
    simp
  simp [atOf, this, h]
@[simp] theorem atOf_nat' (xs : List D) (i : Nat) : atOf xs (i : Int) = xs[i]? := by
  cases h : xs[i]? with
  | some d => exact atOf_nat h
  | none =>
    have hl := List.getElem?_eq_none_iff.mp h
    have h2 : ixOf xs.length (i : Int) = none := by
      unfold ixOf
      rw [if_pos (by omega), if_neg (by omega)]
    unfold atOf
    rw [h2]
    rfl
@[simp] theorem at0 : atOf xs 0 = xs[0]? := atOf_nat' xs 0
@[simp] theorem at1 : atOf xs 1 = xs[1]? := atOf_nat' xs 1
@[simp] theorem at2 : atOf xs 2 = xs[2]? := atOf_nat' xs 2
@[simp] theorem at3 : atOf xs 3 = xs[3]? := atOf_nat' xs 3
@[simp] theorem at4 : atOf xs 4 = xs[4]? := atOf_nat' xs 4
theorem at_int {k : Int} (h : 0 ≤ k) : atOf xs k = xs[k.toNat]? := by
  obtain ⟨n, rfl⟩ := Int.eq_ofNat_of_zero_le h
  simp
@[simp] theorem at_last : atOf xs (-1) = xs.getLast? := by
  cases xs with
  | nil => rfl
  | cons d ds =>
    rw [List.getLast?_eq_getElem?]
    have : ixOf (d :: ds).length (-1) = some ((d :: ds).length - 1) := by
      unfold ixOf
      rw [if_neg (by omega), if_pos (by simp; omega)]
      congr 1
      simp
      omega
    unfold atOf
    rw [this]
    rfl
def okO (o : Option D) (S : List D) : R D := match o with
  | some d => .ok d S
  | none => .bad
@[simp] theorem okO_s : okO (some d) S = .ok d S := id rfl
def ixL (o : Option D) (k : Int) (S : List D) : R D := match o with
  | some (.lst xs) => okO (atOf xs k) S
  | some (.dct ks ds) => okO (getK ks ds (.inl k)) S
  | _ => .bad
@[simp] theorem ixL_l (k : Int) : ixL (some (.lst xs)) k S = okO (atOf xs k) S := id rfl
@[simp] theorem ixL_d (ks : List Ky) (k : Int) : ixL (some (.dct ks ds)) k S = okO (getK ks ds (.inl k)) S := id rfl
@[simp] theorem o_ixT (k : Int) : oIx (.tup xs) (.int k) S = okO (atOf xs k) S := by
  unfold oIx okO
  simp only [seqOf]
  all_goals (cases atOf xs k <;> rfl)
@[simp] theorem o_ixLs (k : Int) : oIx (.lst xs) (.int k) S = okO (atOf xs k) S := by
  unfold oIx okO
  simp only [seqOf]
  all_goals (cases atOf xs k <;> rfl)
@[simp] theorem o_ixR (k : Int) : oIx (.rdl xs) (.int k) S = okO (atOf xs k) S := by
  unfold oIx okO
  simp only [seqOf]
  all_goals (cases atOf xs k <;> rfl)
@[simp] theorem o_ixO (n : Nat) (k : Int) : oIx (.loc n) (.int k) S = ixL S[n]? k S := by
  unfold oIx ixL okO
  cases h : S[n]? with
  | none => simp only [seqOf, dctOf, h]
  | some v =>
    cases v with
    | lst xs =>
      simp only [seqOf, h]
      all_goals (cases atOf xs k <;> rfl)
    | dct ks ds =>
      simp only [seqOf, dctOf, keyOf, h]
      all_goals (cases getK ks ds (.inl k) <;> rfl)
    | _ => simp only [seqOf, dctOf, h]
/-! built-ins -/
@[simp] theorem b_int (i : Int) : bInt [.int i] S = .ok (.int i) S := id rfl
@[simp] theorem b_abs (i : Int) : bAbs [.int i] S = .ok (.int (if i < 0 then -i else i)) S := id rfl
@[simp] theorem b_tup2 (a b : D) : bTup [a, b] S = .ok (.tup [a, b]) S := id rfl
@[simp] theorem b_tup1 (a : D) : bTup [a] S = .ok (.tup [a]) S := id rfl
@[simp] theorem b_tup0 : bTup [] S = .ok (.tup []) S := id rfl
@[simp] theorem b_tup5 (a b c d e : D) : bTup [a, b, c, d, e] S = .ok (.tup [a, b, c, d, e]) S := id rfl
@[simp] theorem b_lst0 : bLst [] S = .ok (.lst []) S := id rfl
@[simp] theorem b_lst1 (a : D) : bLst [a] S = .ok (.lst [a]) S := id rfl
@[simp] theorem b_lst2 (a b : D) : bLst [a, b] S = .ok (.lst [a, b]) S := id rfl
@[simp] theorem b_lst3 (a b c : D) : bLst [a, b, c] S = .ok (.lst [a, b, c]) S := id rfl
@[simp] theorem b_lstL0 : bLstL [] S = .ok (.loc S.length) (S ++ [.lst []]) := id rfl
@[simp] theorem b_lstL1 (a : D) : bLstL [a] S = .ok (.loc S.length) (S ++ [.lst [a]]) := id rfl
@[simp] theorem b_lstL2 (a b : D) : bLstL [a, b] S = .ok (.loc S.length) (S ++ [.lst [a, b]]) := id rfl
@[simp] theorem b_lstL3 (a b c : D) : bLstL [a, b, c] S = .ok (.loc S.length) (S ++ [.lst [a, b, c]]) := id rfl
@[simp] theorem b_lstL4 (a b c d : D) : bLstL [a, b, c, d] S = .ok (.loc S.length) (S ++ [.lst [a, b, c, d]]) := id rfl
@[simp] theorem b_lenT : bLen [.tup xs] S = .ok (.int xs.length) S := id rfl
@[simp] theorem b_lenL : bLen [.lst xs] S = .ok (.int xs.length) S := id rfl
@[simp] theorem b_lenR : bLen [.rdl xs] S = .ok (.int xs.length) S := id rfl
@[simp] theorem b_lenO (n : Nat) (h : S[n]? = some (.lst xs)) : bLen [.loc n] S = .ok (.int xs.length) S := by simp [bLen, seqOf, h]
@[simp] theorem b_tupleT : bTuple [.tup xs] S = .ok (.tup xs) S := id rfl
@[simp] theorem b_tupleL : bTuple [.lst xs] S = .ok (.tup xs) S := id rfl
def tupL (o : Option D) (S : List D) : R D := match o with
  | some (.lst xs) => .ok (.tup xs) S
  | _ => .bad
@[simp] theorem tupL_l : tupL (some (.lst xs)) S = .ok (.tup xs) S := id rfl
@[simp] theorem b_tupleO (n : Nat) : bTuple [.loc n] S = tupL S[n]? S := by
  unfold bTuple tupL
  cases h : S[n]? with
  | none => simp only [seqOf, h]
  | some v => cases v <;> simp only [seqOf, h]
@[simp] theorem b_listL : bListL [.tup xs] S = .ok (.loc S.length) (S ++ [.lst xs]) := id rfl
@[simp] theorem b_listL2 : bListL [.lst xs] S = .ok (.loc S.length) (S ++ [.lst xs]) := id rfl
def apL (o : Option D) (n : Nat) (y : D) (S : List D) : R D := match o with
  | some (.lst xs) => if xs.length < SL then .ok .non (S.set n (.lst (xs ++ [y]))) else .bad
  | _ => .bad
@[simp] theorem m_app (n : Nat) : mAppend (.loc n) [y] S = apL S[n]? n y S := by
  unfold apL
  cases h : S[n]? with
  | none => simp only [mAppend, h]
  | some v => cases v <;> simp only [mAppend, h]
@[simp] theorem apL_l (n : Nat) (hl : xs.length < SL) : apL (some (.lst xs)) n y S = .ok .non (S.set n (.lst (xs ++ [y]))) := by simp [apL, hl]
def kM1 (f : D → List D → List D → R D) (a : MA) (E : Env) (x : D) (S : List D) : R D := if (lstOf S x).isSome = true then (a E S).bind fun xs S2 => f x xs S2 else .bad
def kM2 (f : D → List D → List D → R D) (x : D) (xs : List D) (S : List D) : R D := f x xs S
@[simp] theorem ev_meth (f : D → List D → List D → R D) (o : ME) (a : MA) : eMeth f o a E S = (o E S).bind (kM1 f a E) := id rfl
def isL (o : Option D) : Bool := match o with
  | some (.lst _) => true
  | _ => false
@[simp] theorem isL_l : isL (some (.lst xs)) = true := id rfl
@[simp] theorem km1o {f : D → List D → List D → R D} {a : MA} {n : Nat} (h : isL S[n]? = true) : kM1 f a E (.loc n) S = (a E S).bind (fun xs S2 => f (.loc n) xs S2) := by
  unfold kM1
  rw [if_pos]
  cases h2 : S[n]? with
  | none => rw [h2] at h; cases h
  | some v => cases v <;> first | (rw [h2] at h; cases h; done) | simp only [lstOf, h2, Option.isSome]
theorem km1 {f : D → List D → List D → R D} {a : MA} (h : (lstOf S x).isSome = true) : kM1 f a E x S = (a E S).bind (kM2 f x) := by
  unfold kM1
  rw [if_pos h]; rfl
@[simp] theorem km2 (f : D → List D → List D → R D) : kM2 f x xs S = f x xs S := id rfl
/-! slices -/
def kSl3 (x : D) (l h : Option Int) (S : List D) : R D := oSl x l h S
def kSl2 (hi : Option ME) (E : Env) (x : D) (l : Option Int) (S : List D) : R D := (ePart hi E S).bind fun h S3 => oSl x l h S3
def kSl1 (lo hi : Option ME) (E : Env) (x : D) (S : List D) : R D := (ePart lo E S).bind fun l S2 => (ePart hi E S2).bind fun h S3 => oSl x l h S3
@[simp] theorem ev_sl (a : ME) (lo hi : Option ME) : eSl a lo hi E S = (a E S).bind (kSl1 lo hi E) := id rfl
@[simp] theorem ksl1 (lo hi : Option ME) : kSl1 lo hi E x S = (ePart lo E S).bind (kSl2 hi E x) := id rfl
@[simp] theorem ksl2 (hi : Option ME) (l : Option Int) : kSl2 hi E x l S = (ePart hi E S).bind (kSl3 x l) := id rfl
@[simp] theorem ksl3 (l h : Option Int) : kSl3 x l h S = oSl x l h S := id rfl
@[simp] theorem part_none : ePart none E S = .ok none S := id rfl
def kPart (x : D) (S : List D) : R (Option Int) := match x with
  | .int i => .ok (some i) S
  | _ => .bad
@[simp] theorem part_some (m : ME) : ePart (some m) E S = (m E S).bind kPart := id rfl
@[simp] theorem kpart (i : Int) : kPart (.int i) S = .ok (some i) S := id rfl
@[simp] theorem o_slT (l h : Option Int) : oSl (.tup xs) l h S = .ok (.tup (cutOf xs l h)) S := id rfl
theorem cut_to {xs : List D} (k : Nat) : cutOf xs none (some (k : Int)) = xs.take k := by
  unfold cutOf sIxOf
  simp only [List.drop_zero, Nat.sub_zero]
  rw [if_neg (show ¬ ((k : Int) < 0) by omega), Int.toNat_natCast]
  by_cases h : k ≤ xs.length
  · rw [Nat.min_eq_left h]
  · rw [Nat.min_eq_right (by omega), List.take_of_length_le (Nat.le_refl _), List.take_of_length_le (by omega)]
theorem cut_from {xs : List D} (k : Nat) : cutOf xs (some (k : Int)) none = xs.drop k := by
  unfold cutOf sIxOf
  simp only
  rw [if_neg (show ¬ ((k : Int) < 0) by omega), Int.toNat_natCast]
  by_cases h : k ≤ xs.length
  · rw [Nat.min_eq_left h, List.take_of_length_le (by simp)]
  · rw [Nat.min_eq_right (by omega)]
    rw [List.drop_of_length_le (Nat.le_refl _), List.drop_of_length_le (by omega)]
    simp
/-! o[i] = v -/
def putL (o : Option D) (n : Nat) (k : Int) (v : D) (S : List D) : Option (List D) := match o with
  | some (.lst xs) => (ixOf xs.length k).map fun j => S.set n (.lst (xs.set j v))
  | some (.dct ks ds) => if ks.length < SL then some (S.set n (putAt.putK ks ds (.inl k) v)) else none
  | _ => none
@[simp] theorem put_loc (n : Nat) (k : Int) (v : D) : putAt (.loc n) (.int k) v S = putL S[n]? n k v S := by
  unfold putAt putL keyOf
  simp only
  cases h : S[n]? with
  | none => rfl
  | some w =>
    cases w with
    | lst xs =>
      simp only
      cases ixOf xs.length k <;> rfl
    | _ => rfl
@[simp] theorem putL_l (n : Nat) (k : Int) (v : D) : putL (some (.lst xs)) n k v S = (ixOf xs.length k).map fun j => S.set n (.lst (xs.set j v)) := id rfl
def kP (E : Env) (o : Option (List D)) : O := match o with
  | some S => .nx E S
  | none => .bad
@[simp] theorem kP_s : kP E (some S) = .nx E S := id rfl
@[simp] theorem kput2' {v k : D} : kPut2 x v E k S = kP E (putAt x k v S) := by
  unfold kPut2 kP
  cases putAt x k v S <;> rfl
@[simp] theorem toO_bad (k : D → List D → O) : (R.bad : R D).toO E k = .bad := id rfl
@[simp] theorem tO_bad (k : Bool → List D → O) : (R.bad : R Bool).tO E k = .bad := id rfl
@[simp] theorem wipe_nil : wipeE E [] = E := id rfl
@[simp] theorem wipe_cons (v : Nat) (vs : List Nat) : wipeE E (v :: vs) = (wipeE E vs).set v none := id rfl
/-! defs and calls -/
def kFn (n : Nat) : O → R D
  | .nx _ S1 => retF n .non S1
  | .rt d S1 => retF n d S1
  | .exc c fs _ S1 => excF n c fs S1
  | _ => .bad
theorem fn_ev (np nn : Nat) (b : MS) (h : ds.length = np) : fnF np nn b ds S = kFn S.length (b (ds.map some ++ List.replicate (nn - np) none) S) := by
  unfold fnF
  rw [if_pos h]
  cases b (ds.map some ++ List.replicate (nn - np) none) S <;> rfl
@[simp] theorem kfn_nx (n : Nat) : kFn n (.nx E S) = retF n .non S := id rfl
@[simp] theorem kfn_rt (n : Nat) : kFn n (.rt d S) = retF n d S := id rfl
theorem retF_flat (n : Nat) (h1 : n ≤ S.length) (h2 : (S.take n).all D.flat = true) (h3 : d.flat = true) : retF n d S = .ok d (S.take n) := by
  unfold retF
  rw [if_pos ⟨h1, h2⟩]
  simp [fz, h3]
@[simp] theorem retF_0 (h3 : d.flat = true) : retF 0 d S = .ok d [] := by
  rw [retF_flat 0 (Nat.zero_le _) rfl h3]
  rfl
@[simp] theorem retF_1 {s : D} (h3 : d.flat = true) (hs : s.flat = true) : retF 1 d (s :: S) = .ok d [s] := by
  rw [retF_flat 1 (by simp) (by simp [hs]) h3]
  rfl
theorem byRef_flat : ∀ (xs : List D) (k : Nat), D.flats xs = true → byRef xs k = some (xs, [])
  | [], _, _ => rfl
  | d :: r, k, h => by
    simp only [D.flats, Bool.and_eq_true] at h
    cases d with
    | loc n => simp [D.flat] at h
    | _ =>
      unfold byRef
      rw [if_pos h.1, byRef_flat r k h.2]
      rfl
def kC0 (S : List D) (r : R D) : R D := match r with
  | .ok d S' => if d.flat = true ∧ S'.length = 0 ∧ S'.all D.flat = true then .ok d S else .bad
  | .exc c fs S' => if S'.length = 0 ∧ S'.all D.flat = true ∧ fs.all (fun p => p.2.flat) = true then .exc c fs S else .bad
  | .bad => .bad
@[simp] theorem kc0 (h : d.flat = true) : kC0 S (.ok d []) = .ok d S := by simp [kC0, h]
theorem call0 (F : MF) (h : D.flats xs = true) : callF F xs S = kC0 S (F xs []) := by
  unfold callF kC0
  rw [byRef_flat xs 0 h]
  simp
  cases F xs [] with
  | ok d S' =>
    simp only
    by_cases hc : d.flat = true ∧ S' = [] ∧ ∀ x ∈ S', D.flat x = true
    · rw [if_pos hc]; simp [hc, setAll]
    · rw [if_neg hc]; simp at hc ⊢; intro a b; exact absurd (hc a b) (by subst b; simp)
  | exc c fs S' => 
    simp only
    cases S' <;> simp [setAll]
  | bad => rfl
def kC1 (n : Nat) (S : List D) (r : R D) : R D := match r with
  | .ok d S' => if d.flat = true ∧ S'.length = 1 ∧ S'.all D.flat = true then .ok d (setAll S [n] S') else .bad
  | .exc c fs S' => if S'.length = 1 ∧ S'.all D.flat = true ∧ fs.all (fun p => p.2.flat) = true then .exc c fs (setAll S [n] S') else .bad
  | .bad => .bad
@[simp] theorem kc1 {s : D} {n : Nat} (h : d.flat = true) (hs : s.flat = true) : kC1 n S (.ok d [s]) = .ok d (S.set n s) := by simp [kC1, h, hs, setAll]
theorem call1 (F : MF) {s : D} {n : Nat} (hS : S[n]? = some s) (hs : s.flat = true) (h : D.flats xs = true) : callF F (.loc n :: xs) S = kC1 n S (F (.loc 0 :: xs) [s]) := by
  have hb : byRef (.loc n :: xs) 0 = some (.loc 0 :: xs, [n]) := by
    unfold byRef
    rw [byRef_flat xs _ h]
    rfl
  unfold callF kC1
  rw [hb]
  simp only [List.mapM_cons, List.mapM_nil, hS]
  simp [hs]
  all_goals (cases F (.loc 0 :: xs) [s] <;> rfl)
@[simp] theorem call1' (F : MF) {s : D} (hs : s.flat = true) (h : D.flats xs = true) : callF F (.loc 0 :: xs) (s :: S) = kC1 0 (s :: S) (F (.loc 0 :: xs) [s]) := call1 F rfl hs h
@[simp] theorem callI (F : MF) (i : Int) (h : D.flats xs = true) : callF F (.int i :: xs) S = kC0 S (F (.int i :: xs) []) := call0 F (by simp [D.flats, D.flat, h])
@[simp] theorem callB (F : MF) (i : Bool) (h : D.flats xs = true) : callF F (.bl i :: xs) S = kC0 S (F (.bl i :: xs) []) := call0 F (by simp [D.flats, D.flat, h])
@[simp] theorem callT (F : MF) (h2 : D.flats ds = true) (h : D.flats xs = true) : callF F (.tup ds :: xs) S = kC0 S (F (.tup ds :: xs) []) := call0 F (by simp [D.flats, D.flat, h, h2])
@[simp] theorem callL (F : MF) (h2 : D.flats ds = true) (h : D.flats xs = true) : callF F (.lst ds :: xs) S = kC0 S (F (.lst ds :: xs) []) := call0 F (by simp [D.flats, D.flat, h, h2])
@[simp] theorem isNon_non : D.isNon .non = true := id rfl
@[simp] theorem isNon_int (i : Int) : D.isNon (.int i) = false := id rfl
@[simp] theorem isNon_tup (ds : List D) : D.isNon (.tup ds) = false := id rfl
@[simp] theorem isNon_lst (ds : List D) : D.isNon (.lst ds) = false := id rfl
@[simp] theorem fl_non : D.flat .non = true := id rfl
@[simp] theorem fl_bl (b : Bool) : D.flat (.bl b) = true := id rfl
@[simp] theorem fl_int (i : Int) : D.flat (.int i) = true := id rfl
@[simp] theorem fl_str (i : Str) : D.flat (.str i) = true := id rfl
@[simp] theorem fl_ty (i : String) : D.flat (.ty i) = true := id rfl
@[simp] theorem fl_tup (ds : List D) : D.flat (.tup ds) = D.flats ds := id rfl
@[simp] theorem fl_lst (ds : List D) : D.flat (.lst ds) = D.flats ds := id rfl
@[simp] theorem fl_rdl (ds : List D) : D.flat (.rdl ds) = D.flats ds := id rfl
@[simp] theorem fl_dct (ks : List Ky) (ds : List D) : D.flat (.dct ks ds) = D.flats ds := id rfl
@[simp] theorem fl_loc (n : Nat) : D.flat (.loc n) = false := id rfl
@[simp] theorem fls_nil : D.flats [] = true := id rfl
@[simp] theorem fls_cons (d : D) (ds : List D) : D.flats (d :: ds) = (d.flat && D.flats ds) := id rfl
@[simp] theorem flats_app : ∀ xs ys : List D, D.flats (xs ++ ys) = (D.flats xs && D.flats ys)
  | [], ys => by simp
  | x :: xs, ys => by simp [flats_app xs ys, Bool.and_assoc]
theorem flats_map {α : Type} (e : α → D) (h : ∀ a, (e a).flat = true) : ∀ xs : List α, D.flats (xs.map e) = true
  | [] => rfl
  | x :: xs => by simp [h, flats_map e h xs]
@[simp] theorem flats_ints (ns : List Int) : D.flats (ns.map D.int) = true := flats_map _ (fun _ => rfl) ns
/-! no steps within what stands behind -/
end J
set_option linter.all false
set_option maxRecDepth 100000
/-! Loops, comprehensions: by what is gone over. -/
namespace J
open PySem (Str)
variable {E : Env} {S : List D} {d x y z : D} {ds xs : List D}
structure Src.Is (src : Src) (S : List D) (ds : List D) : Prop where
  len : src.len = ds.length
  at_ : ∀ i, i < ds.length → src.at_ S i = ds[i]?
  alive : src.alive S = true
theorem is_its (ds S : List D) : (Src.its ds).Is S ds := ⟨rfl, fun _ _ => rfl, rfl⟩
theorem is_rng (lo : Int) (n : Nat) (S : List D) : (Src.rng lo n).Is S ((List.range n).map fun i => .int (lo + (i : Nat))) := ⟨by simp [Src.rng], fun i h => by simp at h; simp [Src.rng, h], rfl⟩
/-! steps to a loop -/
@[simp] theorem src_tup : srcOf S (.tup ds) = some (.its ds) := id rfl
@[simp] theorem src_lst : srcOf S (.lst ds) = some (.its ds) := id rfl
@[simp] theorem src_rdl : srcOf S (.rdl ds) = some (.its ds) := id rfl
def kSrc (o : Option Src) (S : List D) : R Src := match o with
  | some s => .ok s S
  | none => .bad
@[simp] theorem kSrc_s (s : Src) : kSrc (some s) S = .ok s S := id rfl
def kSeqI (x : D) (S : List D) : R Src := kSrc (srcOf S x) S
@[simp] theorem ev_iseq (a : ME) : iSeq a E S = (a E S).bind kSeqI := by
  unfold iSeq kSeqI kSrc
  cases a E S <;> rfl
@[simp] theorem kseqi : kSeqI x S = kSrc (srcOf S x) S := id rfl
def kEnum1 (o : Option Src) (S : List D) : R Src := match o with
  | some s => .ok s.enum S
  | none => .bad
@[simp] theorem kEnum_s (s : Src) : kEnum1 (some s) S = .ok s.enum S := id rfl
def kEnum (x : D) (S : List D) : R Src := kEnum1 (srcOf S x) S
@[simp] theorem ev_ienum (a : ME) : iEnum a E S = (a E S).bind kEnum := by
  unfold iEnum kEnum kEnum1
  cases a E S <;> rfl
@[simp] theorem kenum : kEnum x S = kEnum1 (srcOf S x) S := id rfl
def kZip2 (x y : D) (S : List D) : R Src := match srcOf S x, srcOf S y with
  | some s, some t => .ok (s.zip t) S
  | _, _ => .bad
def kZip1 (b : ME) (E : Env) (x : D) (S : List D) : R Src := (b E S).bind (kZip2 x)
@[simp] theorem ev_izip (a b : ME) : iZip a b E S = (a E S).bind (kZip1 b E) := id rfl
@[simp] theorem kzip1 (b : ME) : kZip1 b E x S = (b E S).bind (kZip2 x) := id rfl
@[simp] theorem kzip2 : kZip2 (.tup ds) (.tup xs) S = .ok ((Src.its ds).zip (.its xs)) S := id rfl
def kRng1 (x : D) (S : List D) : R Src := match x with
  | .int j => if okR j = true then .ok (.rng 0 j.toNat) S else .bad
  | _ => .bad
@[simp] theorem ev_rng1 (a : ME) : iRng1 a E S = (a E S).bind kRng1 := id rfl
theorem krng1 {j : Int} (h : 0 ≤ j) (h2 : j < 4611686018427387904) : kRng1 (.int j) S = .ok (.rng 0 j.toNat) S := by
  have : okR j = true := by simp [okR]; omega
  simp [kRng1, this]
theorem krng1n {j : Nat} (h2 : j < 1000000) : kRng1 (.int (j : Int)) S = .ok (.rng 0 j) S := by
  rw [krng1 (by omega) (by omega)]
  simp
def kRng3 (x y : D) (S : List D) : R Src := match x, y with
  | .int i, .int j => if okR i = true ∧ okR j = true then .ok (.rng i (j - i).toNat) S else .bad
  | _, _ => .bad
def kRng2 (b : ME) (E : Env) (x : D) (S : List D) : R Src := (b E S).bind (kRng3 x)
@[simp] theorem ev_rng2 (a b : ME) : iRng2 a b E S = (a E S).bind (kRng2 b E) := id rfl
@[simp] theorem krng2 (b : ME) : kRng2 b E x S = (b E S).bind (kRng3 x) := id rfl
theorem krng3 {i j : Int} (h : okR i = true) (h2 : okR j = true) : kRng3 (.int i) (.int j) S = .ok (.rng i (j - i).toNat) S := by simp [kRng3, h, h2]
def kFor (t : Tg) (b : MS) (E : Env) : R Src → O
  | .ok src S1 => forGo src t b S1.length src.len 0 E S1
  | .exc c fs S1 => .exc c fs E S1
  | .bad => .bad
@[simp] theorem ev_for (t : Tg) (m : MI) (b : MS) : sFor t m b E S = kFor t b E (m E S) := by
  unfold sFor kFor
  cases m E S <;> rfl
def forS (src : Src) (t : Tg) (b : MS) (E : Env) (S : List D) : O := forGo src t b S.length src.len 0 E S
@[simp] theorem kfor (t : Tg) (b : MS) (src : Src) : kFor t b E (.ok src S) = forS src t b E S := id rfl
def Turn (t : Tg) (b : MS) (n : Nat) (d : D) (E : Env) (S : List D) (Q : Env → List D → Prop) : Prop :=
  ∃ E1 E2 S2 E3 S3, t.bind d E = some E1 ∧ (b E1 S = .nx E2 S2 ∨ b E1 S = .ct E2 S2) ∧ gcE n E2 S2 = some (E3, S3) ∧ Q E3 S3
theorem forGo_inv {src : Src} {t : Tg} {b : MS} {n : Nat} (ds : List D) (I : Nat → Env → List D → Prop)
    (hi : ∀ i E S, I i E S → src.Is S ds)
    (hs : ∀ i d E S, I i E S → ds[i]? = some d → Turn t b n d E S (I (i + 1))) :
    ∀ (k i : Nat) (E : Env) (S : List D), i + k = ds.length → I i E S → ∃ E' S', forGo src t b n k i E S = .nx E' S' ∧ I ds.length E' S' := by
  intro k
  induction k with
  | zero =>
    intro i E S hk h
    have hik : i = ds.length := by omega
    subst hik
    refine ⟨E, S, ?_, h⟩
    unfold forGo
    rw [if_pos (hi _ _ _ h).alive]
  | succ k ih =>
    intro i E S hk h
    have hlt : i < ds.length := by omega
    obtain ⟨E1, E2, S2, E3, S3, h1, h2, h3, h4⟩ := hs i ds[i] E S h (by simp [hlt])
    obtain ⟨E', S', h5, h6⟩ := ih (i + 1) E3 S3 (by omega) h4
    refine ⟨E', S', ?_, h6⟩
    unfold forGo
    rw [if_pos (hi _ _ _ h).alive, (hi _ _ _ h).at_ i hlt]
    simp only [hlt, List.getElem?_eq_getElem, h1]
    rcases h2 with h2 | h2 <;> simp only [h2, h3, h5]
theorem for_inv {src : Src} {t : Tg} {b : MS} {E : Env} {S : List D} (ds : List D) (I : Nat → Env → List D → Prop)
    (h0 : I 0 E S) (hi : ∀ i E S, I i E S → src.Is S ds)
    (hs : ∀ i d E S' , I i E S' → ds[i]? = some d → Turn t b S.length d E S' (I (i + 1))) :
    ∃ E' S', forS src t b E S = .nx E' S' ∧ I ds.length E' S' := by
  unfold forS
  rw [(hi 0 E S h0).len]
  exact forGo_inv ds I hi hs ds.length 0 E S (by omega) h0
def TurnR (t : Tg) (b : MS) (n : Nat) (d : D) (E : Env) (S : List D) (Q : Env → List D → Prop) (Rq : D → List D → Prop) : Prop :=
  Turn t b n d E S Q ∨ ∃ E1 v S2, t.bind d E = some E1 ∧ b E1 S = .rt v S2 ∧ Rq v S2
theorem for_rng {lo : Int} {n : Nat} {t : Tg} {b : MS} {E : Env} {S : List D} (I : Nat → Env → List D → Prop) (h0 : I 0 E S)
    (hs : ∀ i E S', i < n → I i E S' → Turn t b S.length (.int (lo + (i : Nat))) E S' (I (i + 1))) : ∃ E' S', forS (Src.rng lo n) t b E S = .nx E' S' ∧ I n E' S' := by
  obtain ⟨E', S', h1, h2⟩ := for_inv ((List.range n).map fun i => D.int (lo + (i : Nat))) I h0 (fun _ _ S _ => is_rng lo n S) (fun i d E S' h hd => by
    obtain ⟨hi, rfl⟩ := List.getElem?_eq_some_iff.mp hd
    simp only [List.getElem_map, List.getElem_range]
    exact hs i E S' (by simpa using hi) h)
  exact ⟨E', S', h1, by simpa using h2⟩
theorem for_its {α : Type} (xs : List α) (enc : α → D) {t : Tg} {b : MS} {E : Env} {S : List D} (I : Nat → Env → List D → Prop) (h0 : I 0 E S)
    (hs : ∀ i E S' (h : i < xs.length), I i E S' → Turn t b S.length (enc xs[i]) E S' (I (i + 1))) : ∃ E' S', forS (Src.its (xs.map enc)) t b E S = .nx E' S' ∧ I xs.length E' S' := by
  obtain ⟨E', S', h1, h2⟩ := for_inv (xs.map enc) I h0 (fun _ _ S _ => is_its _ S) (fun i d E S' h hd => by
    obtain ⟨hi, rfl⟩ := List.getElem?_eq_some_iff.mp hd
    simp only [List.getElem_map]
    exact hs i E S' (by simpa using hi) h)
  exact ⟨E', S', h1, by simpa using h2⟩
/-! a turn at which nothing new is left -/
theorem gc_same {n : Nat} (h : S.length = n) : gcE n E S = some (E, S) := by
  unfold gcE
  rw [if_pos h]
theorem turn_nx {t : Tg} {b : MS} {n : Nat} {E1 E2 : Env} {S2 : List D} {Q : Env → List D → Prop} (h1 : t.bind d E = some E1) (h2 : b E1 S = .nx E2 S2) (h3 : S2.length = n) (h4 : Q E2 S2) : Turn t b n d E S Q :=
  ⟨E1, E2, S2, E2, S2, h1, .inl h2, gc_same h3, h4⟩
/-! comprehensions -/
def kLc (w : Bool) (own : List Nat) (t : Tg) (c : MT) (e : ME) (E : Env) : R Src → R D
  | .ok src S1 => if src.len ≤ SL then (lcGo src t c e (wipeE E own) S1.length src.len 0 [] S1).bind fun acc S1 => if w = true then .ok (.loc S1.length) (S1 ++ [.lst acc]) else .ok (.lst acc) S1 else .bad
  | .exc c fs S1 => .exc c fs S1
  | .bad => .bad
def lcS (w : Bool) (src : Src) (own : List Nat) (t : Tg) (c : MT) (e : ME) (E : Env) (S : List D) : R D := kLc w own t c e E (.ok src S)
@[simp] theorem klc (w : Bool) (src : Src) (own : List Nat) (t : Tg) (c : MT) (e : ME) : kLc w own t c e E (.ok src S) = lcS w src own t c e E S := id rfl
@[simp] theorem ev_lc (own : List Nat) (t : Tg) (m : MI) (c : MT) (e : ME) : eLc own t m c e E S = kLc false own t c e E (m E S) := by
  unfold eLc kLc lcRun
  cases m E S with
  | ok src S1 =>
    simp only
    by_cases h : src.len ≤ SL
    · rw [if_pos h, if_pos h]; rfl
    · rw [if_neg h, if_neg h]; rfl
  | exc c fs S1 => rfl
  | bad => rfl
@[simp] theorem ev_lcL (own : List Nat) (t : Tg) (m : MI) (c : MT) (e : ME) : eLcL own t m c e E S = kLc true own t c e E (m E S) := by
  unfold eLcL kLc lcRun
  cases m E S with
  | ok src S1 =>
    simp only
    by_cases h : src.len ≤ SL
    · rw [if_pos h, if_pos h]; rfl
    · rw [if_neg h, if_neg h]; rfl
  | exc c fs S1 => rfl
  | bad => rfl
theorem lcGo_invN {src : Src} {t : Tg} {c : MT} {e : ME} {n : Nat} (ds : List D) (I : Nat → List D → List D → Prop)
    (hi : ∀ i acc S, I i acc S → src.Is S ds)
    (hs : ∀ i d acc S, I i acc S → ds[i]? = some d → ∃ E1, t.bind d E = some E1 ∧ ((∃ S1, c E1 S = .ok false S1 ∧ n ≤ S1.length ∧ I (i + 1) acc S1) ∨ ∃ S1 x S2, c E1 S = .ok true S1 ∧ e E1 S1 = .ok x S2 ∧ n ≤ S2.length ∧ I (i + 1) (acc ++ [x]) S2)) :
    ∀ (k i : Nat) (acc : List D) (S : List D), i + k = ds.length → I i acc S → ∃ acc' S', lcGo src t c e E n k i acc S = .ok acc' S' ∧ I ds.length acc' S' := by
  intro k
  induction k with
  | zero =>
    intro i acc S hk h
    have hik : i = ds.length := by omega
    subst hik
    refine ⟨acc, S, ?_, h⟩
    unfold lcGo
    rw [if_pos (hi _ _ _ h).alive]
  | succ k ih =>
    intro i acc S hk h
    have hlt : i < ds.length := by omega
    obtain ⟨E1, h1, h2⟩ := hs i ds[i] acc S h (by simp [hlt])
    unfold lcGo
    rw [if_pos (hi _ _ _ h).alive, (hi _ _ _ h).at_ i hlt]
    simp only [hlt, List.getElem?_eq_getElem, h1]
    rcases h2 with ⟨S1, h2, h3, h4⟩ | ⟨S1, x, S2, h2, h3, h4, h5⟩
    · simp only [h2, if_pos h3]
      exact ih (i + 1) acc S1 (by omega) h4
    · simp only [h2, h3, if_pos h4]
      exact ih (i + 1) (acc ++ [x]) S2 (by omega) h5
theorem lcGo_inv {src : Src} {t : Tg} {c : MT} {e : ME} {n : Nat} (ds : List D) (I : Nat → List D → List D → Prop)
    (hi : ∀ i acc S, I i acc S → src.Is S ds)
    (hs : ∀ i d acc S, I i acc S → ds[i]? = some d → ∃ E1, t.bind d E = some E1 ∧ ((∃ S1, c E1 S = .ok false S1 ∧ S1.length = n ∧ I (i + 1) acc S1) ∨ ∃ S1 x S2, c E1 S = .ok true S1 ∧ e E1 S1 = .ok x S2 ∧ S2.length = n ∧ I (i + 1) (acc ++ [x]) S2)) :
    ∀ (k i : Nat) (acc : List D) (S : List D), i + k = ds.length → I i acc S → ∃ acc' S', lcGo src t c e E n k i acc S = .ok acc' S' ∧ I ds.length acc' S' :=
  lcGo_invN ds I hi fun i d acc S h e => by
    obtain ⟨E1, h1, h2⟩ := hs i d acc S h e
    refine ⟨E1, h1, h2.imp (fun ⟨S1, a, b, c⟩ => ⟨S1, a, Nat.le_of_eq b.symm, c⟩) fun ⟨S1, x, S2, a, b, c, d⟩ => ⟨S1, x, S2, a, b, Nat.le_of_eq c.symm, d⟩⟩
theorem lc_inv {src : Src} {own : List Nat} {t : Tg} {c : MT} {e : ME} (ds : List D) (I : Nat → List D → List D → Prop) (hl : ds.length ≤ SL) (h0 : I 0 [] S)
    (hi : ∀ i acc S, I i acc S → src.Is S ds)
    (hs : ∀ i d acc S', I i acc S' → ds[i]? = some d → ∃ E1, t.bind d (wipeE E own) = some E1 ∧ ((∃ S1, c E1 S' = .ok false S1 ∧ S1.length = S.length ∧ I (i + 1) acc S1) ∨ ∃ S1 x S2, c E1 S' = .ok true S1 ∧ e E1 S1 = .ok x S2 ∧ S2.length = S.length ∧ I (i + 1) (acc ++ [x]) S2)) :
    ∃ acc S', lcS false src own t c e E S = .ok (.lst acc) S' ∧ I ds.length acc S' := by
  obtain ⟨acc, S', h1, h2⟩ := lcGo_inv ds I hi hs ds.length 0 [] S (by omega) h0
  refine ⟨acc, S', ?_, h2⟩
  unfold lcS kLc
  simp only [(hi _ _ _ h0).len, if_pos hl, h1]
  rfl
theorem lcGo_eq {α : Type} {src : Src} {t : Tg} {c : MT} {e : ME} (xs : List α) (enc : α → D) (p : α → Bool) (f : α → D) (hi : src.Is S (xs.map enc))
    (hs : ∀ a, a ∈ xs → ∃ E1, t.bind (enc a) E = some E1 ∧ c E1 S = .ok (p a) S ∧ (p a = true → e E1 S = .ok (f a) S)) :
    ∀ (k i : Nat) (acc : List D), i + k = xs.length → lcGo src t c e E S.length k i acc S = .ok (acc ++ ((xs.drop i).filter p).map f) S := by
  intro k
  induction k with
  | zero =>
    intro i acc hk
    unfold lcGo
    rw [if_pos hi.alive, List.drop_of_length_le (by omega)]
    simp
  | succ k ih =>
    intro i acc hk
    have hlt : i < xs.length := by omega
    obtain ⟨E1, h1, h2, h3⟩ := hs xs[i] (List.getElem_mem hlt)
    unfold lcGo
    rw [if_pos hi.alive, hi.at_ i (by simpa using hlt)]
    simp only [List.getElem?_map, hlt, List.getElem?_eq_getElem, Option.map_some, h1, h2]
    rw [List.drop_eq_getElem_cons hlt]
    cases hp : p xs[i] with
    | true =>
      simp only [if_true, h3 hp, ih (i + 1) _ (by omega)]
      rw [if_pos (Nat.le_refl _), List.filter_cons_of_pos hp, List.map_cons, List.append_assoc]
      rfl
    | false =>
      simp only [ih (i + 1) _ (by omega)]
      rw [if_neg Bool.false_ne_true, if_pos (Nat.le_refl _), List.filter_cons_of_neg (by simp [hp])]
theorem lc_eq {α : Type} {w : Bool} {src : Src} {own : List Nat} {t : Tg} {c : MT} {e : ME} (xs : List α) (enc : α → D) (p : α → Bool) (f : α → D) (hl : xs.length ≤ SL) (hi : src.Is S (xs.map enc))
    (hs : ∀ a, a ∈ xs → ∃ E1, t.bind (enc a) (wipeE E own) = some E1 ∧ c E1 S = .ok (p a) S ∧ (p a = true → e E1 S = .ok (f a) S)) :
    lcS w src own t c e E S = if w = true then .ok (.loc S.length) (S ++ [.lst ((xs.filter p).map f)]) else .ok (.lst ((xs.filter p).map f)) S := by
  unfold lcS kLc
  have hn : src.len = xs.length := by rw [hi.len]; simp
  simp only [hn, if_pos hl]
  rw [lcGo_eq xs enc p f hi hs xs.length 0 [] (by omega)]
  simp
/-! while -/
def kWh (t : MT) (b : MS) (n k : Nat) : O → O
  | .nx E2 S2 => match gcE n E2 S2 with
    | some (E3, S3) => whileGo t b n k E3 S3
    | none => .bad
  | .ct E2 S2 => match gcE n E2 S2 with
    | some (E3, S3) => whileGo t b n k E3 S3
    | none => .bad
  | .bk E2 S2 => .nx E2 S2
  | o => o
def whS (fuel : Nat) (t : MT) (b : MS) (E : Env) (S : List D) : O := whileGo t b S.length fuel E S
@[simp] theorem ev_while (fuel : Nat) (t : MT) (b : MS) : sWhile fuel t b E S = whS fuel t b E S := id rfl
end J
set_option linter.all false
set_option maxRecDepth 100000
namespace J
@[simp] theorem b_max2 (i j : Int) (S : List D) : bMax2 [.int i, .int j] S = .ok (.int (if j > i then j else i)) S := id rfl
@[simp] theorem b_min2 (i j : Int) (S : List D) : bMin2 [.int i, .int j] S = .ok (.int (if j < i then j else i)) S := id rfl
@[simp] theorem b_max3 (i j k : Int) (S : List D) : bMax3 [.int i, .int j, .int k] S = .ok (.int (if k > (if j > i then j else i) then k else (if j > i then j else i))) S := id rfl
def popL (o : Option D) (n : Nat) (S : List D) : R D := match o with
  | some (.lst xs) => match xs[xs.length - 1]? with
    | some y => .ok y (S.set n (.lst xs.dropLast))
    | none => .bad
  | _ => .bad
@[simp] theorem m_pop (n : Nat) (S : List D) : mPop (.loc n) [] S = popL S[n]? n S := by
  unfold popL
  cases h : S[n]? with
  | none => simp only [mPop, h]
  | some d => cases d <;> (simp only [mPop, h]; try rfl)
@[simp] theorem popL_l (n : Nat) (xs : List D) (y : D) (S : List D) : popL (some (.lst (xs ++ [y]))) n S = .ok y (S.set n (.lst xs)) := by simp [popL]
def kLstRg (x : D) (S1 : List D) : R D := match x with
  | .int n => if 0 ≤ n ∧ n ≤ SL then .ok (.loc S1.length) (S1 ++ [.lst ((List.range n.toNat).map fun i : Nat => .int (i : Int))]) else .bad
  | _ => .bad
@[simp] theorem ev_lstRgL (a : ME) (E : Env) (S : List D) : eLstRgL a E S = (a E S).bind kLstRg := id rfl
@[simp] theorem b_listT (xs S : List D) : bList [.tup xs] S = .ok (.lst xs) S := id rfl
@[simp] theorem b_listLs (xs S : List D) : bList [.lst xs] S = .ok (.lst xs) S := id rfl
theorem call2 (F : MF) {x s : D} {n : Nat} {xs S : List D} (hx : x.flat = true) (hS : S[n]? = some s) (hs : s.flat = true) (h : D.flats xs = true) : callF F (x :: .loc n :: xs) S = kC1 n S (F (x :: .loc 0 :: xs) [s]) := by
  have hb : byRef (x :: .loc n :: xs) 0 = some (x :: .loc 0 :: xs, [n]) := by
    have h1 : byRef (.loc n :: xs) 0 = some (.loc 0 :: xs, [n]) := by
      unfold byRef
      rw [byRef_flat xs _ h]
      simp
    cases x with
    | loc m => simp [D.flat] at hx
    | _ =>
      unfold byRef
      simp only
      rw [if_pos hx, h1]
      rfl
  unfold callF kC1
  rw [hb]
  simp [hS, hs]
  all_goals rfl
end J
set_option linter.all false
set_option maxRecDepth 100000
namespace J
open PySem (Str)
variable {E : Env} {S : List D} {d x y z : D} {ds xs : List D}
@[simp] theorem fl_tuk (ds : List D) : D.flat (.tuk ds) = D.flats ds := id rfl
@[simp] theorem src_tuk : srcOf S (.tuk ds) = some (.its ds) := id rfl
@[simp] theorem toO_exc (c : Str) (fs : List (Str × D)) (S : List D) (k : D → List D → O) : (R.exc c fs S : R D).toO E k = .exc c fs E S := id rfl
@[simp] theorem tO_exc (c : Str) (fs : List (Str × D)) (S : List D) (k : Bool → List D → O) : (R.exc c fs S : R Bool).tO E k = .exc c fs E S := id rfl
@[simp] theorem kfn_exc (n : Nat) (c : Str) (fs : List (Str × D)) : kFn n (.exc c fs E S) = excF n c fs S := id rfl
@[simp] theorem excF_0 (c : Str) : excF 0 c [] S = .exc c [] [] := by simp [excF]
@[simp] theorem kc0_exc (c : Str) : kC0 S (.exc c [] []) = .exc c [] S := by simp [kC0]
@[simp] theorem ev_raise (c : Str) : sRaise c E S = .exc c [] E S := id rfl
def kTryIs (kt : Str → Option Bool) (i j : Nat) (u v : D) : O → O
  | .exc c fs E1 S1 => if (fs.isEmpty && decide (i < E1.length)) = true then (match kt c with
    | some b => .nx ((E1.set j (some (if b = true then u else v))).set i none) S1
    | none => .bad) else .bad
  | o => o
@[simp] theorem ev_tryIs (kt : Str → Option Bool) (i j : Nat) (u v : D) (mb : MS) : sTryIs kt i j u v mb E S = kTryIs kt i j u v (mb E S) := by
  unfold sTryIs kTryIs
  cases mb E S <;> rfl
@[simp] theorem ktry_nx (kt : Str → Option Bool) (i j : Nat) (u v : D) : kTryIs kt i j u v (.nx E S) = .nx E S := id rfl
@[simp] theorem ktry_rt (kt : Str → Option Bool) (i j : Nat) (u v : D) : kTryIs kt i j u v (.rt d S) = .rt d S := id rfl
def kMK1 (f : D → List D → List D → R D) (a : MA) (E : Env) (x : D) (S : List D) : R D := if isTuk x = true then (a E S).bind fun xs S2 => f x xs S2 else .bad
def kMK2 (f : D → List D → List D → R D) (x : D) (xs : List D) (S : List D) : R D := f x xs S
@[simp] theorem ev_methK (f : D → List D → List D → R D) (o : ME) (a : MA) : eMethK f o a E S = (o E S).bind (kMK1 f a E) := id rfl
@[simp] theorem kmk1 (f : D → List D → List D → R D) (a : MA) : kMK1 f a E (.tuk ds) S = (a E S).bind (kMK2 f (.tuk ds)) := id rfl
@[simp] theorem kmk2 (f : D → List D → List D → R D) : kMK2 f x xs S = f x xs S := id rfl
@[simp] theorem tupK1 (a : D) (ds : List D) : bTupK [.loc 1] [a, .lst ds] = .ok (.tuk ds) [a, .lst ds] := rfl
@[simp] theorem isi_tuk : oIsi ["tuple"] (.tuk ds) S = .ok (.bl true) S := by simp [oIsi, tyOf, isiB]
end J
set_option linter.all false
set_option maxRecDepth 100000
/-! laws that ask nothing of the script -/
namespace J
def isRt : O → Bool
  | .rt (.bl true) [] => true
  | _ => false
end J
set_option linter.all false
set_option maxRecDepth 100000
/-! exceptions with a field; a loop that ends in an exception -/
namespace J
open PySem (Str)
variable {E : Env} {S : List D} {d x y z : D} {ds xs : List D}
def kRaiseF (c f : Str) (E : Env) (d : D) (S : List D) : O := match d with
  | .int i => if i.natAbs.log2 < 1920 then .exc c [(f, .int i)] E S else .bad
  | _ => .bad
@[simp] theorem ev_raiseF (c f : Str) (a : ME) : sRaiseF c f a E S = (a E S).toO E (kRaiseF c f E) := id rfl
@[simp] theorem excF_0f (c f : Str) (i : Int) : excF 0 c [(f, .int i)] S = .exc c [(f, .int i)] [] := by simp [excF]
@[simp] theorem kc0_excf (c f : Str) (i : Int) : kC0 S (.exc c [(f, .int i)] []) = .exc c [(f, .int i)] S := by simp [kC0]
def kTryFld (kt : Str → Option Bool) (f : Str) (i j : Nat) (v : D) : O → O
  | .exc c fs E1 S1 => if i < E1.length then (match kt c with
    | some true => (match fs with
      | [(g, d)] => if g = f then .nx ((E1.set j (some d)).set i none) S1 else .bad
      | _ => .bad)
    | some false => .nx ((E1.set j (some v)).set i none) S1
    | none => .bad) else .bad
  | o => o
@[simp] theorem ev_tryFld (kt : Str → Option Bool) (f : Str) (i j : Nat) (v : D) (mb : MS) : sTryFld kt f i j v mb E S = kTryFld kt f i j v (mb E S) := by
  unfold sTryFld kTryFld
  cases mb E S <;> rfl
@[simp] theorem ktryf_nx (kt : Str → Option Bool) (f : Str) (i j : Nat) (v : D) : kTryFld kt f i j v (.nx E S) = .nx E S := id rfl
end J
set_option linter.all false
set_option maxRecDepth 100000
/-! len, in, index of tuples of known make -/
namespace J
open PySem (Str)
variable {E : Env} {S : List D} {d x y z : D} {ds xs : List D}
@[simp] theorem lenK_tuk : bLenK [.tuk ds] S = .ok (.int ds.length) S := id rfl
@[simp] theorem lenK_tup : bLenK [.tup ds] S = .ok (.int ds.length) S := id rfl
@[simp] theorem lenK_lst : bLenK [.lst ds] S = bLen [.lst ds] S := id rfl
@[simp] theorem ev_lstRg (a : ME) : eLstRg a E S = (a E S).bind fun x S1 => match x with
  | .int n => if 0 ≤ n ∧ n ≤ SL then .ok (.lst ((List.range n.toNat).map fun i : Nat => .int (i : Int))) S1 else .bad
  | _ => .bad := id rfl
end J
set_option linter.all false
set_option maxRecDepth 100000
/-! comprehensions with two fors, run: no tests, a store that stays -/
namespace J
variable {E : Env} {S : List D} {d x y z : D} {ds xs : List D}
end J
set_option linter.all false
set_option maxRecDepth 100000
/-! loops that leave objects behind, run -/
namespace J
def forNS (src : Src) (t : Tg) (b : MS) (E : Env) (S : List D) : O := forGoN src t b src.len 0 E S
def kForN (t : Tg) (b : MS) (E : Env) : R Src → O
  | .ok src S1 => forNS src t b E S1
  | .exc c fs S1 => .exc c fs E S1
  | .bad => .bad
@[simp] theorem ev_forN (t : Tg) (m : MI) (b : MS) : sForN t m b E S = kForN t b E (m E S) := by
  unfold sForN kForN
  cases m E S <;> rfl
@[simp] theorem kforN_ok (t : Tg) (b : MS) (src : Src) (S1 : List D) : kForN t b E (.ok src S1) = forNS src t b E S1 := id rfl
end J
set_option linter.all false
set_option maxRecDepth 100000
/-! loops that end in an exception; loops whose new objects stay as they are; dicts with tuple keys as lists -/
namespace J
open PySem (Str)
variable {E : Env} {S : List D} {d x y z : D} {ds xs : List D}
def O.out : O → Bool
  | .rt _ _ => true
  | .exc _ _ _ _ => true
  | _ => false
def TurnO (t : Tg) (b : MS) (n : Nat) (d : D) (E : Env) (S : List D) (Q : Env → List D → Prop) (P : O → Prop) : Prop :=
  Turn t b n d E S Q ∨ ∃ E1, t.bind d E = some E1 ∧ (b E1 S).out = true ∧ P (b E1 S)
/-! new objects that stay -/
def kForF (t : Tg) (b : MS) (E : Env) : R Src → O
  | .ok src S1 => forGoF src t b S1.length src.len 0 E S1
  | .exc c fs S1 => .exc c fs E S1
  | .bad => .bad
@[simp] theorem ev_forF (t : Tg) (m : MI) (b : MS) : sForF t m b E S = kForF t b E (m E S) := by
  unfold sForF kForF
  cases m E S <;> rfl
def forSF (src : Src) (t : Tg) (b : MS) (E : Env) (S : List D) : O := forGoF src t b S.length src.len 0 E S
@[simp] theorem kforF (t : Tg) (b : MS) (src : Src) : kForF t b E (.ok src S) = forSF src t b E S := id rfl
def TurnF (t : Tg) (b : MS) (n : Nat) (d : D) (E : Env) (S : List D) (Q : Env → List D → Prop) : Prop :=
  ∃ E1 E2 S2 E3 S3, t.bind d E = some E1 ∧ (b E1 S = .nx E2 S2 ∨ b E1 S = .ct E2 S2) ∧ gcF n E2 S2 = some (E3, S3) ∧ Q E3 S3
/-! lists of dicts with tuple keys -/
@[simp] theorem ev_sortT (a : ME) : eSortT a E S = (a E S).bind kSortT := id rfl
@[simp] theorem goneF_none {n : Nat} {S : List D} : goneF n S none = none := rfl
end J
namespace J
open PySem (Str)
@[simp] theorem ev_keysT (a : ME) (E : Env) (ks : List (List Ky)) (ds : List D) (S S1 : List D) (h : a E S = .ok (.dcT ks ds) S1) : iKeysT a E S = .ok (Src.its (ks.map tupK)) S1 := by
  unfold iKeysT
  rw [h]
  rfl
def kGcF (n : Nat) : O → O
  | .nx E1 S1 => match gcF n E1 S1 with
    | some (E2, S2) => .nx E2 S2
    | none => .bad
  | o => o
@[simp] theorem ev_gcF (m : MS) (E : Env) (S : List D) : sGcF m E S = kGcF S.length (m E S) := by
  unfold sGcF kGcF
  cases m E S <;> rfl
end J
set_option linter.all false
set_option maxRecDepth 100000
namespace K76
open J
structure Row where
  sc : List Int
  pos : Int
  seed : Int
  rest : Int
def encRow (r : Row) : D := .lst [.rdl (r.sc.map D.int), .int r.pos, .int r.seed, .int r.rest]
@[simp] theorem encRow_flat (r : Row) : (encRow r).flat = true := by simp [encRow]
theorem mulR (i : Int) (S : List D) : oMul (.int i) (.int 48271) S = .ok (.int (i * 48271)) S := o_mul (Or.inr (by decide))
theorem pow18 (S : List D) : oPow (.int 10) (.int 18) S = .ok (.int 1000000000000000000) S := rfl
theorem modM (i : Int) (S : List D) : oMod (.int i) (.int 2147483647) S = .ok (.int (i % 2147483647)) S := o_mod (by decide)
theorem div7 (i : Int) (S : List D) : oDiv (.int i) (.int 7) S = .ok (.int (i / 7)) S := o_div (by decide) (by decide)
set_option maxHeartbeats 1000000 in
theorem taken_ok (r : Row) (many : Int) (hp : 0 ≤ r.pos) (h : 0 < many) (h2 : many < 1073741824) : ∃ v r', F_p_law_taken [.loc 0, .int many] [encRow r] = .ok (.int v) [encRow r'] ∧ 0 ≤ v ∧ v < many ∧ 0 ≤ r'.pos := by
  obtain ⟨sc, pos, seed, rest⟩ := r
  simp only at hp
  have e1 : ∀ (i : Int) (S : List D), oMod (.int i) (.int many) S = .ok (.int (i % many)) S := fun i S => o_mod h
  have e2 : ∀ (i : Int) (S : List D), oDiv (.int i) (.int many) S = .ok (.int (i / many)) S := fun i S => o_div h h2
  have b1 : ∀ i : Int, 0 ≤ i % many ∧ i % many < many := fun i => ⟨Int.emod_nonneg _ (by omega), Int.emod_lt_of_pos _ h⟩
  unfold F_p_law_taken S_p_law_taken
  rw [fn_ev 2 4 _ rfl]
  by_cases hr : 0 < rest
  · refine ⟨rest % many, ⟨sc, pos, seed, rest / many⟩, ?_, (b1 _).1, (b1 _).2, hp⟩
    simp [encRow, hr, e1, e2, ixOf]
  · by_cases hl : (sc.length : Int) < pos + 1
    · refine ⟨(seed * 48271 + 11) % 2147483647 / 7 % many, ⟨sc, pos + 1, (seed * 48271 + 11) % 2147483647, rest⟩, ?_, (b1 _).1, (b1 _).2, by simp only; omega⟩
      simp [encRow, hr, e1, e2, ixOf, hl, mulR, modM, div7]
    · have hi : pos.toNat < sc.length := by omega
      by_cases hb : (1000000000000000000 : Int) ≤ sc[pos.toNat]
      · refine ⟨sc[pos.toNat] % many, ⟨sc, pos + 1, (seed * 48271 + sc[pos.toNat] + 11) % 2147483647, sc[pos.toNat] / many⟩, ?_, (b1 _).1, (b1 _).2, by simp only; omega⟩
        simp [encRow, hr, e1, e2, ixOf, hl, mulR, modM, div7, pow18, at_int hp, hi, hb]
      · refine ⟨sc[pos.toNat] % many, ⟨sc, pos + 1, (seed * 48271 + sc[pos.toNat] + 11) % 2147483647, rest⟩, ?_, (b1 _).1, (b1 _).2, by simp only; omega⟩
        simp [encRow, hr, e1, e2, ixOf, hl, mulR, modM, div7, pow18, at_int hp, hi, hb]
structure Pipe where
  s : Int
  t : Int
  g : Int
  e : Int
  m : Int
def encP (p : Pipe) : D := .tup [.int p.s, .int p.t, .int p.g, .int p.e, .int p.m]
@[simp] theorem fl_encP (p : Pipe) : (encP p).flat = true := id rfl
@[simp] theorem ixP0 (p : Pipe) (S : List D) : oIx (encP p) (.int 0) S = .ok (.int p.s) S := id rfl
@[simp] theorem ixP1 (p : Pipe) (S : List D) : oIx (encP p) (.int 1) S = .ok (.int p.t) S := id rfl
@[simp] theorem ixP2 (p : Pipe) (S : List D) : oIx (encP p) (.int 2) S = .ok (.int p.g) S := id rfl
@[simp] theorem ixP3 (p : Pipe) (S : List D) : oIx (encP p) (.int 3) S = .ok (.int p.e) S := id rfl
@[simp] theorem ixP4 (p : Pipe) (S : List D) : oIx (encP p) (.int 4) S = .ok (.int p.m) S := id rfl
@[simp] theorem bindP (ts : List Tg) (p : Pipe) (E : Env) : (Tg.tp ts).bind (encP p) E = Tg.binds ts [.int p.s, .int p.t, .int p.g, .int p.e, .int p.m] E := id rfl
@[simp] theorem bindPs (us ts : List Tg) (p : Pipe) (xs : List D) (E : Env) : Tg.binds (.tp us :: ts) (encP p :: xs) E = (Tg.binds us [.int p.s, .int p.t, .int p.g, .int p.e, .int p.m] E).bind fun E1 => Tg.binds ts xs E1 := binds_tp us ts
def encF (n : Int) (ps : List Pipe) : D := .tup [.int n, .tup (ps.map encP)]
@[simp] theorem flats_pipes (ps : List Pipe) : D.flats (ps.map encP) = true := flats_map _ fl_encP ps
@[simp] theorem encF_flat (n : Int) (ps : List Pipe) : (encF n ps).flat = true := by simp [encF]
@[simp] theorem callP (F : MF) (p : Pipe) (xs S : List D) (h : D.flats xs = true) : callF F (encP p :: xs) S = kC0 S (F (encP p :: xs) []) := call0 F (by simp [h])
@[simp] theorem call_encF (F : MF) (n : Int) (ps : List Pipe) (xs S : List D) (h : D.flats xs = true) : callF F (encF n ps :: xs) S = kC0 S (F (encF n ps :: xs) []) := call0 F (by simp [h])
structure POk (n r m : Int) (p : Pipe) : Prop where
  s0 : 0 ≤ p.s
  s1 : p.s < n
  t0 : 0 ≤ p.t
  t1 : p.t < n
  g0 : 1 ≤ p.g
  g1 : p.g ≤ r
  e0 : 1 ≤ p.e
  e1 : p.e ≤ r
  m0 : 0 ≤ p.m
  m1 : p.m ≤ m
theorem isi_int (ns : List String) (i : Int) (S : List D) : oIsi ns (.int i) S = .ok (.bl (ns.any (isiB "int"))) S := rfl
theorem isi_tup (ns : List String) (ds : List D) (S : List D) : oIsi ns (.tup ds) S = .ok (.bl (ns.any (isiB "tuple"))) S := rfl
theorem b1 : isiB "int" "bool" = false := by decide
theorem b2 : isiB "int" "int" = true := by decide
theorem b3 : isiB "tuple" "tuple" = true := by decide
theorem iswhole_eq (v : Int) : F_p_is_whole [.int v] [] = .ok (.bl true) [] := by
  unfold F_p_is_whole S_p_is_whole
  rw [fn_ev 1 1 _ rfl]
  simp [isi_int, b1, b2]
theorem isnum_eq (v a b : Int) : F_p_is_number [.int v, .int a, .int b] [] = .ok (.bl (decide (a ≤ v) && decide (v ≤ b))) [] := by
  unfold F_p_is_number S_p_is_number
  rw [fn_ev 3 3 _ rfl]
  simp [iswhole_eq]
  by_cases h : a ≤ v <;> simp [h]
theorem isbox_eq (v n : Int) : F_p_is_box [.int v, .int n] [] = .ok (.bl (decide (0 ≤ v) && decide (v ≤ n - 1))) [] := by
  unfold F_p_is_box S_p_is_box
  rw [fn_ev 2 2 _ rfl]
  simp [isnum_eq]
theorem isrow_eq (ds : List D) (n : Int) (h : D.flats ds = true) : F_p_is_row [.tup ds, .int n] [] = .ok (.bl (decide ((ds.length : Int) = n))) [] := by
  unfold F_p_is_row S_p_is_row
  rw [fn_ev 2 2 _ rfl]
  simp [isi_tup, b3]
structure FOk (n : Int) (ps : List Pipe) : Prop where
  n1 : 1 ≤ n
  n8 : n ≤ 8
  l : ps.length ≤ 16
  ok : ∀ p ∈ ps, POk n 999 99999 p
instance : Inhabited Pipe := ⟨⟨0, 0, 0, 0, 0⟩⟩
def pk (ps : List Pipe) (k : Nat) : Pipe := ps.getD k ⟨0, 0, 0, 0, 0⟩
def ik (xs : List Int) (k : Nat) : Int := xs.getD k 0
def dI (xs : List Int) : List D := xs.map D.int
def dN (ks : List Nat) : List D := ks.map fun k : Nat => D.int (k : Int)
@[simp] theorem flats_dI (ns : List Int) : D.flats (dI ns) = true := flats_ints ns
@[simp] theorem flats_dN (ns : List Nat) : D.flats (dN ns) = true := flats_map _ (fun _ => rfl) ns
@[simp] theorem ixF0 (n : Int) (ps : List Pipe) (S : List D) : oIx (encF n ps) (.int 0) S = .ok (.int n) S := id rfl
@[simp] theorem ixF1 (n : Int) (ps : List Pipe) (S : List D) : oIx (encF n ps) (.int 1) S = .ok (.tup (ps.map encP)) S := id rfl
@[simp] theorem bindF (ts : List Tg) (n : Int) (ps : List Pipe) (E : Env) : (Tg.tp ts).bind (encF n ps) E = Tg.binds ts [.int n, .tup (ps.map encP)] E := id rfl
theorem lc_true {src : Src} {own : List Nat} {t : Tg} {c : MT} {e : ME} {α : Type} {E : Env} {S : List D} (xs : List α) (enc : α → D) (f : α → D) (hl : xs.length ≤ SL) (hi : src.Is S (xs.map enc))
    (hs : ∀ a, a ∈ xs → ∃ E1, t.bind (enc a) (wipeE E own) = some E1 ∧ c E1 S = .ok true S ∧ e E1 S = .ok (f a) S) :
    lcS false src own t c e E S = .ok (.lst (xs.map f)) S := by
  rw [lc_eq xs enc (fun _ => true) f hl hi (fun a ha => by obtain ⟨E1, h1, h2, h3⟩ := hs a ha; exact ⟨E1, h1, h2, fun _ => h3⟩)]
  simp [List.filter_eq_self.mpr]
theorem lc_filt {src : Src} {own : List Nat} {t : Tg} {c : MT} {e : ME} {α : Type} {E : Env} {S : List D} (xs : List α) (enc : α → D) (p : α → Bool) (f : α → D) (hl : xs.length ≤ SL) (hi : src.Is S (xs.map enc))
    (hs : ∀ a, a ∈ xs → ∃ E1, t.bind (enc a) (wipeE E own) = some E1 ∧ c E1 S = .ok (p a) S ∧ (p a = true → e E1 S = .ok (f a) S)) :
    lcS false src own t c e E S = .ok (.lst ((xs.filter p).map f)) S := by
  rw [lc_eq xs enc p f hl hi hs]
  simp
def marksT (ps : List Pipe) : List Int := ps.map (·.m)
def shortT (ps : List Pipe) (held : List Int) (b : Int) : List Nat := (List.range ps.length).filter fun k => decide ((pk ps k).t = b) && decide ((ik held k) < (pk ps k).e)
theorem at_dI {held : List Int} {k : Nat} (h : k < held.length) : (dI held)[k]? = some (.int (ik held k)) := by simp [dI, ik, h]
def nextT (ps : List Pipe) (held : List Int) (b : Int) : List Int := List.zipWith (fun p h => h - (if p.t = b then p.e else 0) + (if p.s = b then p.g else 0)) ps held
theorem nextT_len {ps : List Pipe} {held : List Int} (b : Int) (hl : held.length = ps.length) : (nextT ps held b).length = ps.length := by simp [nextT, hl]
def withT (ps : List Pipe) (held : List Int) : List Pipe := List.zipWith (fun p h => ⟨p.s, p.t, p.g, p.e, h⟩) ps held
@[simp] theorem slP (p : Pipe) (S : List D) : oSl (encP p) none (some 4) S = .ok (.tup [.int p.s, .int p.t, .int p.g, .int p.e]) S := id rfl
def half (new old : List Int) (i : Nat) : List Int := new.take i ++ old.drop i
theorem nextT_at {ps : List Pipe} {held : List Int} {b : Int} {i : Nat} (hl : held.length = ps.length) (hi : i < ps.length) : ik (nextT ps held b) i = ik held i - (if (pk ps i).t = b then (pk ps i).e else 0) + (if (pk ps i).s = b then (pk ps i).g else 0) := by
  have : i < held.length := by omega
  simp [ik, nextT, pk, hi, this, List.getElem?_zipWith]
def canT (ps : List Pipe) (held : List Int) (b : Int) : Bool := (shortT ps held b).isEmpty
@[simp] theorem dN_empty (ks : List Nat) : (dN ks).isEmpty = ks.isEmpty := by cases ks <;> rfl
def fireT (n : Int) (ps : List Pipe) (held : List Int) : List Nat := (List.range n.toNat).filter fun k : Nat => canT ps held k
theorem marks_len (ps : List Pipe) : (marksT ps).length = ps.length := by simp [marksT]
def intoT (ps : List Pipe) (b : Int) : List Nat := (List.range ps.length).filter fun k => decide ((pk ps k).t = b)
def outT (ps : List Pipe) (b : Int) : List Nat := (List.range ps.length).filter fun k => decide ((pk ps k).s = b)
def stT (ps : List Pipe) (held : List Int) (word : List Int) (i : Nat) : List Int := (word.take i).foldl (nextT ps) held
theorem stT_len {ps : List Pipe} {held : List Int} (hl : held.length = ps.length) (word : List Int) (i : Nat) : (stT ps held word i).length = ps.length := by
  unfold stT
  generalize word.take i = w
  induction w generalizing held with
  | nil => exact hl
  | cons b w ih => exact ih (nextT_len b hl)
theorem stT_succ (ps : List Pipe) (held : List Int) {word : List Int} {i : Nat} (h : i < word.length) : stT ps held word (i + 1) = nextT ps (stT ps held word i) word[i] := by
  unfold stT
  rw [← List.take_append_getElem h, List.foldl_append]
  rfl
structure WOk (n : Int) (ps : List Pipe) (held word : List Int) : Prop where
  l : word.length ≤ 2000
  b0 : ∀ b ∈ word, 0 ≤ b ∧ b < n
  can : ∀ i (h : i < word.length), canT ps (stT ps held word i) word[i] = true
def rowsT (ps : List Pipe) (held word : List Int) (i : Nat) : List D := (List.range (i + 1)).map fun j => D.tup (dI (stT ps held word j))
@[simp] theorem flats_rows (ps : List Pipe) (held word : List Int) (i : Nat) : D.flats (rowsT ps held word i) = true := flats_map _ (fun _ => by simp) _
theorem fz_flat0 (n k : Nat) (S : List D) (d : D) (h : d.flat = true) : fz n S (k + 1) d = some d := by
  unfold fz
  rw [if_pos h]
theorem mapM_flat0 (n k : Nat) (S : List D) : ∀ ds : List D, D.flats ds = true → ds.mapM (fz n S (k + 1)) = some ds
  | [], _ => rfl
  | d :: ds, h => by
    simp only [fls_cons, Bool.and_eq_true] at h
    rw [List.mapM_cons, fz_flat0 n k S d h.1, mapM_flat0 n k S ds h.2]
    rfl
theorem retF_loc0 {xs S : List D} (h : D.flats xs = true) (n : Nat) (hS : S[n]? = some (.lst xs)) : retF 0 (.loc n) S = .ok (.lst xs) [] := by
  unfold retF
  rw [if_pos ⟨Nat.zero_le _, rfl⟩]
  have : fz 0 S 8 (.loc n) = some (.lst xs) := by
    rw [fz]
    simp [hS]
    rw [mapM_flat0 0 6 S xs h]
  rw [this]
  rfl
def runT (ps : List Pipe) (word : List Int) : List Int := word.foldl (nextT ps) (marksT ps)
theorem cmpbs_map {α : Type} (e : α → D) (h : ∀ a, (e a).cmpb = true) : ∀ xs : List α, D.cmpbs (xs.map e) = true
  | [] => rfl
  | x :: xs => by
    show ((e x).cmpb && D.cmpbs (xs.map e)) = true
    simp [h, cmpbs_map e h xs]
theorem depths_map {α : Type} (e : α → D) (k : Nat) (h : ∀ a, (e a).depth ≤ k) : ∀ xs : List α, D.depths (xs.map e) ≤ k
  | [] => Nat.zero_le _
  | x :: xs => by
    show max (e x).depth (D.depths (xs.map e)) ≤ k
    have := h x; have := depths_map e k h xs
    omega
theorem cmp_dN (ks : List Nat) : cmpOk (.lst (dN ks)) = true := by
  have h1 : D.cmpb (.lst (dN ks)) = true := cmpbs_map _ (fun _ => rfl) ks
  have h2 : D.depth (.lst (dN ks)) ≤ 1 := by
    have := depths_map (fun k : Nat => D.int (k : Int)) 0 (fun _ => Nat.le_refl _) ks
    show D.depths (dN ks) + 1 ≤ 1
    unfold dN
    omega
  simp [cmpOk, h1]
  omega
theorem eqB_dN (ks : List Nat) : D.eqB (.lst (dN ks)) (.lst []) = ks.isEmpty := by cases ks <;> rfl
@[simp] theorem o_eq0 (ks : List Nat) (S : List D) : oEq (.lst (dN ks)) (.lst []) S = .ok (.bl ks.isEmpty) S := by
  rw [o_eq (x := .lst (dN ks)) (y := .lst []) (cmp_dN ks) (cmp_dN [])]
  simp only [seen, eqB_dN]
@[simp] theorem o_ne0 (ks : List Nat) (S : List D) : oNe (.lst (dN ks)) (.lst []) S = .ok (.bl (!ks.isEmpty)) S := by
  rw [o_ne (x := .lst (dN ks)) (y := .lst []) (cmp_dN ks) (cmp_dN [])]
  simp only [seen, eqB_dN]
def up (ks : List Nat) : List Int := ks.map fun k : Nat => (k : Int)
theorem dN_up (ks : List Nat) : dN ks = dI (up ks) := by simp [dN, dI, up]
theorem inD_dI (v : Int) (xs : List Int) : inD (.int v) (dI xs) = decide (v ∈ xs) := by
  induction xs with
  | nil => rfl
  | cons x xs ih =>
    have e : inD (.int v) (dI (x :: xs)) = ((x == v) || inD (.int v) (dI xs)) := rfl
    rw [e, ih]
    by_cases h : x = v
    · subst h
      rw [decide_eq_true (List.mem_cons_self)]
      rw [beq_self_eq_true, Bool.true_or]
    · have h2 : (v ∈ x :: xs) ↔ v ∈ xs := ⟨fun q => by cases q with | head => exact absurd rfl h | tail _ q => exact q, fun q => List.mem_cons_of_mem _ q⟩
      rw [decide_eq_decide.mpr h2, beq_eq_false_iff_ne.mpr h, Bool.false_or]
theorem all_cmp (xs : List Int) : (dI xs).all cmpOk = true := by
  unfold dI
  rw [List.all_map]
  exact List.all_eq_true.mpr fun x _ => rfl
@[simp] theorem o_in (v : Int) (xs : List Int) (S : List D) : oIn (.int v) (.lst (dI xs)) S = .ok (.bl (decide (v ∈ xs))) S := by
  simp only [oIn, seqOf, seen, all_cmp, cmpOk_int, and_self, if_true, inD_dI]
@[simp] theorem o_inT (v : Int) (xs : List Int) (S : List D) : oIn (.int v) (.tup (dI xs)) S = .ok (.bl (decide (v ∈ xs))) S := by
  simp only [oIn, seqOf, seen, all_cmp, cmpOk_int, and_self, if_true, inD_dI]
@[simp] theorem o_ninT (v : Int) (xs : List Int) (S : List D) : oNin (.int v) (.tup (dI xs)) S = .ok (.bl (!decide (v ∈ xs))) S := by
  simp only [oNin, seqOf, seen, all_cmp, cmpOk_int, and_self, if_true, inD_dI]
theorem o_addLs (xs ys : List D) (S : List D) (h : xs.length + ys.length ≤ SL) : oAdd (.lst xs) (.lst ys) S = .ok (.lst (xs ++ ys)) S := o_addL rfl rfl h
theorem dI_app (xs ys : List Int) : dI xs ++ dI ys = dI (xs ++ ys) := by simp [dI]
theorem intsOf_dI : ∀ xs : List Int, intsOf (dI xs) = some xs
  | [] => rfl
  | x :: xs => by
    show (intsOf (dI xs)).map (x :: ·) = _
    rw [intsOf_dI xs]
    rfl
@[simp] theorem b_sum (xs : List Int) (S : List D) : bSum [.lst (dI xs)] S = .ok (.int xs.sum) S := by
  simp only [bSum, seqOf, intsOf_dI]
abbrev ShL := List (Nat × Nat × Nat)
def kN (k : Nat) : Ky := .inl (k : Int)
def keysD (sh : ShL) : List Ky := sh.map fun x => kN x.1
def valsD (sh : ShL) : List D := sh.map fun x => D.tup [.int (x.2.1 : Nat), .int (x.2.2 : Nat)]
def encSh (sh : ShL) : D := .dct (keysD sh) (valsD sh)
def hasK (sh : ShL) (k : Nat) : Prop := ∃ x ∈ sh, x.1 = k
instance (sh : ShL) (k : Nat) : Decidable (hasK sh k) := inferInstanceAs (Decidable (∃ x ∈ sh, x.1 = k))
def shv (sh : ShL) (k : Nat) : Nat × Nat := match sh with
  | [] => (1, 1)
  | x :: r => if x.1 = k then x.2 else shv r k
structure Sh (n : Nat) (c : Nat → Nat) (x : Nat × Nat × Nat) : Prop where
  k : x.1 < n
  p0 : 1 ≤ x.2.1
  p1 : x.2.1 ≤ 4
  q0 : 1 ≤ x.2.2
  q1 : x.2.2 ≤ 4
  b : ∃ c0, 1 ≤ c0 ∧ c0 ≤ 4 ∧ x.2.1 * c0 = x.2.2 * c x.1
structure BOk (n : Nat) (c : Nat → Nat) (p : Pipe) : Prop where
  ok : POk n 8 6 p
  b : (c p.s.toNat : Int) * p.g = (c p.t.toNat : Int) * p.e
structure Gr (n : Nat) (c : Nat → Nat) (sh sh' : ShL) (m : Nat) : Prop where
  ok : ∀ x ∈ sh', Sh n c x
  keep : ∀ k, hasK sh k → hasK sh' k
  len : sh'.length ≤ sh.length + m
abbrev oD := Option D
theorem takenN (r : Row) (m : Nat) (hp : 0 ≤ r.pos) (h : 0 < m) (h2 : m < 1000000) : ∃ (v : Nat) (r' : Row), F_p_law_taken [.loc 0, .int (m : Nat)] [encRow r] = .ok (.int (v : Nat)) [encRow r'] ∧ v < m ∧ 0 ≤ r'.pos := by
  obtain ⟨v, r', e, h1, h3, h4⟩ := taken_ok r m hp (by omega) (by omega)
  obtain ⟨v, rfl⟩ := Int.eq_ofNat_of_zero_le h1
  exact ⟨v, r', e, by omega, h4⟩
def encPr (x : Nat × Nat) : D := .tup [.int (x.1 : Nat), .int (x.2 : Nat)]
@[simp] theorem fl_encPr (x : Nat × Nat) : (encPr x).flat = true := id rfl
@[simp] theorem flats_prs (xs : List (Nat × Nat)) : D.flats (xs.map encPr) = true := flats_map _ fl_encPr xs
def cN (cs : List Nat) (k : Nat) : Nat := if h : k < cs.length then cs[k] else 1
theorem withT_ok {n r m m' : Int} {ps : List Pipe} {held : List Int} (h : ∀ p ∈ ps, POk n r m p) (hh : ∀ v ∈ held, 0 ≤ v ∧ v ≤ m') : ∀ p ∈ withT ps held, POk n r m' p := by
  intro p hp
  unfold withT at hp
  induction ps generalizing held with
  | nil => simp at hp
  | cons q ps ih =>
    cases held with
    | nil => simp at hp
    | cons v held =>
      rw [List.zipWith_cons_cons] at hp
      rcases List.mem_cons.mp hp with rfl | hp
      · have hq := h q List.mem_cons_self
        have hv := hh v List.mem_cons_self
        exact ⟨hq.s0, hq.s1, hq.t0, hq.t1, hq.g0, hq.g1, hq.e0, hq.e1, hv.1, hv.2⟩
      · exact ih (fun p hp => h p (List.mem_cons_of_mem _ hp)) (fun v hv => hh v (List.mem_cons_of_mem _ hv)) hp
theorem withT_len {ps : List Pipe} {held : List Int} (h : held.length = ps.length) : (withT ps held).length = ps.length := by simp [withT, h]
theorem POk.le {n r m r' m' : Int} {p : Pipe} (h : POk n r m p) (hr : r ≤ r') (hm : m ≤ m') : POk n r' m' p :=
  ⟨h.s0, h.s1, h.t0, h.t1, h.g0, by have := h.g1; omega, h.e0, by have := h.e1; omega, h.m0, by have := h.m1; omega⟩
theorem pk_mem {ps : List Pipe} {k : Nat} (h : k < ps.length) : pk ps k ∈ ps := by
  simp only [pk, List.getD_eq_getElem?_getD, List.getElem?_eq_getElem h, Option.getD_some]
  exact List.getElem_mem h
theorem cmp_dI (xs : List Int) : cmpOk (.lst (dI xs)) = true := by
  have h1 : D.cmpb (.lst (dI xs)) = true := cmpbs_map _ (fun _ => rfl) xs
  have h2 : D.depth (.lst (dI xs)) ≤ 1 := by
    have := depths_map D.int 0 (fun _ => Nat.le_refl _) xs
    show D.depths (dI xs) + 1 ≤ 1
    unfold dI
    omega
  simp [cmpOk, h1]
  omega
@[simp] theorem o_neL (xs ys : List Int) (S : List D) : oNe (.lst (dI xs)) (.lst (dI ys)) S = .ok (.bl (!D.eqB (.lst (dI xs)) (.lst (dI ys)))) S := by
  rw [o_ne (x := .lst (dI xs)) (y := .lst (dI ys)) (cmp_dI xs) (cmp_dI ys)]
  rfl
theorem ik_ok {xs : List Int} {lo hi : Int} (h : ∀ v ∈ xs, lo ≤ v ∧ v ≤ hi) {k : Nat} (hk : k < xs.length) : lo ≤ ik xs k ∧ ik xs k ≤ hi := by
  have : ik xs k = xs[k] := by simp [ik, hk]
  rw [this]
  exact h _ (List.getElem_mem hk)
theorem can_iff {ps : List Pipe} {held : List Int} {b : Int} : canT ps held b = true ↔ ∀ k, k < ps.length → (pk ps k).t = b → (pk ps k).e ≤ ik held k := by
  unfold canT shortT
  rw [List.isEmpty_iff, List.filter_eq_nil_iff]
  constructor
  · intro h k hk ht
    have := h k (List.mem_range.mpr hk)
    simp [ht] at this
    exact this
  · intro h k hk
    have := h k (List.mem_range.mp hk)
    simp
    exact this
theorem ik_mem {xs : List Int} {v : Int} (h : v ∈ xs) : ∃ k, k < xs.length ∧ ik xs k = v := by
  obtain ⟨k, hk, rfl⟩ := List.getElem_of_mem h
  exact ⟨k, hk, by simp [ik, hk]⟩
theorem next_ok {n m : Int} {ps : List Pipe} {held : List Int} {b : Int} (hl : held.length = ps.length) (hp : ∀ p ∈ ps, 0 ≤ p.g ∧ p.g ≤ 8 ∧ 0 ≤ p.e) (hh : ∀ v ∈ held, 0 ≤ v ∧ v ≤ m) (hc : canT ps held b = true) : ∀ v ∈ nextT ps held b, 0 ≤ v ∧ v ≤ m + 8 := by
  intro v hv
  obtain ⟨k, hk, rfl⟩ := ik_mem hv
  rw [nextT_len b hl] at hk
  rw [nextT_at hl hk]
  have h1 := hp _ (pk_mem hk)
  have h2 := ik_ok hh (k := k) (by omega)
  have h3 := can_iff.mp hc k hk
  by_cases c1 : (pk ps k).t = b <;> by_cases c2 : (pk ps k).s = b <;> simp [c1, c2] <;> (try have h4 := h3 c1) <;> omega
theorem eqBs_map {α : Type} (e : α → D) (h : ∀ a, D.eqB (e a) (e a) = true) : ∀ xs : List α, D.eqBs (xs.map e) (xs.map e) = true
  | [] => rfl
  | x :: xs => by
    show ((e x).eqB (e x) && D.eqBs (xs.map e) (xs.map e)) = true
    simp [h, eqBs_map e h xs]
theorem eqB_P (p : Pipe) : D.eqB (encP p) (encP p) = true := by
  simp [encP, D.eqB, D.eqBs]
theorem eqB_F (n : Int) (ps : List Pipe) : D.eqB (encF n ps) (encF n ps) = true := by
  show ((n == n) && (D.eqBs (ps.map encP) (ps.map encP) && true)) = true
  simp [eqBs_map encP eqB_P ps]
theorem cmp_F (n : Int) (ps : List Pipe) : cmpOk (encF n ps) = true := by
  have h1 : D.cmpb (encF n ps) = true := by
    show (true && (D.cmpbs (ps.map encP) && true)) = true
    simp [cmpbs_map encP (fun _ => rfl) ps]
  have h2 : D.depth (encF n ps) ≤ 4 := by
    have := depths_map encP 1 (fun _ => by show max 0 (max 0 (max 0 (max 0 (max 0 0)))) + 1 ≤ 1; simp) ps
    show max 0 (max (D.depths (ps.map encP) + 1) 0) + 1 ≤ 4
    omega
  simp [cmpOk, h1]
  omega
@[simp] theorem o_neF (n : Int) (ps : List Pipe) (S : List D) : oNe (encF n ps) (encF n ps) S = .ok (.bl false) S := by
  rw [o_ne (x := encF n ps) (y := encF n ps) (cmp_F n ps) (cmp_F n ps)]
  show R.ok (D.bl (!D.eqB (encF n ps) (encF n ps))) S = _
  rw [eqB_F]
  rfl
@[simp] theorem o_ne00 (S : List D) : oNe (.lst []) (.lst []) S = .ok (.bl false) S := id rfl
@[simp] theorem o_neB (a b : Bool) (S : List D) : oNe (.bl a) (.bl b) S = .ok (.bl (!(a == b))) S := by cases a <;> cases b <;> rfl
theorem cmp_tN (ks : List Nat) : cmpOk (.tup (dN ks)) = true := by
  have h1 : D.cmpb (.tup (dN ks)) = true := cmpbs_map _ (fun _ => rfl) ks
  have h2 : D.depth (.tup (dN ks)) ≤ 1 := by
    have := depths_map (fun k : Nat => D.int (k : Int)) 0 (fun _ => Nat.le_refl _) ks
    show D.depths (dN ks) + 1 ≤ 1
    unfold dN
    omega
  simp [cmpOk, h1]
  omega
@[simp] theorem o_eqT0 (ks : List Nat) (S : List D) : oEq (.tup (dN ks)) (.tup []) S = .ok (.bl ks.isEmpty) S := by
  rw [o_eq (x := .tup (dN ks)) (y := .tup []) (cmp_tN ks) (cmp_tN [])]
  simp only [seen]
  cases ks <;> rfl
theorem mem_up {k : Nat} {ks : List Nat} : (k : Int) ∈ up ks ↔ k ∈ ks := by
  unfold up
  rw [List.mem_map]
  constructor
  · rintro ⟨j, hj, e⟩
    have : j = k := by omega
    rwa [← this]
  · exact fun h => ⟨k, h, rfl⟩
@[simp] theorem o_inN (k : Nat) (ks : List Nat) (S : List D) : oIn (.int (k : Nat)) (.tup (dN ks)) S = .ok (.bl (decide (k ∈ ks))) S := by
  rw [dN_up, o_inT, decide_eq_decide.mpr mem_up]
@[simp] theorem o_ninN (k : Nat) (ks : List Nat) (S : List D) : oNin (.int (k : Nat)) (.tup (dN ks)) S = .ok (.bl (!decide (k ∈ ks))) S := by
  rw [dN_up, o_ninT, decide_eq_decide.mpr mem_up]
structure QOk (n : Nat) (q : List Pipe) (m : Int) : Prop where
  n1 : 1 ≤ n
  n5 : n ≤ 5
  l : q.length ≤ 6
  ok : ∀ p ∈ q, POk n 8 m p
theorem QOk.f {n : Nat} {q : List Pipe} {m : Int} (h : QOk n q m) (hm : m ≤ 99999) : FOk n q :=
  ⟨by have := h.n1; omega, by have := h.n5; omega, by have := h.l; omega, fun p hp => (h.ok p hp).le (by omega) hm⟩
theorem QOk.g {n : Nat} {q : List Pipe} {m : Int} (h : QOk n q m) : ∀ p ∈ q, 0 ≤ p.g ∧ p.g ≤ 8 ∧ 0 ≤ p.e := fun p hp => by
  have x := h.ok p hp
  have x1 := x.g0; have x2 := x.g1; have x3 := x.e0
  omega
theorem QOk.marks {n : Nat} {q : List Pipe} {m : Int} (h : QOk n q m) : ∀ v ∈ marksT q, 0 ≤ v ∧ v ≤ m := by
  intro v hv
  simp only [marksT, List.mem_map] at hv
  obtain ⟨p, hp, rfl⟩ := hv
  exact ⟨(h.ok p hp).m0, (h.ok p hp).m1⟩
theorem fold_ok {n : Nat} {q : List Pipe} {m : Int} (h : QOk n q m) {word : List Int} (hw : WOk n q (marksT q) word) : ∀ i, i ≤ word.length → ∀ v ∈ stT q (marksT q) word i, 0 ≤ v ∧ v ≤ m + 8 * (i : Nat) := by
  intro i
  induction i with
  | zero => intro _ v hv; have := h.marks v hv; omega
  | succ i ih =>
    intro hi v hv
    rw [stT_succ _ _ (show i < word.length by omega)] at hv
    have := next_ok (n := 0) (stT_len (marks_len q) word i) h.g (ih (by omega)) (hw.can i (by omega)) v hv
    omega
theorem QOk.run {n : Nat} {q : List Pipe} {m : Int} (h : QOk n q m) {word : List Int} (hw : WOk n q (marksT q) word) (hl : word.length ≤ 8) : QOk n (withT q (runT q word)) (m + 64) := by
  have e : runT q word = stT q (marksT q) word word.length := by simp [runT, stT]
  have hl2 := stT_len (marks_len q) word word.length
  rw [e]
  refine ⟨h.n1, h.n5, by rw [withT_len hl2]; exact h.l, withT_ok h.ok (fun v hv => ?_)⟩
  have := fold_ok h hw word.length (Nat.le_refl _) v hv
  omega
inductive L where
  | b (n : Int) : L
  | r (t : Nat) (xs : List L) : L
mutual
def L.d : L → D
  | .b n => .int n
  | .r t xs => .tup [.int (t : Nat), .tup (L.ds xs)]
def L.ds : List L → List D
  | [] => []
  | x :: xs => x.d :: L.ds xs
end
mutual
def L.u : L → List Int
  | .b n => [n]
  | .r t xs => (List.replicate t (L.us xs)).flatten
def L.us : List L → List Int
  | [] => []
  | x :: xs => x.u ++ L.us xs
end
mutual
def L.w : L → List Int
  | .b n => [n]
  | .r _ xs => L.ws xs
def L.ws : List L → List Int
  | [] => []
  | x :: xs => x.w ++ L.ws xs
end
mutual
def L.dep : L → Nat
  | .b _ => 0
  | .r _ xs => L.deps xs + 1
def L.deps : List L → Nat
  | [] => 0
  | x :: xs => max x.dep (L.deps xs)
end
mutual
def L.ok : L → Prop
  | .b n => 0 ≤ n ∧ n < 8
  | .r t xs => 2 ≤ t ∧ t ≤ 999 ∧ L.us xs ≠ [] ∧ L.oks xs
def L.oks : List L → Prop
  | [] => True
  | x :: xs => x.ok ∧ L.oks xs
end
theorem ds_map : ∀ xs : List L, L.ds xs = xs.map L.d
  | [] => rfl
  | x :: xs => by rw [L.ds, ds_map xs]; rfl
theorem us_app : ∀ xs ys : List L, L.us (xs ++ ys) = L.us xs ++ L.us ys
  | [], ys => rfl
  | x :: xs, ys => by rw [List.cons_append, L.us, L.us, us_app xs ys, List.append_assoc]
theorem ws_app : ∀ xs ys : List L, L.ws (xs ++ ys) = L.ws xs ++ L.ws ys
  | [], ys => rfl
  | x :: xs, ys => by rw [List.cons_append, L.ws, L.ws, ws_app xs ys, List.append_assoc]
theorem deps_app : ∀ xs ys : List L, L.deps (xs ++ ys) = max (L.deps xs) (L.deps ys)
  | [], ys => by simp [L.deps]
  | x :: xs, ys => by rw [List.cons_append, L.deps, L.deps, deps_app xs ys, Nat.max_assoc]
theorem oks_app : ∀ xs ys : List L, L.oks (xs ++ ys) ↔ L.oks xs ∧ L.oks ys
  | [], ys => by simp [L.oks]
  | x :: xs, ys => by rw [List.cons_append, L.oks, L.oks, oks_app xs ys, and_assoc]
theorem deps_mem {x : L} : ∀ {xs : List L}, x ∈ xs → x.dep ≤ L.deps xs
  | [], h => by simp at h
  | y :: ys, h => by
    rw [L.deps]
    rcases List.mem_cons.mp h with rfl | h
    · omega
    · have := deps_mem h
      omega
theorem oks_mem {x : L} : ∀ {xs : List L}, L.oks xs → x ∈ xs → x.ok
  | [], _, h => by simp at h
  | y :: ys, h, m => by
    rw [L.oks] at h
    rcases List.mem_cons.mp m with rfl | m
    · exact h.1
    · exact oks_mem h.2 m
theorem us_one (x : L) : L.us [x] = x.u := by simp [L.us]
theorem ws_one (x : L) : L.ws [x] = x.w := by simp [L.ws]
theorem us_take {xs : List L} {i : Nat} (h : i < xs.length) : L.us (xs.take (i + 1)) = L.us (xs.take i) ++ xs[i].u := by
  rw [List.take_succ_eq_append_getElem h, us_app, us_one]
theorem ws_take {xs : List L} {i : Nat} (h : i < xs.length) : L.ws (xs.take (i + 1)) = L.ws (xs.take i) ++ xs[i].w := by
  rw [List.take_succ_eq_append_getElem h, ws_app, ws_one]
theorem us_take_le (xs : List L) (i : Nat) : (L.us (xs.take i)).length ≤ (L.us xs).length := by
  have : L.us xs = L.us (xs.take i) ++ L.us (xs.drop i) := by rw [← us_app, List.take_append_drop]
  rw [this, List.length_append]
  omega
theorem ws_take_le (xs : List L) (i : Nat) : (L.ws (xs.take i)).length ≤ (L.ws xs).length := by
  have : L.ws xs = L.ws (xs.take i) ++ L.ws (xs.drop i) := by rw [← ws_app, List.take_append_drop]
  rw [this, List.length_append]
  omega
mutual
theorem fl_d : ∀ x : L, x.d.flat = true
  | .b n => rfl
  | .r t xs => by
    show (true && (D.flat (.tup (L.ds xs)) && true)) = true
    have := fl_ds xs
    simp [D.flat, this]
theorem fl_ds : ∀ xs : List L, D.flats (L.ds xs) = true
  | [] => rfl
  | x :: xs => by
    rw [L.ds, D.flats, fl_d x, fl_ds xs]; rfl
end
theorem fl_tds (xs : List L) : D.flat (.tup (L.ds xs)) = true := fl_ds xs
@[simp] theorem fl_dS (x : L) : x.d.flat = true := fl_d x
@[simp] theorem fl_dsS (xs : List L) : D.flats (L.ds xs) = true := fl_ds xs
mutual
theorem w_le_u : ∀ x : L, x.ok → x.w.length ≤ x.u.length
  | .b n, _ => Nat.le_refl _
  | .r t xs, h => by
    rw [L.ok] at h
    have := ws_le_us xs h.2.2.2
    rw [L.w, L.u]
    have e : ((List.replicate t (L.us xs)).flatten).length = t * (L.us xs).length := by simp
    rw [e]
    have : 1 * (L.us xs).length ≤ t * (L.us xs).length := Nat.mul_le_mul_right _ (by omega)
    omega
theorem ws_le_us : ∀ xs : List L, L.oks xs → (L.ws xs).length ≤ (L.us xs).length
  | [], _ => Nat.le_refl _
  | x :: xs, h => by
    rw [L.oks] at h
    rw [L.ws, L.us, List.length_append, List.length_append]
    have := w_le_u x h.1
    have := ws_le_us xs h.2
    omega
end
theorem u_pos {x : L} (h : x.ok) : 0 < x.u.length := by
  cases x with
  | b n => simp [L.u]
  | r t xs =>
    rw [L.ok] at h
    rw [L.u]
    have e : ((List.replicate t (L.us xs)).flatten).length = t * (L.us xs).length := by simp
    rw [e]
    have : 0 < (L.us xs).length := List.length_pos_iff.mpr h.2.2.1
    exact Nat.mul_pos (by omega) this
theorem len_le_us : ∀ {xs : List L}, L.oks xs → xs.length ≤ (L.us xs).length
  | [], _ => Nat.le_refl _
  | x :: xs, h => by
    rw [L.oks] at h
    rw [L.us, List.length_append, List.length_cons]
    have := u_pos h.1
    have := len_le_us h.2
    omega
theorem bti : isiB "int" "tuple" = false := by decide
theorem ext_ok {xs ys : List D} (h : xs.length + ys.length ≤ SL) : mExtend (.loc 0) [.lst ys] [.lst xs] = .ok .non [.lst (xs ++ ys)] := by
  unfold mExtend
  simp [h, lstAny, lstOf]
theorem said_ok : ∀ (k : Nat) (xs : List L), L.deps xs < k → L.oks xs → (L.us xs).length ≤ 2000 → F_p_boxes_said k [.tup (L.ds xs)] [] = .ok (.lst (dI (L.us xs))) []
  | 0, _, h, _, _ => by omega
  | k + 1, xs, hd, ho, hl => by
    have hx : xs.length ≤ 2000 := Nat.le_trans (len_le_us ho) hl
    unfold F_p_boxes_said S_p_boxes_said
    rw [fn_ev 1 3 _ rfl]
    obtain ⟨E', S', e, x2, rfl, rfl⟩ := for_its xs L.d (t := Tg.nm 2) (b := B1_p_boxes_said (F_p_boxes_said k)) (E := [some (.tup (L.ds xs)), some (.loc 0), none]) (S := [.lst []])
      (fun i E S => ∃ x2, E = [some (.tup (L.ds xs)), some (.loc 0), x2] ∧ S = [.lst (dI (L.us (xs.take i)))]) ⟨none, rfl, rfl⟩ (by
        rintro i E S hi ⟨x2, rfl, rfl⟩
        refine turn_nx (E2 := [some (.tup (L.ds xs)), some (.loc 0), some (L.d xs[i])]) (S2 := [.lst (dI (L.us (xs.take (i + 1))))]) rfl ?_ rfl ⟨_, rfl, rfl⟩
        have hle := us_take_le xs (i + 1)
        rw [us_take hi, List.length_append] at hle
        rw [us_take hi, ← dI_app]
        have hm : xs[i] ∈ xs := List.getElem_mem hi
        have ok := oks_mem ho hm
        have dp := deps_mem hm
        unfold B1_p_boxes_said
        cases hx : xs[i] with
        | b n =>
          rw [hx] at hle
          have hs : (dI (L.us (xs.take i))).length < SL := by simp [dI, SL]; simp [L.u] at hle; omega
          show _ = O.nx _ [.lst (dI (L.us (xs.take i)) ++ [.int n])]
          simp [L.d, hs, isi_int, bti]
        | r t ys =>
          rw [hx] at hle ok dp
          rw [L.ok] at ok
          rw [L.dep] at dp
          rw [L.u] at hle ⊢
          have e1 : ((List.replicate t (L.us ys)).flatten).length = t * (L.us ys).length := by simp
          rw [e1] at hle
          have : 1 * (L.us ys).length ≤ t * (L.us ys).length := Nat.mul_le_mul_right _ (by omega)
          have ih := said_ok k ys (by omega) ok.2.2.2 (by omega)
          have e3 : dI ((List.replicate t (L.us ys)).flatten) = (List.replicate t (dI (L.us ys))).flatten := by simp [dI, List.map_flatten]
          have hs : (dI (L.us (xs.take i))).length + (dI ((List.replicate t (L.us ys)).flatten)).length ≤ SL := by
            rw [show (dI ((List.replicate t (L.us ys)).flatten)).length = t * (L.us ys).length by simp [dI]]
            simp [dI, SL]; omega
          have hmul : ∀ S, oMulR (.int (t : Nat)) (.lst (dI (L.us ys))) S = .ok (.lst (dI ((List.replicate t (L.us ys)).flatten))) S := fun S => by
            have e0 : oMulR (.int (t : Nat)) (.lst (dI (L.us ys))) S = if -9223372036854775808 ≤ ((t : Nat) : Int) ∧ ((t : Nat) : Int) < 9223372036854775808 ∧ (dI (L.us ys)).length * ((t : Nat) : Int).toNat ≤ SL then .ok (.lst (List.replicate ((t : Nat) : Int).toNat (dI (L.us ys))).flatten) S else .bad := rfl
            rw [e0]
            rw [if_pos (by
              refine ⟨by omega, by omega, ?_⟩
              have : (L.us ys).length * t ≤ 2000 := by rw [Nat.mul_comm]; omega
              simpa [dI, SL] using Nat.le_trans this (by decide)), e3]
            simp
          have hex : mExtend (.loc 0) [.lst (dI ((List.replicate t (L.us ys)).flatten))] [.lst (dI (L.us (xs.take i)))] = .ok .non [.lst (dI (L.us (xs.take i)) ++ dI ((List.replicate t (L.us ys)).flatten))] := ext_ok hs
          have hix : ∀ S, oIx (.tup [.int (t : Nat), .tup (L.ds ys)]) (.int 0) S = .ok (.int (t : Nat)) S := fun _ => rfl
          have hix1 : ∀ S, oIx (.tup [.int (t : Nat), .tup (L.ds ys)]) (.int 1) S = .ok (.tup (L.ds ys)) S := fun _ => rfl
          simp [L.d, hs, isi_tup, b3, ih, hmul, hix, hix1, hex, -o_ixT])
    rw [← ds_map] at e
    have e2 : forS (.its (L.ds xs)) (.nm 2) (B1_p_boxes_said (F_p_boxes_said k)) [some (.tup (L.ds xs)), some (.loc 0), none] [.lst []] = _ := e
    simp [e2]
    exact retF_loc0 (by simp) 0 rfl
theorem tbi : isiB "tuple" "int" = false := by decide
theorem written_ok : ∀ (k : Nat) (xs : List L), L.deps xs < k → L.oks xs → (L.us xs).length ≤ 2000 → F_p_boxes_written k [.tup (L.ds xs)] [] = .ok (.lst (dI (L.ws xs))) []
  | 0, _, h, _, _ => by omega
  | k + 1, xs, hd, ho, hl => by
    have hx : xs.length ≤ 2000 := Nat.le_trans (len_le_us ho) hl
    have hwl := ws_le_us xs ho
    unfold F_p_boxes_written S_p_boxes_written
    rw [fn_ev 1 3 _ rfl]
    obtain ⟨E', S', e, x2, rfl, rfl⟩ := for_its xs L.d (t := Tg.nm 2) (b := B1_p_boxes_written (F_p_boxes_written k)) (E := [some (.tup (L.ds xs)), some (.loc 0), none]) (S := [.lst []])
      (fun i E S => ∃ x2, E = [some (.tup (L.ds xs)), some (.loc 0), x2] ∧ S = [.lst (dI (L.ws (xs.take i)))]) ⟨none, rfl, rfl⟩ (by
        rintro i E S hi ⟨x2, rfl, rfl⟩
        refine turn_nx (E2 := [some (.tup (L.ds xs)), some (.loc 0), some (L.d xs[i])]) (S2 := [.lst (dI (L.ws (xs.take (i + 1))))]) rfl ?_ rfl ⟨_, rfl, rfl⟩
        have hle := us_take_le xs (i + 1)
        rw [us_take hi, List.length_append] at hle
        have hlw := ws_take_le xs (i + 1)
        rw [ws_take hi, List.length_append] at hlw
        rw [ws_take hi, ← dI_app]
        have hm : xs[i] ∈ xs := List.getElem_mem hi
        have ok := oks_mem ho hm
        have dp := deps_mem hm
        unfold B1_p_boxes_written
        cases hx : xs[i] with
        | b n =>
          rw [hx] at hlw
          have hs : (dI (L.ws (xs.take i))).length < SL := by simp [dI, SL]; simp [L.w] at hlw; omega
          show _ = O.nx _ [.lst (dI (L.ws (xs.take i)) ++ [.int n])]
          simp [L.d, hs, isi_int, bti]
        | r t ys =>
          rw [hx] at hle hlw ok dp
          rw [L.ok] at ok
          rw [L.dep] at dp
          rw [L.u] at hle
          rw [L.w] at hlw ⊢
          have e1 : ((List.replicate t (L.us ys)).flatten).length = t * (L.us ys).length := by simp
          rw [e1] at hle
          have : 1 * (L.us ys).length ≤ t * (L.us ys).length := Nat.mul_le_mul_right _ (by omega)
          have ih := written_ok k ys (by omega) ok.2.2.2 (by omega)
          have hs : (dI (L.ws (xs.take i))).length + (dI (L.ws ys)).length ≤ SL := by
            simp [dI, SL]; omega
          have hex : mExtend (.loc 0) [.lst (dI (L.ws ys))] [.lst (dI (L.ws (xs.take i)))] = .ok .non [.lst (dI (L.ws (xs.take i)) ++ dI (L.ws ys))] := ext_ok hs
          have hix1 : ∀ S, oIx (.tup [.int (t : Nat), .tup (L.ds ys)]) (.int 1) S = .ok (.tup (L.ds ys)) S := fun _ => rfl
          simp [L.d, hs, isi_tup, b3, ih, hix1, hex, -o_ixT])
    rw [← ds_map] at e
    have e2 : forS (.its (L.ds xs)) (.nm 2) (B1_p_boxes_written (F_p_boxes_written k)) [some (.tup (L.ds xs)), some (.loc 0), none] [.lst []] = _ := e
    simp [e2]
    exact retF_loc0 (by simp) 0 rfl
theorem isbox_tup (ds : List D) (h : D.flats ds = true) (n : Int) : F_p_is_box [.tup ds, .int n] [] = .ok (.bl false) [] := by
  have hf : D.flat (.tup ds) = true := h
  have h1 : F_p_is_whole [.tup ds] [] = .ok (.bl false) [] := by
    unfold F_p_is_whole S_p_is_whole
    rw [fn_ev 1 1 _ rfl]
    simp [isi_tup, tbi, hf]
  have h2 : ∀ a b : Int, F_p_is_number [.tup ds, .int a, .int b] [] = .ok (.bl false) [] := fun a b => by
    unfold F_p_is_number S_p_is_number
    rw [fn_ev 3 3 _ rfl]
    simp [h1, h]
  unfold F_p_is_box S_p_is_box
  rw [fn_ev 2 2 _ rfl]
  simp [h2, h]
theorem loopf_ok : ∀ (k : Nat) (xs : List L) (dp : Nat), L.deps xs < k → dp + L.deps xs ≤ 8 → L.oks xs → (L.us xs).length ≤ 2000 → F_p_loop_firings k [.tup (L.ds xs), .int (dp : Nat)] [] = .ok (.int ((L.us xs).length : Nat)) []
  | 0, _, _, h, _, _, _ => by omega
  | k + 1, xs, dp, hd, hd8, ho, hl => by
    unfold F_p_loop_firings S_p_loop_firings
    rw [fn_ev 2 4 _ rfl]
    obtain ⟨E', S', e, x3, rfl, rfl⟩ := for_its xs L.d (t := Tg.nm 3) (b := B1_p_loop_firings (F_p_loop_firings k)) (E := [some (.tup (L.ds xs)), some (.int (dp : Nat)), some (.int 0), none]) (S := [])
      (fun i E S => ∃ x3, E = [some (.tup (L.ds xs)), some (.int (dp : Nat)), some (.int ((L.us (xs.take i)).length : Nat)), x3] ∧ S = []) ⟨none, rfl, rfl⟩ (by
        rintro i E S hi ⟨x3, rfl, rfl⟩
        refine turn_nx (E2 := [some (.tup (L.ds xs)), some (.int (dp : Nat)), some (.int ((L.us (xs.take (i + 1))).length : Nat)), some (L.d xs[i])]) (S2 := []) rfl ?_ rfl ⟨_, rfl, rfl⟩
        have hle := us_take_le xs (i + 1)
        rw [us_take hi, List.length_append] at hle
        rw [us_take hi, List.length_append]
        have hm : xs[i] ∈ xs := List.getElem_mem hi
        have ok := oks_mem ho hm
        have dpm := deps_mem hm
        unfold B1_p_loop_firings
        cases hx : xs[i] with
        | b n =>
          rw [hx] at hle ok
          rw [L.ok] at ok
          have h1 : F_p_is_box [.int n, .int 8] [] = .ok (.bl true) [] := by
            rw [isbox_eq]
            simp
            omega
          have hgt : ¬ (2000 : Int) < ((L.us (xs.take i)).length : Int) + 1 := by simp [L.u] at hle; omega
          simp [L.d, L.u, h1, hgt]
        | r t ys =>
          rw [hx] at hle ok dpm
          rw [L.ok] at ok
          rw [L.dep] at dpm
          rw [L.u] at hle ⊢
          have e1 : ((List.replicate t (L.us ys)).flatten).length = t * (L.us ys).length := by simp
          rw [e1] at hle ⊢
          have : 1 * (L.us ys).length ≤ t * (L.us ys).length := Nat.mul_le_mul_right _ (by omega)
          have ih := loopf_ok k ys (dp + 1) (by omega) (by omega) ok.2.2.2 (by omega)
          have hbx : F_p_is_box [.tup [.int (t : Nat), .tup (L.ds ys)], .int 8] [] = .ok (.bl false) [] := isbox_tup _ (by simp [D.flats, D.flat]) 8
          have hst : FO_p_stretch_firings (F_p_loop_firings k) [.tup [.int (t : Nat), .tup (L.ds ys)], .int (dp : Nat)] [] = .ok (.int ((t * (L.us ys).length : Nat) : Int)) [] := by
            have hr : F_p_is_row [.tup [.int (t : Nat), .tup (L.ds ys)], .int 2] [] = .ok (.bl true) [] := by
              rw [isrow_eq _ _ (by simp [D.flats, D.flat])]
              rfl
            have hn : F_p_is_number [.int (t : Nat), .int 2, .int 999] [] = .ok (.bl true) [] := by
              rw [isnum_eq]
              have a1 : (2 : Int) ≤ (t : Nat) := by omega
              have a2 : ((t : Nat) : Int) ≤ 999 := by omega
              simp [a1, a2]
            have hpos : 0 < (L.us ys).length := List.length_pos_iff.mpr ok.2.2.1
            have hix : ∀ S, oIx (.tup [.int (t : Nat), .tup (L.ds ys)]) (.int 0) S = .ok (.int (t : Nat)) S := fun _ => rfl
            have hix1 : ∀ S, oIx (.tup [.int (t : Nat), .tup (L.ds ys)]) (.int 1) S = .ok (.tup (L.ds ys)) S := fun _ => rfl
            have hm : ∀ S, oMul (.int (t : Nat)) (.int ((L.us ys).length : Nat)) S = .ok (.int ((t : Int) * ((L.us ys).length : Int))) S := fun S => o_mul (Or.inr (by simp [smallI]; omega))
            have hne : ¬ ((L.us ys).length : Int) = 0 := by omega
            have hfl : D.flat (.tup [.int (t : Nat), .tup (L.ds ys)]) = true := by simp [D.flats, D.flat]
            have ih' : F_p_loop_firings k [.tup (L.ds ys), .int ((dp : Int) + 1)] [] = .ok (.int ((L.us ys).length : Nat)) [] := ih
            unfold FO_p_stretch_firings S_p_stretch_firings
            rw [fn_ev 2 3 _ rfl]
            have hne2 := ok.2.2.1
            simp [hr, hn, hix, hix1, ih', hm, hne, hne2, hfl, -o_ixT]
          have hgt : ¬ (2000 : Int) < ((L.us (xs.take i)).length : Int) + ((t * (L.us ys).length : Nat) : Int) := by omega
          rw [Int.natCast_mul] at hgt
          have hfl : D.flat (.tup [.int (t : Nat), .tup (L.ds ys)]) = true := by simp [D.flats, D.flat]
          simp [L.d, hbx, hst, hgt, hfl])
    rw [← ds_map] at e
    have e2 : forS (.its (L.ds xs)) (.nm 3) (B1_p_loop_firings (F_p_loop_firings k)) [some (.tup (L.ds xs)), some (.int (dp : Nat)), some (.int 0), none] [] = _ := e
    have h8 : ¬ (8 : Int) < (dp : Int) := by omega
    simp [e2, isi_tup, b3, h8]
structure LOk (xs : List L) : Prop where
  ok : L.oks xs
  dep : L.deps xs ≤ 7
  len : (L.us xs).length ≤ 2000
theorem checkloop_ok {xs : List L} (h : LOk xs) : F_p_check_loop [.tup (L.ds xs)] [] = .ok .non [] := by
  have := loopf_ok 12 xs 0 (by have := h.dep; omega) (by have := h.dep; omega) h.ok h.len
  have h2 : F_p_loop_firings 12 [.tup (L.ds xs), .int 0] [] = _ := this
  unfold F_p_check_loop S_p_check_loop
  rw [fn_ev 1 1 _ rfl]
  simp [h2]
theorem unrolled_ok {xs : List L} (h : LOk xs) : F_p_unrolled [.tup (L.ds xs)] [] = .ok (.tup (dI (L.us xs))) [] := by
  unfold F_p_unrolled S_p_unrolled
  rw [fn_ev 1 1 _ rfl]
  simp [checkloop_ok h, said_ok 8 xs (by have := h.dep; omega) h.ok h.len]
theorem appear_ok {xs : List L} (h : LOk xs) : F_p_appearances [.tup (L.ds xs)] [] = .ok (.tup (dI (L.ws xs))) [] := by
  unfold F_p_appearances S_p_appearances
  rw [fn_ev 1 1 _ rfl]
  simp [checkloop_ok h, written_ok 8 xs (by have := h.dep; omega) h.ok h.len]
theorem size_ok {xs : List L} (h : LOk xs) : F_p_size [.tup (L.ds xs)] [] = .ok (.int ((L.ws xs).length : Nat)) [] := by
  have hl := h.len
  have hw := ws_le_us xs h.ok
  have hw2 : (L.ws xs).length ≤ SL := by simp [SL]; omega
  unfold F_p_size S_p_size
  rw [fn_ev 1 1 _ rfl]
  simp [written_ok 8 xs (by have := h.dep; omega) h.ok h.len, hw2, dI]
def spn (w : List Int) (a b : Nat) : List Int := (w.drop a).take (b - a)
def repL (t : Nat) (w : List Int) : List Int := (List.replicate t w).flatten
theorem repL_len (t : Nat) (w : List Int) : (repL t w).length = t * w.length := by simp [repL]
def szs (g : List Int → Nat) (w : List Int) : List Nat :=
  ((List.range (w.length - 1)).map fun i => g (w.take (i + 1)) + g (w.drop (i + 1))) ++
    ((List.range (w.length - 1)).filter fun i => decide (w.length % (i + 1) = 0) && decide (w = repL (w.length / (i + 1)) (w.take (i + 1)))).map fun i => g (w.take (i + 1))
def fF : Nat → List Int → Nat
  | 0, w => w.length
  | k + 1, w => if w.length < 2 then w.length else (szs (fF k) w).min?.getD 0
def fw (w : List Int) : Nat := fF w.length w
theorem szs_cg {g h : List Int → Nat} {w : List Int} (e : ∀ u : List Int, u.length < w.length → g u = h u) : szs g w = szs h w := by
  unfold szs
  congr 1
  · refine List.map_congr_left fun i hi => ?_
    have := List.mem_range.mp hi
    rw [e _ (by rw [List.length_take]; omega), e _ (by rw [List.length_drop]; omega)]
  · refine List.map_congr_left fun i hi => ?_
    have := List.mem_range.mp (List.mem_filter.mp hi).1
    rw [e _ (by rw [List.length_take]; omega)]
theorem fF_st : ∀ (k j : Nat) (w : List Int), w.length ≤ k → w.length ≤ j → fF k w = fF j w
  | 0, 0, w, _, _ => rfl
  | 0, j + 1, w, h, _ => by
    have : w.length = 0 := by omega
    simp [fF, this]
  | k + 1, 0, w, _, h => by
    have : w.length = 0 := by omega
    simp [fF, this]
  | k + 1, j + 1, w, h1, h2 => by
    unfold fF
    split
    · rfl
    · rw [szs_cg (g := fF k) (h := fF j) fun u hu => fF_st k j u (by omega) (by omega)]
theorem fw_small {w : List Int} (h : w.length < 2) : fw w = w.length := by
  unfold fw
  cases e : w.length with
  | zero => exact e
  | succ n => unfold fF; rw [if_pos h, e]
theorem fw_min {w : List Int} (h : 2 ≤ w.length) : (szs fw w).min? = some (fw w) := by
  have e : fw w = (szs fw w).min?.getD 0 := by
    show fF w.length w = _
    obtain ⟨n, hn⟩ : ∃ n, w.length = n + 1 := ⟨w.length - 1, by omega⟩
    rw [hn]
    show (if w.length < 2 then w.length else (szs (fF n) w).min?.getD 0) = _
    rw [if_neg (by omega), szs_cg (g := fF n) (h := fw) fun u hu => fF_st n u.length u (by omega) (Nat.le_refl _)]
  cases q : (szs fw w).min? with
  | some v => rw [q] at e; rw [e]; rfl
  | none =>
    have := List.min?_eq_none_iff.mp q
    exfalso
    have hl : (szs fw w).length = 0 := by rw [this]; rfl
    unfold szs at hl
    rw [List.length_append, List.length_map, List.length_range] at hl
    omega
theorem fw_is {w : List Int} (h : 2 ≤ w.length) {v : Nat} (h1 : v ∈ szs fw w) (h2 : ∀ x ∈ szs fw w, v ≤ x) : v = fw w := by
  have q := (List.min?_eq_some_iff).mp (fw_min h)
  have a := q.2 v h1
  have b := h2 _ q.1
  omega
structure Best (w : List Int) (c : List L) : Prop where
  us : L.us c = w
  ok : L.oks c
  dep : 2 ^ L.deps c ≤ max 1 w.length
  sz : (L.ws c).length = fw w
theorem Best.lok {w : List Int} {c : List L} (h : Best w c) (hl : w.length ≤ 24) : LOk c := by
  refine ⟨h.ok, ?_, by rw [h.us]; omega⟩
  have := h.dep
  rcases Nat.lt_or_ge (L.deps c) 8 with q | q
  · omega
  · have := Nat.pow_le_pow_right (n := 2) (by decide) q
    omega
theorem best_nil : Best [] [] := ⟨rfl, trivial, by simp [L.deps], by rw [fw_small (by simp)]; rfl⟩
theorem best_one {n : Int} (h : 0 ≤ n ∧ n < 8) : Best [n] [.b n] := ⟨rfl, ⟨h, trivial⟩, by simp [L.deps, L.dep], by rw [fw_small (by simp)]; rfl⟩
def cands (w : List Int) (c1 c2 : Nat → List L) : List (List L) :=
  ((List.range (w.length - 1)).map fun i => c1 (i + 1) ++ c2 (i + 1)) ++
    ((List.range (w.length / 2)).filter fun i => decide (repL (w.length / (i + 1)) (w.take (i + 1)) = w)).map fun i => [L.r (w.length / (i + 1)) (c1 (i + 1))]
theorem pow_max (a b : Nat) : 2 ^ max a b = max (2 ^ a) (2 ^ b) := by
  rcases Nat.le_total a b with h | h
  · rw [Nat.max_eq_right h, Nat.max_eq_right (Nat.pow_le_pow_right (by decide) h)]
  · rw [Nat.max_eq_left h, Nat.max_eq_left (Nat.pow_le_pow_right (by decide) h)]
theorem best_step {w : List Int} {c1 c2 : Nat → List L} (hl : w.length ≤ 24) (h2 : 2 ≤ w.length) (b1 : ∀ m, 1 ≤ m → m < w.length → Best (w.take m) (c1 m)) (b2 : ∀ m, 1 ≤ m → m < w.length → Best (w.drop m) (c2 m))
    {c : List L} (hc : c ∈ cands w c1 c2) (hm : ∀ y ∈ cands w c1 c2, (L.ws c).length ≤ (L.ws y).length) : Best w c := by
  have szC : ∀ i, i < w.length - 1 → (L.ws (c1 (i + 1) ++ c2 (i + 1))).length = fw (w.take (i + 1)) + fw (w.drop (i + 1)) := fun i hi => by
    rw [ws_app, List.length_append, (b1 _ (by omega) (by omega)).sz, (b2 _ (by omega) (by omega)).sz]
  have szR : ∀ i, i < w.length - 1 → (L.ws [L.r (w.length / (i + 1)) (c1 (i + 1))]).length = fw (w.take (i + 1)) := fun i hi => by
    rw [ws_one, L.w, (b1 _ (by omega) (by omega)).sz]
  have hsz : (L.ws c).length = fw w := by
    refine fw_is h2 ?_ ?_
    · rcases List.mem_append.mp hc with hc | hc
      · obtain ⟨i, hi, rfl⟩ := List.mem_map.mp hc
        have hi' := List.mem_range.mp hi
        rw [szC i hi']
        exact List.mem_append_left _ (List.mem_map.mpr ⟨i, hi, rfl⟩)
      · obtain ⟨i, hi, rfl⟩ := List.mem_map.mp hc
        obtain ⟨hi, hr⟩ := List.mem_filter.mp hi
        have hi' := List.mem_range.mp hi
        have hr' := of_decide_eq_true hr
        have hi2 : i < w.length - 1 := by omega
        rw [szR i hi2]
        refine List.mem_append_right _ (List.mem_map.mpr ⟨i, List.mem_filter.mpr ⟨List.mem_range.mpr hi2, ?_⟩, rfl⟩)
        have e := congrArg List.length hr'
        rw [repL_len, List.length_take, Nat.min_eq_left (by omega)] at e
        have e2 : w.length % (i + 1) = 0 := by
          have := Nat.div_add_mod w.length (i + 1)
          rw [Nat.mul_comm] at this
          omega
        simp [e2, ← hr'.symm]
    · intro v hv
      rcases List.mem_append.mp hv with hv | hv
      · obtain ⟨i, hi, rfl⟩ := List.mem_map.mp hv
        have hi' := List.mem_range.mp hi
        show _ ≤ fw (w.take (i + 1)) + fw (w.drop (i + 1))
        rw [← szC i hi']
        exact hm _ (List.mem_append_left _ (List.mem_map.mpr ⟨i, hi, rfl⟩))
      · obtain ⟨i, hi, rfl⟩ := List.mem_map.mp hv
        obtain ⟨hi, hr⟩ := List.mem_filter.mp hi
        have hi' := List.mem_range.mp hi
        rw [Bool.and_eq_true, decide_eq_true_eq, decide_eq_true_eq] at hr
        show _ ≤ fw (w.take (i + 1))
        rw [← szR i hi']
        refine hm _ (List.mem_append_right _ (List.mem_map.mpr ⟨i, List.mem_filter.mpr ⟨List.mem_range.mpr ?_, decide_eq_true hr.2.symm⟩, rfl⟩))
        obtain ⟨q, hq⟩ := Nat.dvd_of_mod_eq_zero hr.1
        have hq2 : 2 ≤ q := by
          rcases Nat.lt_or_ge q 2 with z | z
          · have : q = 0 ∨ q = 1 := by omega
            rcases this with rfl | rfl
            · omega
            · rw [Nat.mul_one] at hq; omega
          · exact z
        have : (i + 1) * 2 ≤ (i + 1) * q := Nat.mul_le_mul_left _ hq2
        omega
  rcases List.mem_append.mp hc with hc | hc
  · obtain ⟨i, hi, rfl⟩ := List.mem_map.mp hc
    have hi' := List.mem_range.mp hi
    have k1 := b1 (i + 1) (by omega) (by omega)
    have k2 := b2 (i + 1) (by omega) (by omega)
    refine ⟨by rw [us_app, k1.us, k2.us, List.take_append_drop], (oks_app _ _).mpr ⟨k1.ok, k2.ok⟩, ?_, hsz⟩
    rw [deps_app, pow_max]
    have d1 := k1.dep
    have d2 := k2.dep
    rw [List.length_take] at d1
    rw [List.length_drop] at d2
    omega
  · obtain ⟨i, hi, rfl⟩ := List.mem_map.mp hc
    obtain ⟨hi, hr⟩ := List.mem_filter.mp hi
    have hi' := List.mem_range.mp hi
    have hr' := of_decide_eq_true hr
    have k1 := b1 (i + 1) (by omega) (by omega)
    have e := congrArg List.length hr'
    rw [repL_len, List.length_take, Nat.min_eq_left (by omega)] at e
    have ht : 2 ≤ w.length / (i + 1) := (Nat.le_div_iff_mul_le (by omega)).mpr (by omega)
    have ht2 : w.length / (i + 1) ≤ 24 := Nat.le_trans (Nat.div_le_self _ _) hl
    refine ⟨?_, ⟨⟨ht, by omega, ?_, k1.ok⟩, trivial⟩, ?_, hsz⟩
    · rw [us_one, L.u, k1.us]
      exact hr'
    · rw [k1.us]
      intro z
      have := congrArg List.length z
      rw [List.length_take, List.length_nil] at this
      omega
    · have d1 := k1.dep
      rw [List.length_take, Nat.min_eq_left (by omega)] at d1
      show 2 ^ max (L.deps (c1 (i + 1)) + 1) 0 ≤ _
      rw [Nat.max_eq_left (Nat.zero_le _), Nat.pow_succ]
      generalize 2 ^ L.deps (c1 (i + 1)) = z at d1 ⊢
      omega
theorem cmp_tI (xs : List Int) : cmpOk (.tup (dI xs)) = true := by
  have := cmp_dI xs
  simp only [cmpOk, Bool.and_eq_true, decide_eq_true_eq] at this ⊢
  exact this
theorem eqBs_dI : ∀ (xs ys : List Int), D.eqBs (dI xs) (dI ys) = decide (xs = ys)
  | [], [] => rfl
  | [], _ :: _ => rfl
  | _ :: _, [] => rfl
  | x :: xs, y :: ys => by
    show ((x == y) && D.eqBs (dI xs) (dI ys)) = _
    rw [eqBs_dI xs ys]
    by_cases h : x = y
    · subst h; simp
    · simp [h]
@[simp] theorem o_eqTI (xs ys : List Int) (S : List D) : oEq (.tup (dI xs)) (.tup (dI ys)) S = .ok (.bl (decide (xs = ys))) S := by
  rw [o_eq (x := .tup (dI xs)) (y := .tup (dI ys)) (cmp_tI xs) (cmp_tI ys)]
  simp only [seen]
  rw [show D.eqB (.tup (dI xs)) (.tup (dI ys)) = D.eqBs (dI xs) (dI ys) from rfl, eqBs_dI]
def kk2 (p : Nat × Nat) : List Ky := [kN p.1, kN p.2]
def cv (cs : Nat → Nat → List L) (p : Nat × Nat) : D := .tup (L.ds (cs p.1 p.2))
def codesD (sp : List (Nat × Nat)) (cs : Nat → Nat → List L) : D := .dcT (sp.map kk2) (sp.map (cv cs))
theorem kk2_inj {p q : Nat × Nat} (h : kk2 p = kk2 q) : p = q := by
  obtain ⟨a, b⟩ := p
  obtain ⟨c, d⟩ := q
  simp [kk2, kN] at h
  obtain ⟨h1, h2⟩ := h
  have : a = c := by omega
  have : b = d := by omega
  subst_vars
  rfl
theorem getT_codes {cs : Nat → Nat → List L} {p : Nat × Nat} : ∀ {sp : List (Nat × Nat)}, p ∈ sp → getT (sp.map kk2) (sp.map (cv cs)) (kk2 p) = some (cv cs p)
  | [], h => by simp at h
  | q :: sp, h => by
    simp only [List.map_cons, getT]
    by_cases e : q = p
    · subst e; rw [if_pos rfl]
    · rw [if_neg fun z => e (kk2_inj z)]
      exact getT_codes ((List.mem_cons.mp h).resolve_left fun z => e z.symm)
theorem keyT_nn (a b : Nat) : keyT (.tup [.int (a : Nat), .int (b : Nat)]) = some (kk2 (a, b)) := rfl
theorem ix_codes {sp : List (Nat × Nat)} {cs : Nat → Nat → List L} {a b : Nat} (h : (a, b) ∈ sp) (S : List D) : oIxT (.loc 0) (.tup [.int (a : Nat), .int (b : Nat)]) (codesD sp cs :: S) = .ok (.tup (L.ds (cs a b))) (codesD sp cs :: S) := by
  unfold oIxT
  have e : dctT (codesD sp cs :: S) (.loc 0) = some (sp.map kk2, sp.map (cv cs)) := rfl
  rw [e, keyT_nn]
  simp only [getT_codes h]
  rfl
def upd2 (cs : Nat → Nat → List L) (a b : Nat) (c : List L) : Nat → Nat → List L := fun x y => if x = a ∧ y = b then c else cs x y
theorem put_codes {sp : List (Nat × Nat)} {cs : Nat → Nat → List L} {a b : Nat} (h : (a, b) ∉ sp) (hl : sp.length < 1000) (c : List L) (S : List D) :
    putAt (.loc 0) (.tup [.int (a : Nat), .int (b : Nat)]) (.tup (L.ds c)) (codesD sp cs :: S) = some (codesD (sp ++ [(a, b)]) (upd2 cs a b c) :: S) := by
  have hk : ((sp.map kk2).any fun q => decide (q = kk2 (a, b))) = false := by
    rw [List.any_eq_false]
    intro q hq
    obtain ⟨p, hp, rfl⟩ := List.mem_map.mp hq
    simp only [decide_eq_true_eq]
    intro z
    exact h (kk2_inj z ▸ hp)
  have hv : (sp ++ [(a, b)]).map (cv (upd2 cs a b c)) = sp.map (cv cs) ++ [.tup (L.ds c)] := by
    rw [List.map_append]
    congr 1
    · refine List.map_congr_left fun p hp => ?_
      unfold cv upd2
      rw [if_neg]
      rintro ⟨rfl, rfl⟩
      exact h hp
    · simp [cv, upd2]
  have hs : (sp.map kk2).length < SL := by simp [SL]; omega
  unfold putAt
  show (match keyT (.tup [.int (a : Nat), .int (b : Nat)]) with
    | some k => if (sp.map kk2).length < SL then some ((codesD sp cs :: S).set 0 (putAt.putT (sp.map kk2) (sp.map (cv cs)) k (.tup (L.ds c)))) else none
    | none => none) = _
  rw [keyT_nn]
  simp only
  rw [if_pos hs]
  unfold putAt.putT
  rw [hk]
  simp only [Bool.false_eq_true, if_false, List.set_cons_zero]
  unfold codesD
  rw [hv, List.map_append]
  rfl
@[simp] theorem fl_codes (sp : List (Nat × Nat)) (cs : Nat → Nat → List L) : D.flat (codesD sp cs) = true := by
  show D.flats (sp.map (cv cs)) = true
  exact flats_map _ (fun p => fl_tds _) _
theorem keyF_ok {c : List L} (h : LOk c) : keyF F_p_size (.tup (L.ds c)) = some (.tup (L.ds c), ((L.ws c).length : Int)) := by
  unfold keyF
  rw [if_pos (fl_tds c), size_ok h]
theorem keyF_map : ∀ {C : List (List L)}, (∀ c ∈ C, LOk c) → (C.map fun c => D.tup (L.ds c)).mapM (keyF F_p_size) = some (C.map fun c => (D.tup (L.ds c), ((L.ws c).length : Int)))
  | [], _ => rfl
  | c :: C, h => by
    rw [List.map_cons, List.mapM_cons, keyF_ok (h c List.mem_cons_self), keyF_map fun x hx => h x (List.mem_cons_of_mem _ hx)]
    rfl
theorem minK_le : ∀ (C : List (List L)) (c0 : List L), ∃ c ∈ c0 :: C, minK (D.tup (L.ds c0), ((L.ws c0).length : Int)) (C.map fun c => (D.tup (L.ds c), ((L.ws c).length : Int))) = (D.tup (L.ds c), ((L.ws c).length : Int)) ∧ ∀ y ∈ c0 :: C, (L.ws c).length ≤ (L.ws y).length
  | [], c0 => ⟨c0, by simp, rfl, by simp⟩
  | c1 :: C, c0 => by
    by_cases h : (L.ws c1).length < (L.ws c0).length
    · obtain ⟨c, h1, h2, h3⟩ := minK_le C c1
      refine ⟨c, List.mem_cons_of_mem _ h1, ?_, fun y hy => ?_⟩
      · rw [← h2]
        unfold minK
        rw [List.map_cons, List.foldl_cons, if_pos (by simp; omega)]
      · rcases List.mem_cons.mp hy with rfl | hy
        · have := h3 c1 List.mem_cons_self
          omega
        · exact h3 y hy
    · obtain ⟨c, h1, h2, h3⟩ := minK_le C c0
      refine ⟨c, ?_, ?_, fun y hy => ?_⟩
      · rcases List.mem_cons.mp h1 with rfl | h1
        · exact List.mem_cons_self
        · exact List.mem_cons_of_mem _ (List.mem_cons_of_mem _ h1)
      · rw [← h2]
        unfold minK
        rw [List.map_cons, List.foldl_cons, if_neg (by simp; omega)]
      · rcases List.mem_cons.mp hy with rfl | hy
        · exact h3 _ List.mem_cons_self
        · rcases List.mem_cons.mp hy with rfl | hy
          · have := h3 c0 List.mem_cons_self
            omega
          · exact h3 y (List.mem_cons_of_mem _ hy)
theorem minK_ok {C : List (List L)} (hC : C ≠ []) (h : ∀ c ∈ C, LOk c) {S : List D} {n : Nat} (hS : S[n]? = some (.lst (C.map fun c => D.tup (L.ds c)))) :
    ∃ c ∈ C, bMinK F_p_size [.loc n] S = .ok (.tup (L.ds c)) S ∧ ∀ y ∈ C, (L.ws c).length ≤ (L.ws y).length := by
  cases C with
  | nil => exact absurd rfl hC
  | cons c0 C =>
    obtain ⟨c, h1, h2, h3⟩ := minK_le C c0
    refine ⟨c, h1, ?_, h3⟩
    have e : lstAny S (.loc n) = some ((c0 :: C).map fun c => D.tup (L.ds c)) := by
      unfold lstAny
      simp only [hS]
    have e2 := keyF_map h
    simp only [List.map_cons] at e e2
    simp only [bMinK, e, e2, h2]
theorem cut_mid (xs : List D) {a b : Nat} (h : a ≤ b) (hb : b ≤ xs.length) : cutOf xs (some (a : Int)) (some (b : Int)) = (xs.drop a).take (b - a) := by
  have h1 : sIxOf xs.length 0 (some (a : Int)) = a := by
    unfold sIxOf
    simp only
    rw [if_neg (by omega)]
    have : ((a : Nat) : Int).toNat = a := by simp
    rw [this]
    omega
  have h2 : sIxOf xs.length xs.length (some (b : Int)) = b := by
    unfold sIxOf
    simp only
    rw [if_neg (by omega)]
    have : ((b : Nat) : Int).toNat = b := by simp
    rw [this]
    omega
  unfold cutOf
  rw [h1, h2]
theorem spn_dI (w : List Int) (a b : Nat) : (((dI w).drop a).take (b - a)) = dI (spn w a b) := by simp [dI, spn, List.map_take, List.map_drop]
theorem spn_len {w : List Int} {a b : Nat} (h : a ≤ b) (hb : b ≤ w.length) : (spn w a b).length = b - a := by
  unfold spn
  rw [List.length_take, List.length_drop]
  omega
theorem spn_take {w : List Int} {a e m : Nat} (h : m ≤ e - a) : (spn w a e).take m = spn w a (a + m) := by
  unfold spn
  rw [List.take_take]
  congr 1
  omega
theorem spn_drop {w : List Int} {a e m : Nat} : (spn w a e).drop m = spn w (a + m) e := by
  unfold spn
  rw [List.drop_take, List.drop_drop]
  congr 1
  omega
theorem o_mulTI {u : List Int} {t : Nat} (h1 : u ≠ []) (h2 : u.length ≤ 1000) (h3 : 1 ≤ t) (h4 : t ≤ 1000) (S : List D) : oMul (.tup (dI u)) (.int (t : Nat)) S = .ok (.tup (dI (repL t u))) S := by
  have e : oMul (.tup (dI u)) (.int (t : Nat)) S = if dI u ≠ [] ∧ 1 ≤ ((t : Nat) : Int) ∧ ((t : Nat) : Int) ≤ 1000 ∧ (dI u).length ≤ 1000 then .ok (.tup (List.replicate ((t : Nat) : Int).toNat (dI u)).flatten) S else .bad := rfl
  rw [e, if_pos ⟨by simpa [dI] using h1, by omega, by omega, by simpa [dI] using h2⟩]
  simp [repL, dI, List.map_flatten]
theorem okRn {i : Int} (h : -1000000 ≤ i) (h2 : i ≤ 1000000) : okR i = true := by
  unfold okR
  simp
  omega
theorem least_ok {w : List Int} {sp : List (Nat × Nat)} {cs : Nat → Nat → List L} {a e : Nat} (hw : ∀ v ∈ w, 0 ≤ v ∧ v < 8) (hl : w.length ≤ 24) (ha : a < e) (he : e ≤ w.length)
    (hsp : ∀ x y, a ≤ x → x < y → y ≤ e → y - x < e - a → (x, y) ∈ sp ∧ Best (spn w x y) (cs x y)) :
    ∃ c, Best (spn w a e) c ∧ F_p_least_code [.tup (dI w), .loc 0, .int (a : Nat), .int (e : Nat)] [codesD sp cs] = .ok (.tup (L.ds c)) [codesD sp cs] := by
  have fc := fl_codes sp cs
  by_cases h1 : e - a = 1
  · have h1' : ((e : Nat) : Int) - ((a : Nat) : Int) = 1 := by omega
    have hk : a < w.length := by omega
    have hb := hw _ (List.getElem_mem hk)
    refine ⟨[.b (ik w a)], ?_, ?_⟩
    · have hs : spn w a e = [ik w a] := by
        unfold spn
        rw [h1, List.drop_eq_getElem_cons hk]
        show [w[a]] = [ik w a]
        simp [ik, hk]
      rw [hs]
      have : ik w a = w[a] := by simp [ik, hk]
      exact best_one (by rw [this]; exact hb)
    · have hix : ∀ S, oIx (.tup (dI w)) (.int (a : Nat)) S = .ok (.int (ik w a)) S := fun S => by simp [at_dI hk]
      unfold F_p_least_code S_p_least_code
      rw [fn_ev 4 8 _ rfl]
      simp [h1', hix, L.ds, L.d, -o_ixT]
  · have h2 : 2 ≤ e - a := by omega
    have h1' : ¬ ((e : Nat) : Int) - ((a : Nat) : Int) = 1 := by omega
    have hlen : (spn w a e).length = e - a := spn_len (by omega) he
    obtain ⟨c1, hc1⟩ : ∃ c1 : Nat → List L, c1 = fun m => cs a (a + m) := ⟨_, rfl⟩
    obtain ⟨c2, hc2⟩ : ∃ c2 : Nat → List L, c2 = fun m => cs (a + m) e := ⟨_, rfl⟩
    have b1 : ∀ m, 1 ≤ m → m < (spn w a e).length → Best ((spn w a e).take m) (c1 m) := fun m m1 m2 => by
      rw [spn_take (by omega), hc1]
      exact (hsp a (a + m) (Nat.le_refl _) (by omega) (by omega) (by omega)).2
    have b2 : ∀ m, 1 ≤ m → m < (spn w a e).length → Best ((spn w a e).drop m) (c2 m) := fun m m1 m2 => by
      rw [spn_drop, hc2]
      exact (hsp (a + m) e (by omega) (by omega) (by omega) (by omega)).2
    have lk1 : ∀ m, 1 ≤ m → m < e - a → (cs a (a + m)).length ≤ 24 := fun m m1 m2 => by
      have q := (hsp a (a + m) (Nat.le_refl _) (by omega) (by omega) (by omega)).2
      have := len_le_us q.ok
      rw [q.us, spn_len (by omega) (by omega)] at this
      omega
    have lk2 : ∀ m, 1 ≤ m → m < e - a → (cs (a + m) e).length ≤ 24 := fun m m1 m2 => by
      have q := (hsp (a + m) e (by omega) (by omega) (by omega) (by omega)).2
      have := len_le_us q.ok
      rw [q.us, spn_len (by omega) (by omega)] at this
      omega
    have hC : ∀ c ∈ cands (spn w a e) c1 c2, LOk c := fun c hc => by
      have B : ∀ m, 1 ≤ m → m < (spn w a e).length → ((spn w a e).take m).length ≤ 24 ∧ ((spn w a e).drop m).length ≤ 24 := fun m _ _ => by
        rw [List.length_take, List.length_drop]; omega
      rcases List.mem_append.mp hc with hc | hc
      · obtain ⟨i, hi, rfl⟩ := List.mem_map.mp hc
        have hi' := List.mem_range.mp hi
        have k1 := b1 (i + 1) (by omega) (by omega)
        have k2 := b2 (i + 1) (by omega) (by omega)
        have q1 := k1.lok (by rw [List.length_take]; omega)
        have q2 := k2.lok (by rw [List.length_drop]; omega)
        refine ⟨(oks_app _ _).mpr ⟨q1.ok, q2.ok⟩, by rw [deps_app]; have := q1.dep; have := q2.dep; omega, ?_⟩
        rw [us_app, k1.us, k2.us, List.take_append_drop]
        omega
      · obtain ⟨i, hi, rfl⟩ := List.mem_map.mp hc
        obtain ⟨hi, hr⟩ := List.mem_filter.mp hi
        have hi' := List.mem_range.mp hi
        have hr' := of_decide_eq_true hr
        have k1 := b1 (i + 1) (by omega) (by omega)
        have d1 := k1.dep
        rw [List.length_take, Nat.min_eq_left (by omega)] at d1
        have ht : 2 ≤ (spn w a e).length / (i + 1) := (Nat.le_div_iff_mul_le (by omega)).mpr (by omega)
        have ht2 : (spn w a e).length / (i + 1) ≤ 24 := Nat.le_trans (Nat.div_le_self _ _) (by omega)
        refine ⟨⟨⟨ht, by omega, ?_, k1.ok⟩, trivial⟩, ?_, ?_⟩
        · rw [k1.us]
          intro z
          have := congrArg List.length z
          rw [List.length_take, List.length_nil] at this
          omega
        · show max (L.deps (c1 (i + 1)) + 1) 0 ≤ 7
          rcases Nat.lt_or_ge (L.deps (c1 (i + 1))) 5 with q | q
          · omega
          · have := Nat.pow_le_pow_right (n := 2) (by decide) q
            omega
        · rw [us_one, L.u, k1.us]
          have : (repL ((spn w a e).length / (i + 1)) ((spn w a e).take (i + 1))).length ≤ 2000 := by rw [hr', hlen]; omega
          exact this
    have hne : cands (spn w a e) c1 c2 ≠ [] := by
      intro z
      have := congrArg List.length z
      unfold cands at this
      rw [List.length_append, List.length_map, List.length_range, List.length_nil] at this
      omega
    obtain ⟨reps, hreps⟩ : ∃ reps : Nat → List (List L), reps = fun i => ((List.range i).filter fun i => decide (repL ((spn w a e).length / (i + 1)) ((spn w a e).take (i + 1)) = spn w a e)).map fun i => [L.r ((spn w a e).length / (i + 1)) (c1 (i + 1))] := ⟨_, rfl⟩
    obtain ⟨cuts, hcuts⟩ : ∃ cuts : List (List L), cuts = (List.range ((spn w a e).length - 1)).map fun i => c1 (i + 1) ++ c2 (i + 1) := ⟨_, rfl⟩
    have hcand : cands (spn w a e) c1 c2 = cuts ++ reps ((spn w a e).length / 2) := by rw [hreps, hcuts]; rfl
    obtain ⟨c, hc, hmin, hbest⟩ := minK_ok hne hC (S := [codesD sp cs, .lst ((cuts ++ reps ((spn w a e).length / 2)).map fun c => D.tup (L.ds c))]) (n := 1) (by rw [hcand]; rfl)
    refine ⟨c, best_step (by omega) (by omega) b1 b2 hc hbest, ?_⟩
    have e1 : lcS true (.rng ((a : Int) + 1) (e - (a + 1))) [7] (.nm 7) J.tYes V1_p_least_code [some (.tup (dI w)), some (.loc 0), some (.int (a : Nat)), some (.int (e : Nat)), none, none, none, none] [codesD sp cs]
        = .ok (.loc 1) [codesD sp cs, .lst (cuts.map fun c => D.tup (L.ds c))] := by
      rw [lc_eq (List.range (e - (a + 1))) (fun i : Nat => D.int ((a : Int) + 1 + (i : Nat))) (fun _ => true) (fun i => D.tup (L.ds (c1 (i + 1) ++ c2 (i + 1)))) (by simp [SL]; omega) (is_rng _ _ _) (fun i hi => ⟨_, rfl, rfl, fun _ => by
        have hi' := List.mem_range.mp hi
        obtain ⟨m, hm⟩ : ∃ m, m = a + (i + 1) := ⟨_, rfl⟩
        have hm' : (a : Int) + 1 + (i : Nat) = (m : Nat) := by omega
        have g1 := (hsp a m (Nat.le_refl _) (by omega) (by omega) (by omega)).1
        have g2 := (hsp m e (by omega) (by omega) (by omega) (by omega)).1
        have i1 := ix_codes (cs := cs) g1 []
        have i2 := ix_codes (cs := cs) g2 []
        have l1 := lk1 (i + 1) (by omega) (by omega)
        have l2 := lk2 (i + 1) (by omega) (by omega)
        have ad : oAdd (.tup (L.ds (cs a m))) (.tup (L.ds (cs m e))) [codesD sp cs] = .ok (.tup (L.ds (c1 (i + 1) ++ c2 (i + 1)))) [codesD sp cs] := by
          rw [o_addT (by rw [ds_map, ds_map]; simp only [List.length_map]; rw [hm]; unfold SL; omega), hc1, hc2]
          simp only
          rw [ds_map (_ ++ _), List.map_append, ← ds_map, ← ds_map, ← hm]
        unfold V1_p_least_code
        simp [hm', i1, i2, ad]⟩)]
      rw [hcuts]
      have : e - (a + 1) = (spn w a e).length - 1 := by omega
      rw [this, List.filter_eq_self.mpr (by simp), List.map_map]
      rfl
    obtain ⟨E', S', e2, x5, x6, x7, rfl, rfl⟩ := for_rng (lo := 1) (n := (spn w a e).length / 2) (t := Tg.nm 5) (b := B2_p_least_code) (E := [some (.tup (dI w)), some (.loc 0), some (.int (a : Nat)), some (.int (e : Nat)), some (.loc 1), none, none, none]) (S := [codesD sp cs, .lst (cuts.map fun c => D.tup (L.ds c))])
      (fun i E S => ∃ x5 x6 x7, E = [some (.tup (dI w)), some (.loc 0), some (.int (a : Nat)), some (.int (e : Nat)), some (.loc 1), x5, x6, x7] ∧ S = [codesD sp cs, .lst ((cuts ++ reps i).map fun c => D.tup (L.ds c))]) ⟨none, none, none, rfl, by rw [hreps]; simp⟩ (by
        rintro i E S hi ⟨x5, x6, x7, rfl, rfl⟩
        obtain ⟨p, hp⟩ : ∃ p, p = i + 1 := ⟨_, rfl⟩
        obtain ⟨t, ht⟩ : ∃ t, t = (spn w a e).length / p := ⟨_, rfl⟩
        have hp' : (1 : Int) + (i : Nat) = (p : Nat) := by omega
        have t1 : 1 ≤ t := by rw [ht]; exact (Nat.le_div_iff_mul_le (by omega)).mpr (by omega)
        have t2 : t ≤ 24 := by rw [ht]; exact Nat.le_trans (Nat.div_le_self _ _) (by omega)
        have hdiv : ∀ S, oDiv (.int (((e : Nat) : Int) - ((a : Nat) : Int))) (.int (p : Nat)) S = .ok (.int (t : Nat)) S := fun S => by
          rw [o_div (by simp [smallI]; omega) (by omega)]
          congr 2
          rw [ht, hlen, Int.natCast_ediv]
          congr 1
          omega
        have hcut1 : cutOf (dI w) (some (a : Int)) (some ((a : Int) + (p : Int))) = dI (spn w a (a + p)) := by
          have := cut_mid (dI w) (a := a) (b := a + p) (by omega) (by simp [dI]; omega)
          rw [spn_dI] at this
          exact this
        have hcut2 : cutOf (dI w) (some (a : Int)) (some (e : Int)) = dI (spn w a e) := by
          have := cut_mid (dI w) (a := a) (b := e) (by omega) (by simp [dI]; omega)
          rw [spn_dI] at this
          exact this
        have hul : (spn w a (a + p)).length = p := by rw [spn_len (by omega) (by omega)]; omega
        have hmul : ∀ S, oMul (.tup (dI (spn w a (a + p)))) (.int (t : Nat)) S = .ok (.tup (dI (repL t (spn w a (a + p))))) S := o_mulTI (by intro z; rw [z] at hul; simp at hul; omega) (by omega) t1 (by omega)
        have g1 := (hsp a (a + p) (Nat.le_refl _) (by omega) (by omega) (by omega)).1
        have i1 : ∀ S, oIxT (.loc 0) (.tup [.int (a : Nat), .int ((a : Int) + (p : Int))]) (codesD sp cs :: S) = .ok (.tup (L.ds (cs a (a + p)))) (codesD sp cs :: S) := ix_codes (cs := cs) g1
        have hrs : reps (i + 1) = reps i ++ if repL t (spn w a (a + p)) = spn w a e then [[L.r t (cs a (a + p))]] else [] := by
          rw [hreps]
          simp only
          rw [List.range_succ, List.filter_append, List.map_append]
          congr 1
          have hf : (decide (repL ((spn w a e).length / (i + 1)) ((spn w a e).take (i + 1)) = spn w a e)) = decide (repL t (spn w a (a + p)) = spn w a e) := by
            rw [← hp, ← ht, spn_take (by omega)]
          rw [List.filter_cons, List.filter_nil, hf]
          by_cases q : repL t (spn w a (a + p)) = spn w a e
          · rw [if_pos (by simp [q]), if_pos q, List.map_cons, List.map_nil, ← hp, ← ht, hc1]
          · rw [if_neg (by simp [q]), if_neg q, List.map_nil]
        have hln : (cuts ++ reps i).length < 1000 := by
          rw [hcuts, hreps, List.length_append, List.length_map, List.length_map, List.length_range]
          have := List.length_filter_le (fun i => decide (repL ((spn w a e).length / (i + 1)) ((spn w a e).take (i + 1)) = spn w a e)) (List.range i)
          rw [List.length_range] at this
          omega
        refine turn_nx (E1 := [some (.tup (dI w)), some (.loc 0), some (.int (a : Nat)), some (.int (e : Nat)), some (.loc 1), some (.int (p : Nat)), x6, x7]) (E2 := [some (.tup (dI w)), some (.loc 0), some (.int (a : Nat)), some (.int (e : Nat)), some (.loc 1), some (.int (p : Nat)), some (.int (t : Nat)), x7]) (S2 := [codesD sp cs, .lst ((cuts ++ reps (i + 1)).map fun c => D.tup (L.ds c))]) (by rw [hp']; rfl) ?_ rfl ⟨_, _, _, rfl, rfl⟩
        have hs : ((cuts ++ reps i).map fun c => D.tup (L.ds c)).length < SL := by rw [List.length_map]; unfold SL; omega
        rw [hrs, ← List.append_assoc, List.map_append (l₁ := cuts ++ reps i)]
        unfold B2_p_least_code
        generalize (cuts ++ reps i).map (fun c => D.tup (L.ds c)) = acc at hs ⊢
        by_cases q : repL t (spn w a (a + p)) = spn w a e
        · simp [hdiv, hcut1, hcut2, hmul, i1, q, hs, L.ds, L.d]
        · simp [hdiv, hcut1, hcut2, hmul, i1, q, hs])
    have hr1 : ∀ S, kRng3 (.int ((a : Int) + 1)) (.int (e : Int)) S = .ok (.rng ((a : Int) + 1) (e - (a + 1))) S := fun S => by
      rw [krng3 (okRn (by omega) (by omega)) (okRn (by omega) (by omega))]
      congr 2
      omega
    have hd2 : ∀ S, oDiv (.int (((e : Nat) : Int) - ((a : Nat) : Int))) (.int 2) S = .ok (.int (((spn w a e).length / 2 : Nat) : Int)) S := fun S => by
      rw [o_div (by simp [smallI]) (by omega)]
      congr 2
      rw [hlen, Int.natCast_ediv]
      congr 1
      omega
    obtain ⟨hf, hhf⟩ : ∃ hf, hf = (spn w a e).length / 2 := ⟨_, rfl⟩
    rw [← hhf] at hd2 e2 hmin
    have hr2 : ∀ S, kRng3 (.int 1) (.int ((hf : Int) + 1)) S = .ok (.rng 1 hf) S := fun S => by
      rw [krng3 (okRn (by omega) (by omega)) (okRn (by omega) (by omega))]
      congr 2
      omega
    generalize (cuts ++ reps hf).map (fun c => D.tup (L.ds c)) = FL at e2 hmin
    unfold F_p_least_code S_p_least_code
    rw [fn_ev 4 8 _ rfl]
    simp [h1', hr1, e1, hd2, hr2, e2, hmin]
structure FW (w : List Int) : Prop where
  b : ∀ v ∈ w, 0 ≤ v ∧ v < 8
  l : w.length ≤ 24
theorem check_ok {w : List Int} (h : FW w) : F_p_check_foldable [.tup (dI w)] [] = .ok .non [] := by
  have hl := h.l
  have hbx : ∀ v ∈ w, F_p_is_box [.int v, .int 8] [] = .ok (.bl true) [] := fun v hv => by
    have := h.b v hv
    rw [isbox_eq]
    simp
    omega
  have e1 : lcS false (.its (dI w)) [1] (.nm 1) J.tYes V1_p_check_foldable [some (.tup (dI w)), none] [] = .ok (.lst (w.map fun _ => D.bl true)) [] := by
    have := lc_eq (w := false) (src := .its (dI w)) (own := [1]) (t := .nm 1) (c := J.tYes) (e := V1_p_check_foldable) (E := [some (.tup (dI w)), none]) (S := []) w D.int (fun _ => true) (fun _ => D.bl true) (by simp [SL]; omega) (is_its _ _) (fun v hv => ⟨_, rfl, rfl, fun _ => by
      unfold V1_p_check_foldable
      simp [hbx v hv]⟩)
    rw [this, List.filter_eq_self.mpr (by simp)]
    simp
  have e2 : ∀ S, bAll [.lst (w.map fun _ => D.bl true)] S = .ok (.bl true) S := fun S => by
    have e3 : ∀ u : List Int, scals (u.map fun _ => D.bl true) = some (u.map fun _ => true) := fun u => by
      induction u with
      | nil => rfl
      | cons x u ih => rw [List.map_cons, List.map_cons]; unfold scals; simp [ih, scal]
    have e4 : bAll [.lst (w.map fun _ => D.bl true)] S = (match scals (w.map fun _ => D.bl true) with | some bs => .ok (.bl (bs.all id)) S | none => .bad) := rfl
    rw [e4, e3]
    simp
  have h24 : ¬ (24 : Int) < (w.length : Int) := by omega
  unfold F_p_check_foldable S_p_check_foldable
  rw [fn_ev 1 2 _ rfl]
  have hdl : (dI w).length = w.length := by simp [dI]
  simp [isi_tup, b3, e1, e2, h24, hdl]
structure CInv (w : List Int) (l f : Nat) (sp : List (Nat × Nat)) (cs : Nat → Nat → List L) : Prop where
  m : ∀ a b, (a, b) ∈ sp ↔ (a = 0 ∧ b = 0) ∨ (a < b ∧ b ≤ w.length ∧ (b - a < l ∨ (b - a = l ∧ a < f)))
  g : ∀ a b, (a, b) ∈ sp → Best (spn w a b) (cs a b)
  n : sp.length ≤ 1 + (l - 1) * 24 + f
theorem cinv_start (w : List Int) : CInv w 1 0 [(0, 0)] (fun _ _ => []) := by
  refine ⟨fun a b => ?_, fun a b h => ?_, by simp⟩
  · simp
    omega
  · simp at h
    obtain ⟨rfl, rfl⟩ := h
    simp [spn]
    exact best_nil
theorem cinv_put {w : List Int} {l f : Nat} {sp : List (Nat × Nat)} {cs : Nat → Nat → List L} (h : CInv w l f sp cs) (hl : 1 ≤ l) (hf : f + l ≤ w.length) {c : List L} (hc : Best (spn w f (f + l)) c) :
    (f, f + l) ∉ sp ∧ CInv w l (f + 1) (sp ++ [(f, f + l)]) (upd2 cs f (f + l) c) := by
  have hn : (f, f + l) ∉ sp := fun z => by
    have := (h.m f (f + l)).mp z
    omega
  refine ⟨hn, fun a b => ?_, fun a b hm => ?_, by have := h.n; simp; omega⟩
  · rw [List.mem_append, h.m a b]
    simp
    omega
  · unfold upd2
    by_cases q : a = f ∧ b = f + l
    · rw [if_pos q]
      obtain ⟨rfl, rfl⟩ := q
      exact hc
    · rw [if_neg q]
      refine h.g a b ((List.mem_append.mp hm).resolve_right fun z => ?_)
      simp at z
      exact q z
theorem cinv_next {w : List Int} {l f : Nat} {sp : List (Nat × Nat)} {cs : Nat → Nat → List L} (h : CInv w l f sp cs) (hl : 1 ≤ l) (hw : w.length ≤ 24) (hf : f = w.length - l + 1) (hlw : l ≤ w.length) : CInv w (l + 1) 0 sp cs := by
  refine ⟨fun a b => ?_, h.g, by have := h.n; obtain ⟨k, rfl⟩ : ∃ k, l = k + 1 := ⟨l - 1, by omega⟩; simp only [Nat.add_sub_cancel] at this ⊢; omega⟩
  rw [h.m a b]
  omega
theorem folded_ok {w : List Int} (h : FW w) : ∃ c, Best w c ∧ F_p_folded [.tup (dI w)] [] = .ok (.tup (L.ds c)) [] := by
  have hl := h.l
  have e0 : ∀ (E : Env) (S : List D), eDisp1TL (eArgs bTup (aCons (eC (.int 0)) (aCons (eC (.int 0)) aNil))) (eArgs bTup aNil) E S = .ok (.loc S.length) (S ++ [codesD [(0, 0)] fun _ _ => []]) := fun _ _ => rfl
  obtain ⟨E', S', e1, x2, x3, sp, cs, rfl, rfl, hI⟩ := for_rng (lo := 1) (n := w.length) (t := Tg.nm 2) (b := B2_p_folded) (E := [some (.tup (dI w)), some (.loc 0), none, none]) (S := [codesD [(0, 0)] fun _ _ => []])
    (fun i E S => ∃ x2 x3 sp cs, E = [some (.tup (dI w)), some (.loc 0), x2, x3] ∧ S = [codesD sp cs] ∧ CInv w (i + 1) 0 sp cs) ⟨none, none, _, _, rfl, rfl, cinv_start w⟩ (by
      rintro i E S hi ⟨x2, x3, sp, cs, rfl, rfl, hI⟩
      obtain ⟨l, hll⟩ : ∃ l, l = i + 1 := ⟨_, rfl⟩
      have hl' : (1 : Int) + (i : Nat) = (l : Nat) := by omega
      rw [← hll] at hI
      obtain ⟨E2, S2, e2, y3, sp2, cs2, rfl, rfl, hI2⟩ := for_rng (lo := 0) (n := w.length - l + 1) (t := Tg.nm 3) (b := B1_p_folded) (E := [some (.tup (dI w)), some (.loc 0), some (.int (l : Nat)), x3]) (S := [codesD sp cs])
        (fun j E S => ∃ y3 sp cs, E = [some (.tup (dI w)), some (.loc 0), some (.int (l : Nat)), y3] ∧ S = [codesD sp cs] ∧ CInv w l j sp cs) ⟨x3, _, _, rfl, rfl, hI⟩ (by
          rintro j E S hj ⟨y3, sp, cs, rfl, rfl, hI⟩
          obtain ⟨c, hb, hc⟩ := least_ok (w := w) (sp := sp) (cs := cs) (a := j) (e := j + l) h.b hl (by omega) (by omega) (fun x y h1 h2 h3 h4 => by
            have m := (hI.m x y).mpr (by omega)
            exact ⟨m, hI.g x y m⟩)
          obtain ⟨hn, hI2⟩ := cinv_put hI (by omega) (by omega) hb
          have hsl : sp.length < 1000 := by
            have := hI.n
            have q : (l - 1) * 24 ≤ 24 * 24 := Nat.mul_le_mul_right _ (by omega)
            omega
          have hp := put_codes (cs := cs) hn hsl c []
          have hcall : callF F_p_least_code [.tup (dI w), .loc 0, .int (j : Nat), .int ((j : Int) + (l : Int))] [codesD sp cs] = .ok (.tup (L.ds c)) [codesD sp cs] := by
            rw [call2 (s := codesD sp cs) _ (by simp [D.flat]) rfl (fl_codes _ _) rfl]
            have hc' : F_p_least_code [.tup (dI w), .loc 0, .int (j : Nat), .int ((j : Int) + (l : Int))] [codesD sp cs] = .ok (.tup (L.ds c)) [codesD sp cs] := hc
            rw [hc', kc1 (fl_tds c) (fl_codes sp cs)]
            rfl
          have hp' : putAt (.loc 0) (.tup [.int (j : Nat), .int ((j : Int) + (l : Int))]) (.tup (L.ds c)) [codesD sp cs] = some [codesD (sp ++ [(j, j + l)]) (upd2 cs j (j + l) c)] := hp
          refine turn_nx (E1 := [some (.tup (dI w)), some (.loc 0), some (.int (l : Nat)), some (.int (j : Nat))]) (E2 := [some (.tup (dI w)), some (.loc 0), some (.int (l : Nat)), some (.int (j : Nat))]) (S2 := [codesD (sp ++ [(j, j + l)]) (upd2 cs j (j + l) c)]) (by rw [Int.zero_add]; rfl) ?_ rfl ⟨_, _, _, rfl, rfl, hI2⟩
          unfold B1_p_folded
          simp [hcall, hp', -call2])
      refine turn_nx (E1 := [some (.tup (dI w)), some (.loc 0), some (.int (l : Nat)), x3]) (E2 := [some (.tup (dI w)), some (.loc 0), some (.int (l : Nat)), y3]) (S2 := [codesD sp2 cs2]) (by rw [hl']; rfl) ?_ rfl ⟨_, _, _, _, rfl, rfl, by have := cinv_next hI2 (by omega) hl rfl (by omega); rw [hll] at this; exact this⟩
      have hr : ∀ S, kRng1 (.int (((dI w).length : Int) - (l : Int) + 1)) S = .ok (.rng 0 (w.length - l + 1)) S := fun S => by
        rw [krng1 (by simp [dI]; omega) (by simp [dI]; omega)]
        congr 2
        simp [dI]
        omega
      unfold B2_p_folded
      simp [hr, e2])
  have m := (hI.m 0 w.length).mpr (by omega)
  have hb := hI.g 0 w.length m
  have hs : spn w 0 w.length = w := by simp [spn]
  rw [hs] at hb
  refine ⟨cs 0 w.length, hb, ?_⟩
  have hix : oIxT (.loc 0) (.tup [.int 0, .int (w.length : Int)]) [codesD sp cs] = .ok (.tup (L.ds (cs 0 w.length))) [codesD sp cs] := ix_codes m []
  have hr : ∀ S, kRng3 (.int 1) (.int ((w.length : Int) + 1)) S = .ok (.rng 1 w.length) S := fun S => by
    rw [krng3 (okRn (by omega) (by omega)) (okRn (by omega) (by omega))]
    congr 2
    omega
  have hdl : (dI w).length = w.length := by simp [dI]
  have hck := check_ok h
  unfold F_p_folded S_p_folded
  rw [fn_ev 1 4 _ rfl]
  simp [hck, e0, hdl, hr, e1, hix]
@[simp] theorem o_neTI (xs ys : List Int) (S : List D) : oNe (.tup (dI xs)) (.tup (dI ys)) S = .ok (.bl (!decide (xs = ys))) S := by
  rw [o_ne (x := .tup (dI xs)) (y := .tup (dI ys)) (cmp_tI xs) (cmp_tI ys)]
  simp only [seen]
  rw [show D.eqB (.tup (dI xs)) (.tup (dI ys)) = D.eqBs (dI xs) (dI ys) from rfl, eqBs_dI]
theorem foldsize_ok {w : List Int} (h : FW w) : F_p_fold_size [.tup (dI w)] [] = .ok (.int (fw w : Nat)) [] := by
  obtain ⟨c, hb, hf⟩ := folded_ok h
  unfold F_p_fold_size S_p_fold_size
  rw [fn_ev 1 1 _ rfl]
  simp [hf, size_ok (hb.lok h.l), hb.sz]
theorem shows_ok {w : List Int} (h : FW w) {c : List L} (hb : Best w c) : F_p_shows_fold [.tup (dI w), .tup (L.ds c)] [] = .ok (.bl true) [] := by
  have h1 := foldsize_ok h
  have h2 := unrolled_ok (hb.lok h.l)
  rw [hb.us] at h2
  have h3 := size_ok (hb.lok h.l)
  rw [hb.sz] at h3
  unfold F_p_shows_fold S_p_shows_fold
  rw [fn_ev 2 4 _ rfl]
  simp [h1, h2, h3, sTry]
def ky (w : List Int) : List Ky := w.map Sum.inl
def memoD (kws : List (List Int)) : D := .dcT (kws.map ky) (kws.map fun w => .int (fw w : Nat))
@[simp] theorem fl_memo (kws : List (List Int)) : D.flat (memoD kws) = true := by
  show D.flats (kws.map fun w => D.int (fw w : Nat)) = true
  exact flats_map (fun w => D.int (fw w : Nat)) (fun p => rfl) _
def Inf (w0 u : List Int) : Prop := ∃ a b, a ≤ 12 ∧ b ≤ 12 ∧ u = (w0.drop a).take b
def infs (w0 : List Int) : List (List Int) := (List.range 13).flatMap fun a => (List.range 13).map fun b => (w0.drop a).take b
structure MI (w0 : List Int) (kws : List (List Int)) : Prop where
  nd : kws.Nodup
  inf : ∀ u ∈ kws, Inf w0 u
theorem nd_len {α : Type} [BEq α] [LawfulBEq α] : ∀ {xs ys : List α}, xs.Nodup → (∀ x ∈ xs, x ∈ ys) → xs.length ≤ ys.length
  | [], _, _, _ => Nat.zero_le _
  | x :: xs, ys, h, hs => by
    obtain ⟨h1, h2⟩ := List.nodup_cons.mp h
    have hm := hs x List.mem_cons_self
    have := nd_len (xs := xs) (ys := ys.erase x) h2 fun z hz => (List.mem_erase_of_ne fun e => h1 (by rw [← e]; exact hz)).mpr (hs z (List.mem_cons_of_mem _ hz))
    rw [List.length_erase_of_mem hm] at this
    have := List.length_pos_of_mem hm
    rw [List.length_cons]
    omega
theorem MI.len {w0 : List Int} {kws : List (List Int)} (h : MI w0 kws) : kws.length ≤ 169 := by
  have := nd_len (ys := infs w0) h.nd fun u hu => by
    obtain ⟨a, b, h1, h2, e⟩ := h.inf u hu
    exact List.mem_flatMap.mpr ⟨a, List.mem_range.mpr (by omega), List.mem_map.mpr ⟨b, List.mem_range.mpr (by omega), e.symm⟩⟩
  have e : (infs w0).length = 169 := by
    simp only [infs, List.length_flatMap, List.length_map, List.length_range]
    decide
  omega
theorem Inf.take {w0 u : List Int} (h : Inf w0 u) (m : Nat) : Inf w0 (u.take m) := by
  obtain ⟨a, b, h1, h2, rfl⟩ := h
  exact ⟨a, min m b, h1, by omega, by rw [List.take_take]⟩
theorem Inf.drop {w0 u : List Int} (h : Inf w0 u) (hl : w0.length ≤ 12) {m : Nat} (hm : m < u.length) : Inf w0 (u.drop m) := by
  obtain ⟨a, b, h1, h2, rfl⟩ := h
  rw [List.length_take, List.length_drop] at hm
  exact ⟨a + m, b - m, by omega, by omega, by rw [List.drop_take, List.drop_drop]⟩
theorem lunr_ok : ∀ (k : Nat) (xs : List L), L.deps xs < k → L.oks xs → (L.us xs).length ≤ 2000 → F_p_law_unrolled k [.tup (L.ds xs)] [] = .ok (.tup (dI (L.us xs))) []
  | 0, _, h, _, _ => by omega
  | k + 1, xs, hd, ho, hl => by
    unfold F_p_law_unrolled S_p_law_unrolled
    rw [fn_ev 1 4 _ rfl]
    obtain ⟨E', S', e, x2, x3, rfl, rfl⟩ := for_its xs L.d (t := Tg.nm 2) (b := B2_p_law_unrolled (F_p_law_unrolled k)) (E := [some (.tup (L.ds xs)), some (.tup []), none, none]) (S := [])
      (fun i E S => ∃ x2 x3, E = [some (.tup (L.ds xs)), some (.tup (dI (L.us (xs.take i)))), x2, x3] ∧ S = []) ⟨none, none, rfl, rfl⟩ (by
        rintro i E S hi ⟨x2, x3, rfl, rfl⟩
        have hle := us_take_le xs (i + 1)
        rw [us_take hi, List.length_append] at hle
        have hm : xs[i] ∈ xs := List.getElem_mem hi
        have ok := oks_mem ho hm
        have dp := deps_mem hm
        cases hx : xs[i] with
        | b n =>
          rw [hx] at hle
          refine turn_nx (E2 := [some (.tup (L.ds xs)), some (.tup (dI (L.us (xs.take (i + 1))))), some (L.d xs[i]), x3]) (S2 := []) (by rw [← hx]; rfl) ?_ rfl ⟨_, _, rfl, rfl⟩
          rw [us_take hi, ← dI_app, hx]
          have hs : (dI (L.us (xs.take i))).length + 1 ≤ SL := by simp [dI, SL]; simp [L.u] at hle; omega
          have ha : ∀ S, oAdd (.tup (dI (L.us (xs.take i)))) (.tup [.int n]) S = .ok (.tup (dI (L.us (xs.take i)) ++ dI [n])) S := fun S => o_addT hs
          have e0 : ∀ (E : Env), forS (.rng 0 0) (.nm 3) (B1_p_law_unrolled (F_p_law_unrolled k)) E [] = .nx E [] := fun E => rfl
          have hr : ∀ S, kRng1 (.int 0) S = .ok (.rng 0 0) S := fun S => krng1n (j := 0) (by omega)
          unfold B2_p_law_unrolled
          show _ = O.nx [_, _, some (.int n), _] _
          simp [L.d, isi_int, bti, hr, e0, ha, L.u]
        | r t ys =>
          rw [hx] at hle ok dp
          rw [L.ok] at ok
          rw [L.dep] at dp
          rw [L.u] at hle
          have e1 : ((List.replicate t (L.us ys)).flatten).length = t * (L.us ys).length := by simp
          rw [e1] at hle
          have : 1 * (L.us ys).length ≤ t * (L.us ys).length := Nat.mul_le_mul_right _ (by omega)
          have ih := lunr_ok k ys (by omega) ok.2.2.2 (by omega)
          have hix : ∀ S, oIx (.tup [.int (t : Nat), .tup (L.ds ys)]) (.int 0) S = .ok (.int (t : Nat)) S := fun _ => rfl
          have hix1 : ∀ S, oIx (.tup [.int (t : Nat), .tup (L.ds ys)]) (.int 1) S = .ok (.tup (L.ds ys)) S := fun _ => rfl
          obtain ⟨E2, S2, e2, y3, rfl, rfl⟩ := for_rng (lo := 0) (n := t) (t := Tg.nm 3) (b := B1_p_law_unrolled (F_p_law_unrolled k)) (E := [some (.tup (L.ds xs)), some (.tup (dI (L.us (xs.take i)))), some (.tup [.int (t : Nat), .tup (L.ds ys)]), x3]) (S := [])
            (fun j E S => ∃ y3, E = [some (.tup (L.ds xs)), some (.tup (dI (L.us (xs.take i) ++ repL j (L.us ys)))), some (.tup [.int (t : Nat), .tup (L.ds ys)]), y3] ∧ S = []) ⟨x3, by simp [repL], rfl⟩ (by
              rintro j E S hj ⟨y3, rfl, rfl⟩
              refine turn_nx (E2 := [some (.tup (L.ds xs)), some (.tup (dI (L.us (xs.take i) ++ repL (j + 1) (L.us ys)))), some (.tup [.int (t : Nat), .tup (L.ds ys)]), some (.int (0 + (j : Nat)))]) (S2 := []) rfl ?_ rfl ⟨_, rfl, rfl⟩
              have hj2 : (j + 1) * (L.us ys).length ≤ t * (L.us ys).length := Nat.mul_le_mul_right _ (by omega)
              rw [Nat.succ_mul] at hj2
              have hrl := repL_len j (L.us ys)
              have ha : ∀ S, oAdd (.tup (dI (L.us (xs.take i) ++ repL j (L.us ys)))) (.tup (dI (L.us ys))) S = .ok (.tup (dI (L.us (xs.take i) ++ repL (j + 1) (L.us ys)))) S := fun S => by
                rw [o_addT (by simp only [dI, List.length_map, List.length_append, SL]; omega), dI_app, List.append_assoc]
                congr 4
                unfold repL
                rw [List.replicate_succ', List.flatten_append]
                simp
              unfold B1_p_law_unrolled
              simp [hix1, ih, ha, -o_ixT])
          refine turn_nx (E2 := [some (.tup (L.ds xs)), some (.tup (dI (L.us (xs.take (i + 1))))), some (L.d xs[i]), y3]) (S2 := []) (by rw [← hx]; rfl) ?_ rfl ⟨_, _, rfl, rfl⟩
          rw [us_take hi, hx]
          have ha : ∀ S, oAdd (.tup (dI (L.us (xs.take i) ++ repL t (L.us ys)))) (.tup []) S = .ok (.tup (dI (L.us (xs.take i) ++ repL t (L.us ys)))) S := fun S => by
            have hrl := repL_len t (L.us ys)
            rw [o_addT (by simp only [dI, List.length_map, List.length_append, SL, List.length_nil]; omega), List.append_nil]
          have hr : ∀ S, kRng1 (.int (t : Nat)) S = .ok (.rng 0 t) S := fun S => krng1n (by omega)
          unfold B2_p_law_unrolled
          show _ = O.nx [_, some (.tup (dI (L.us (xs.take i) ++ repL t (L.us ys)))), some (.tup [.int (t : Nat), .tup (L.ds ys)]), _] _
          simp [L.d, isi_tup, b3, hix, hr, e2, ha, -o_ixT])
    rw [← ds_map] at e
    have e2 : forS (.its (L.ds xs)) (.nm 2) (B2_p_law_unrolled (F_p_law_unrolled k)) [some (.tup (L.ds xs)), some (.tup []), none, none] [] = _ := e
    simp [e2]
theorem cmp_ds : ∀ (k : Nat) (xs : List L), L.deps xs ≤ k → D.cmpbs (L.ds xs) = true ∧ D.depths (L.ds xs) ≤ 2 * k := by
  intro k
  induction k with
  | zero =>
    intro xs
    induction xs with
    | nil => intro _; exact ⟨rfl, by simp [L.ds, D.depths]⟩
    | cons x xs ih =>
      intro h
      rw [L.deps] at h
      obtain ⟨a, b⟩ := ih (by omega)
      cases x with
      | b n => exact ⟨by simp [L.ds, L.d, D.cmpbs, D.cmpb, a], by simp [L.ds, L.d, D.depths, D.depth]; omega⟩
      | r t ys => rw [L.dep] at h; omega
  | succ k IH =>
    intro xs
    induction xs with
    | nil => intro _; exact ⟨rfl, by simp [L.ds, D.depths]⟩
    | cons x xs ih =>
      intro h
      rw [L.deps] at h
      obtain ⟨a, b⟩ := ih (by omega)
      cases x with
      | b n => exact ⟨by simp [L.ds, L.d, D.cmpbs, D.cmpb, a], by simp [L.ds, L.d, D.depths, D.depth]; omega⟩
      | r t ys =>
        rw [L.dep] at h
        obtain ⟨a2, b2⟩ := IH ys (by omega)
        exact ⟨by simp [L.ds, L.d, D.cmpbs, D.cmpb, a, a2], by simp [L.ds, L.d, D.depths, D.depth]; omega⟩
theorem cmp_tds {xs : List L} (h : L.deps xs ≤ 20) : cmpOk (.tup (L.ds xs)) = true := by
  obtain ⟨a, b⟩ := cmp_ds 20 xs h
  show (D.cmpbs (L.ds xs) && decide (D.depths (L.ds xs) + 1 ≤ 64)) = true
  rw [a]
  simp
  omega
theorem ne_nil {xs : List L} (h : L.deps xs ≤ 20) (S : List D) : oNe (.tup (L.ds xs)) (.tup []) S = .ok (.bl (!xs.isEmpty)) S := by
  rw [o_ne (x := .tup (L.ds xs)) (y := .tup []) (cmp_tds h) rfl]
  simp only [seen]
  cases xs <;> rfl
theorem us_ne {xs : List L} (h : L.oks xs) (hn : xs ≠ []) : L.us xs ≠ [] := fun z => by
  have := len_le_us h
  rw [z] at this
  cases xs with
  | nil => exact hn rfl
  | cons x xs => simp at this
theorem lturn_ok {d k : Nat} (ih : 0 < d → ∀ r : Row, 0 ≤ r.pos → ∃ c r', F_p_law_loop k [.loc 0, .int ((d - 1 : Nat) : Int), .int 3] [encRow r] = .ok (.tup (L.ds c)) [encRow r'] ∧ 0 ≤ r'.pos ∧ L.oks c ∧ L.deps c ≤ d - 1 ∧ (L.us c).length ≤ 3 * 12 ^ (d - 1)) (hd : d ≤ 4)
    (r : Row) (hp : 0 ≤ r.pos) (xs : List L) (hl : xs.length ≤ 10) (x4 x5 : Option D) : ∃ x r' y5, B1_p_law_loop (F_p_law_loop k) [some (.loc 0), some (.int (d : Nat)), some (.int 3), some (.tup (L.ds xs)), x4, x5] [encRow r] = .nx [some (.loc 0), some (.int (d : Nat)), some (.int 3), some (.tup (L.ds (xs ++ [x]))), x4, y5] [encRow r'] ∧ 0 ≤ r'.pos ∧ x.ok ∧ x.dep ≤ d ∧ x.u.length ≤ 12 ^ d := by
  have hln : ∀ y : D, (L.ds xs).length + [y].length ≤ SL := fun y => by rw [ds_map]; simp [SL]; omega
  have ha : ∀ (x : L) S, oAdd (.tup (L.ds xs)) (.tup [x.d]) S = .ok (.tup (L.ds (xs ++ [x]))) S := fun x S => by
    rw [o_addT (hln _), ds_map (xs ++ [x]), List.map_append, ← ds_map]
    rfl
  have hpw : 1 ≤ 12 ^ d := Nat.pow_pos (by decide)
  -- the box that is drawn without a body
  have box : ∀ r1 : Row, 0 ≤ r1.pos → ∃ v r2, F_p_law_taken [.loc 0, .int 4] [encRow r1] = .ok (.int (v : Nat)) [encRow r2] ∧ v < 4 ∧ 0 ≤ r2.pos := fun r1 h1 => takenN r1 4 h1 (by omega) (by omega)
  have h3 : ∀ r1 : Row, 0 ≤ r1.pos → ∃ v r2, F_p_law_taken [.loc 0, .int 3] [encRow r1] = .ok (.int (v : Nat)) [encRow r2] ∧ v < 3 ∧ 0 ≤ r2.pos := fun r1 h1 => takenN r1 3 h1 (by omega) (by omega)
  have nn : ∀ S, oNe (.tup []) (.tup []) S = .ok (.bl false) S := fun S => ne_nil (xs := []) (by simp [L.deps]) S
  by_cases h0 : d = 0
  · subst h0
    obtain ⟨v, r2, e, hv, p2⟩ := box r hp
    refine ⟨.b (v : Nat), r2, some (.tup []), ?_, p2, ⟨by omega, by omega⟩, by simp [L.dep], by simp [L.u]⟩
    have ha' := ha (.b (v : Nat))
    rw [L.d] at ha'
    unfold B1_p_law_loop
    simp [e, nn, ha']
  · have hd0 : (0 : Int) < (d : Int) := by omega
    have hd1 : 0 < d := by omega
    obtain ⟨v1, r1, e1, hv1, p1⟩ := h3 r hp
    by_cases hv : v1 = 0
    · subst hv
      obtain ⟨c, r2, e2, p2, ok, dp, ul⟩ := ih (by omega) r1 p1
      have e2' : F_p_law_loop k [.loc 0, .int ((d : Int) - 1), .int 3] [encRow r1] = .ok (.tup (L.ds c)) [encRow r2] := by
        rw [← e2]
        congr 4
        omega
      have hne := ne_nil (xs := c) (by omega)
      by_cases hc : c = []
      · subst hc
        obtain ⟨v, r3, e3, hv3, p3⟩ := box r2 p2
        refine ⟨.b (v : Nat), r3, some (.tup []), ?_, p3, ⟨by omega, by omega⟩, by simp [L.dep], by simp [L.u]; omega⟩
        have ha' := ha (.b (v : Nat))
        rw [L.d] at ha'
        rw [L.ds] at e2'
        unfold B1_p_law_loop
        simp [e1, hd0, hd1, e2', e3, nn, ha']
      · obtain ⟨v, r3, e3, hv3, p3⟩ := h3 r2 p2
        refine ⟨.r (2 + v) c, r3, some (.tup (L.ds c)), ?_, p3, ⟨by omega, by omega, us_ne ok hc, ok⟩, by rw [L.dep]; omega, ?_⟩
        · have ha' := ha (.r (2 + v) c)
          rw [L.d] at ha'
          have ha2 : ∀ S, oAdd (.tup (L.ds xs)) (.tup [.tup [.int (2 + (v : Int)), .tup (L.ds c)]]) S = .ok (.tup (L.ds (xs ++ [.r (2 + v) c]))) S := ha'
          have hce : c.isEmpty = false := by cases c; exact absurd rfl hc; rfl
          rw [hce] at hne
          unfold B1_p_law_loop
          simp [e1, hd0, hd1, e2', e3, hne, ha2]
        · rw [L.u]
          have e5 : ((List.replicate (2 + v) (L.us c)).flatten).length = (2 + v) * (L.us c).length := by simp
          rw [e5]
          obtain ⟨d', rfl⟩ : ∃ d', d = d' + 1 := ⟨d - 1, by omega⟩
          rw [Nat.add_sub_cancel] at ul
          rw [Nat.pow_succ]
          have : (2 + v) * (L.us c).length ≤ 4 * (3 * 12 ^ d') := Nat.mul_le_mul (by omega) ul
          omega
    · obtain ⟨v, r3, e3, hv3, p3⟩ := box r1 p1
      refine ⟨.b (v : Nat), r3, some (.tup []), ?_, p3, ⟨by omega, by omega⟩, by simp [L.dep], by simp [L.u]; omega⟩
      have ha' := ha (.b (v : Nat))
      rw [L.d] at ha'
      have hvi : ¬ (v1 : Int) = 0 := by omega
      unfold B1_p_law_loop
      simp [e1, hd0, hd1, hv, e3, nn, ha']
theorem lloop_ok : ∀ (d k : Nat) (r : Row), d < k → d ≤ 4 → 0 ≤ r.pos → ∃ c r', F_p_law_loop k [.loc 0, .int (d : Nat), .int 3] [encRow r] = .ok (.tup (L.ds c)) [encRow r'] ∧ 0 ≤ r'.pos ∧ L.oks c ∧ L.deps c ≤ d ∧ (L.us c).length ≤ 3 * 12 ^ d
  | d, 0, _, h, _, _ => by omega
  | d, k + 1, r, hk, hd, hp => by
    obtain ⟨n, r1, e1, hn, p1⟩ := takenN r 4 hp (by omega) (by omega)
    have e1' : F_p_law_taken [.loc 0, .int 4] [encRow r] = .ok (.int (n : Nat)) [encRow r1] := e1
    obtain ⟨E', S', e2, c, r2, x4, x5, rfl, rfl, p2, ok, dp, ul, hcl⟩ := for_rng (lo := 0) (n := n) (t := Tg.nm 4) (b := B1_p_law_loop (F_p_law_loop k)) (E := [some (.loc 0), some (.int (d : Nat)), some (.int 3), some (.tup []), none, none]) (S := [encRow r1])
      (fun i E S => ∃ c r2 x4 x5, E = [some (.loc 0), some (.int (d : Nat)), some (.int 3), some (.tup (L.ds c)), x4, x5] ∧ S = [encRow r2] ∧ 0 ≤ r2.pos ∧ L.oks c ∧ L.deps c ≤ d ∧ (L.us c).length ≤ i * 12 ^ d ∧ c.length = i) ⟨[], r1, none, none, rfl, rfl, p1, trivial, by simp [L.deps], by simp [L.us], rfl⟩ (by
        rintro i E S hi ⟨c, r2, x4, x5, rfl, rfl, p2, ok, dp, ul, hcl⟩
        obtain ⟨x, r3, y5, e3, p3, xok, xdp, xul⟩ := lturn_ok (d := d) (k := k) (fun h0 r hr => lloop_ok (d - 1) k r (by omega) (by omega) hr) hd r2 p2 c (by omega) (some (.int (0 + (i : Nat)))) x5
        refine turn_nx rfl e3 rfl ⟨c ++ [x], r3, _, _, rfl, rfl, p3, (oks_app _ _).mpr ⟨ok, xok, trivial⟩, ?_, ?_, by simp [hcl]⟩
        · rw [deps_app]; simp [L.deps]; omega
        · rw [us_app, List.length_append, us_one, Nat.succ_mul]; omega)
    refine ⟨c, r2, ?_, p2, ok, dp, ?_⟩
    · have hr : ∀ S, kRng1 (.int (n : Nat)) S = .ok (.rng 0 n) S := fun S => krng1n (by omega)
      unfold F_p_law_loop S_p_law_loop
      rw [fn_ev 3 6 _ rfl]
      simp [e1', hr, e2]
    · have : n * 12 ^ d ≤ 3 * 12 ^ d := Nat.mul_le_mul_right _ (by omega)
      omega
theorem oks_us : ∀ (k : Nat) (xs : List L), L.deps xs < k → L.oks xs → ∀ v ∈ L.us xs, 0 ≤ v ∧ v < 8
  | 0, _, h, _ => by omega
  | k + 1, xs, hd, ho => by
    induction xs with
    | nil => intro v h; simp [L.us] at h
    | cons x xs ih =>
      intro v hv
      rw [L.deps] at hd
      rw [L.oks] at ho
      rw [L.us] at hv
      rcases List.mem_append.mp hv with hv | hv
      · cases x with
        | b n => rw [L.u] at hv; rw [L.ok] at ho; rw [List.mem_singleton.mp hv]; exact ho.1
        | r t ys =>
          rw [L.u] at hv
          rw [L.ok] at ho
          rw [L.dep] at hd
          obtain ⟨l, hl, hv⟩ := List.mem_flatten.mp hv
          rw [(List.mem_replicate.mp hl).2] at hv
          exact oks_us k ys (by omega) ho.1.2.2.2 v hv
      · exact ih (by omega) ho.2 v hv
abbrev oG := Option D
theorem retF1 {a : D} {xs : List D} (ha : a.flat = true) (h : D.flats xs = true) : retF 1 (.loc 1) [a, .lst xs] = .ok (.lst xs) [a] := by
  unfold retF
  rw [if_pos ⟨by simp, by simp [ha]⟩]
  have : fz 1 [a, .lst xs] 8 (.loc 1) = some (.lst xs) := by
    rw [fz]
    simp
    rw [mapM_flat0 1 6 [a, .lst xs] xs h]
  rw [this]
  rfl
theorem order_ok {n : Nat} (hn : n ≤ 8) (r : Row) (hr : 0 ≤ r.pos) : ∃ (ord : List Int) (r' : Row), F_p_law_order [.loc 0, .int n] [encRow r] = .ok (.lst (dI ord)) [encRow r'] ∧ ord.Perm (up (List.range n)) ∧ 0 ≤ r'.pos := by
  unfold F_p_law_order S_p_law_order
  rw [fn_ev 2 6 _ rfl]
  have hb0 : ∀ S, bLstL [] S = .ok (.loc S.length) (S ++ [.lst []]) := fun S => rfl
  have hrg : (List.range n).map (fun i : Nat => D.int (i : Int)) = dI (up (List.range n)) := by simp [dI, up]
  have hle : (0 : Int) ≤ (n : Int) ∧ (n : Int) ≤ (SL : Nat) := ⟨by omega, by unfold SL; omega⟩
  obtain ⟨E', S', e, r', left, found, x4, x5, rfl, rfl, hP, hl, hf, hp⟩ := for_rng (lo := 0) (n := n) (t := .nm 4) (b := B1_p_law_order) (E := [some (.loc 0), some (.int (n : Nat)), some (.lst (dI (up (List.range n)))), some (.loc 1), none, none]) (S := [encRow r, .lst []])
    (fun i E S => ∃ (r' : Row) (left found : List Int) (x4 x5 : oG), E = [some (.loc 0), some (.int (n : Nat)), some (.lst (dI left)), some (.loc 1), x4, x5] ∧ S = [encRow r', .lst (dI found)] ∧ (found ++ left).Perm (up (List.range n)) ∧ left.length + i = n ∧ found.length = i ∧ 0 ≤ r'.pos)
    ⟨r, up (List.range n), [], none, none, rfl, rfl, List.Perm.refl _, by simp [up], rfl, hr⟩ (by
      rintro i E S hi ⟨r', left, found, x4, x5, rfl, rfl, hP, hl, hf, hp⟩
      obtain ⟨v, r2, e1, hv, hp2⟩ := takenN r' left.length hp (by omega) (by omega)
      have hlen : (dI left).length = left.length := by simp [dI]
      have c1 : cutOf (dI left) none (some (v : Int)) = dI (left.take v) := by rw [cut_to]; simp [dI, List.map_take]
      have c2 : cutOf (dI left) (some ((v : Int) + 1)) none = dI (left.drop (v + 1)) := by
        rw [show ((v : Int) + 1) = ((v + 1 : Nat) : Int) by omega, cut_from]
        simp [dI, List.map_drop]
      have s1 : ∀ S, oSl (.lst (dI left)) none (some (v : Int)) S = .ok (.lst (dI (left.take v))) S := fun S => by
        show R.ok (D.lst (cutOf (dI left) none (some (v : Int)))) S = _
        rw [c1]
      have s2 : ∀ S, oSl (.lst (dI left)) (some ((v : Int) + 1)) none S = .ok (.lst (dI (left.drop (v + 1)))) S := fun S => by
        show R.ok (D.lst (cutOf (dI left) (some ((v : Int) + 1)) none)) S = _
        rw [c2]
      have p1 : ∀ S, oAdd (.lst (dI (left.take v))) (.lst (dI (left.drop (v + 1)))) S = .ok (.lst (dI (left.take v ++ left.drop (v + 1)))) S := fun S => by
        rw [o_addLs _ _ S (by simp [dI, SL]; omega)]
        simp [dI]
      have hs : (dI found).length < SL := by simp [dI, SL]; omega
      have happ : dI found ++ [.int (ik left v)] = dI (found ++ [ik left v]) := by simp [dI]
      refine turn_nx (E2 := [some (.loc 0), some (.int (n : Nat)), some (.lst (dI (left.take v ++ left.drop (v + 1)))), some (.loc 1), some (.int (0 + (i : Nat))), some (.int (v : Nat))]) (S2 := [encRow r2, .lst (dI (found ++ [ik left v]))]) rfl ?_ rfl ⟨r2, _, _, _, _, rfl, rfl, ?_, ?_, ?_, hp2⟩
      · unfold B1_p_law_order
        simp [hlen, e1, at_dI hv, hs, happ, s1, s2, p1]
      · have e2 : left = left.take v ++ ik left v :: left.drop (v + 1) := by
          have : ik left v = left[v] := by simp [ik, hv]
          rw [this, List.getElem_cons_drop, List.take_append_drop]
        refine List.Perm.trans ?_ hP
        conv => rhs; rw [e2]
        rw [List.append_assoc]
        refine List.Perm.append_left found ?_
        show (ik left v :: (left.take v ++ left.drop (v + 1))).Perm _
        exact List.perm_middle.symm
      · simp only [List.length_append, List.length_take, List.length_drop]; omega
      · simp [hf])
  have hz : left = [] := List.eq_nil_of_length_eq_zero (by omega)
  subst hz
  refine ⟨found, r', ?_, by simpa using hP, hp⟩
  simp [hb0, hle, hrg, krng1n (show n < 1000000 by omega), e, retF1]
theorem ord_all {n : Nat} {ord : List Int} (h : ord.Perm (up (List.range n))) {v : Int} : v ∈ ord ↔ 0 ≤ v ∧ v < n := by
  rw [h.mem_iff]
  simp only [up, List.mem_map, List.mem_range]
  constructor
  · rintro ⟨k, hk, rfl⟩; omega
  · rintro ⟨h0, h1⟩; exact ⟨v.toNat, by omega, by omega⟩
theorem ord_len {n : Nat} {ord : List Int} (h : ord.Perm (up (List.range n))) : ord.length = n := by rw [h.length_eq]; simp [up]
def trues (n : Nat) : List D := List.replicate n (.bl true)
end K76
set_option linter.all false
set_option maxRecDepth 100000
namespace K76
open J
/-! what the fewest boxes of a word keep to -/
theorem rep_succ (t : Nat) (u : List Int) : repL (t + 1) u = u ++ repL t u := by unfold repL; rw [List.replicate_succ, List.flatten_cons]
theorem rep_succ' (u : List Int) : ∀ t : Nat, repL (t + 1) u = repL t u ++ u
  | 0 => by simp [repL]
  | t + 1 => by
    have h := rep_succ' u t
    have h2 : u ++ repL (t + 1) u = repL (t + 1) u ++ u := by
      conv => lhs; rw [h]
      rw [← List.append_assoc, ← rep_succ t]
    rw [rep_succ (t + 1), h2]
theorem fw_nil : fw [] = 0 := fw_small (by simp)
theorem fw_le {w : List Int} (h : 2 ≤ w.length) {v : Nat} (hv : v ∈ szs fw w) : fw w ≤ v := ((List.min?_eq_some_iff).mp (fw_min h)).2 v hv
theorem fw_cases {w : List Int} (h : 2 ≤ w.length) : (∃ u v, w = u ++ v ∧ u ≠ [] ∧ v ≠ [] ∧ fw w = fw u + fw v) ∨ ∃ t u, 2 ≤ t ∧ u ≠ [] ∧ w = repL t u ∧ u.length < w.length ∧ fw w = fw u := by
  have q := ((List.min?_eq_some_iff).mp (fw_min h)).1
  unfold szs at q
  rcases List.mem_append.mp q with q | q
  · obtain ⟨i, hi, e⟩ := List.mem_map.mp q
    have hi := List.mem_range.mp hi
    refine .inl ⟨w.take (i + 1), w.drop (i + 1), (List.take_append_drop _ _).symm, fun z => ?_, fun z => ?_, e.symm⟩
    · have : (w.take (i + 1)).length = 0 := by rw [z]; rfl
      rw [List.length_take] at this
      omega
    · have : (w.drop (i + 1)).length = 0 := by rw [z]; rfl
      rw [List.length_drop] at this
      omega
  · obtain ⟨i, hi, e⟩ := List.mem_map.mp q
    obtain ⟨h1, h2⟩ := List.mem_filter.mp hi
    have h1 := List.mem_range.mp h1
    rw [Bool.and_eq_true, decide_eq_true_eq, decide_eq_true_eq] at h2
    refine .inr ⟨w.length / (i + 1), w.take (i + 1), ?_, fun z => ?_, h2.2, by rw [List.length_take]; omega, e.symm⟩
    · have hd := Nat.div_add_mod w.length (i + 1)
      rw [h2.1, Nat.add_zero] at hd
      generalize w.length / (i + 1) = q at hd ⊢
      rcases Nat.lt_or_ge q 2 with k | k
      · have : q = 0 ∨ q = 1 := by omega
        rcases this with rfl | rfl
        · rw [Nat.mul_zero] at hd; omega
        · rw [Nat.mul_one] at hd; omega
      · exact k
    · have : (w.take (i + 1)).length = 0 := by rw [z]; rfl
      rw [List.length_take] at this
      omega
theorem fw_app (u v : List Int) : fw (u ++ v) ≤ fw u + fw v := by
  by_cases hu : u = []
  · subst hu; rw [List.nil_append]; omega
  · by_cases hv : v = []
    · subst hv; rw [List.append_nil]; omega
    · have lu : 1 ≤ u.length := List.length_pos_iff.mpr hu
      have lv : 1 ≤ v.length := List.length_pos_iff.mpr hv
      refine fw_le (by rw [List.length_append]; omega) ?_
      unfold szs
      refine List.mem_append.mpr (.inl (List.mem_map.mpr ⟨u.length - 1, List.mem_range.mpr (by rw [List.length_append]; omega), ?_⟩))
      rw [Nat.sub_add_cancel lu, List.take_left, List.drop_left]
theorem fw_rep (t : Nat) (u : List Int) (h : 1 ≤ t) : fw (repL t u) ≤ fw u := by
  by_cases hu : u = []
  · subst hu
    have : repL t ([] : List Int) = [] := by unfold repL; simp
    rw [this]
    exact Nat.le_refl _
  · have lu : 1 ≤ u.length := List.length_pos_iff.mpr hu
    obtain ⟨s, rfl⟩ : ∃ s, t = s + 1 := ⟨t - 1, by omega⟩
    cases s with
    | zero =>
      have : repL (0 + 1) u = u := by simp [repL]
      rw [this]
      exact Nat.le_refl _
    | succ s =>
      have hl : (repL (s + 1 + 1) u).length = (s + 1 + 1) * u.length := repL_len _ _
      have hm : 2 * u.length ≤ (s + 1 + 1) * u.length := Nat.mul_le_mul_right _ (by omega)
      have ht : (repL (s + 1 + 1) u).take u.length = u := by rw [rep_succ, List.take_left]
      refine fw_le (by omega) ?_
      unfold szs
      refine List.mem_append.mpr (.inr (List.mem_map.mpr ⟨u.length - 1, List.mem_filter.mpr ⟨List.mem_range.mpr (by omega), ?_⟩, ?_⟩))
      · rw [Nat.sub_add_cancel lu, ht, hl, Nat.mul_mod_left, Nat.mul_div_cancel _ (by omega)]
        simp
      · rw [Nat.sub_add_cancel lu, ht]
theorem fw_rec {P : List Int → Prop} (h0 : ∀ w : List Int, w.length < 2 → P w) (h1 : ∀ u v : List Int, fw (u ++ v) = fw u + fw v → P u → P v → P (u ++ v)) (h2 : ∀ (t : Nat) (u : List Int), 2 ≤ t → u ≠ [] → fw (repL t u) = fw u → P u → P (repL t u)) : ∀ (n : Nat) (w : List Int), w.length ≤ n → P w
  | 0, w, h => h0 w (by omega)
  | n + 1, w, h => by
    by_cases hw : w.length < 2
    · exact h0 w hw
    · rcases fw_cases (by omega : 2 ≤ w.length) with ⟨u, v, e, hu, hv, q⟩ | ⟨t, u, ht, hu, e, hl, q⟩
      · have lu : 1 ≤ u.length := List.length_pos_iff.mpr hu
        have lv : 1 ≤ v.length := List.length_pos_iff.mpr hv
        subst e
        rw [List.length_append] at h
        exact h1 u v q (fw_rec h0 h1 h2 n u (by omega)) (fw_rec h0 h1 h2 n v (by omega))
      · have := fw_rec h0 h1 h2 n u (by omega)
        subst e
        exact h2 t u ht hu q this
theorem rep_rev (u : List Int) : ∀ t : Nat, (repL t u).reverse = repL t u.reverse
  | 0 => by simp [repL]
  | t + 1 => by rw [rep_succ, List.reverse_append, rep_rev u t, rep_succ']
theorem rev_le (w : List Int) : fw w.reverse ≤ fw w := fw_rec (P := fun w => fw w.reverse ≤ fw w)
  (fun w h => by rw [fw_small (by rw [List.length_reverse]; exact h), fw_small h, List.length_reverse]; exact Nat.le_refl _)
  (fun u v e hu hv => by
    rw [List.reverse_append, e]
    have := fw_app v.reverse u.reverse
    omega)
  (fun t u ht _ e hu => by
    rw [rep_rev, e]
    exact Nat.le_trans (fw_rep t _ (by omega)) hu) w.length w (Nat.le_refl _)
theorem fw_rev (w : List Int) : fw w.reverse = fw w := Nat.le_antisymm (rev_le w) (by have := rev_le w.reverse; rwa [List.reverse_reverse] at this)
theorem map_le (f : Int → Int) (w : List Int) : fw (w.map f) ≤ fw w := fw_rec (P := fun w => fw (w.map f) ≤ fw w)
  (fun w h => by rw [fw_small (by rw [List.length_map]; exact h), fw_small h, List.length_map]; exact Nat.le_refl _)
  (fun u v e hu hv => by
    rw [List.map_append, e]
    have := fw_app (u.map f) (v.map f)
    omega)
  (fun t u ht _ e hu => by
    have : (repL t u).map f = repL t (u.map f) := by unfold repL; rw [List.map_flatten, List.map_replicate]
    rw [this, e]
    exact Nat.le_trans (fw_rep t _ (by omega)) hu) w.length w (Nat.le_refl _)
theorem fw_map (f g : Int → Int) (w : List Int) (h : ∀ v ∈ w, g (f v) = v) : fw (w.map f) = fw w := Nat.le_antisymm (map_le f w) (by
  have := map_le g (w.map f)
  rw [List.map_map] at this
  rwa [List.map_congr_left (f := g ∘ f) (g := id) h, List.map_id] at this)
theorem cnt_rep (u : List Int) (x : Int) : ∀ t : Nat, (repL t u).count x = t * u.count x
  | 0 => by simp [repL]
  | t + 1 => by rw [rep_succ, List.count_append, cnt_rep u x t, Nat.succ_mul]; omega
theorem once_le (x : Int) (w : List Int) : w.count x = 1 → fw (w.filter fun v => !decide (v = x)) + 1 ≤ fw w := fw_rec (P := fun w => w.count x = 1 → fw (w.filter fun v => !decide (v = x)) + 1 ≤ fw w)
  (fun w h hc => by
    match w, h with
    | [], _ => simp at hc
    | [a], _ =>
      have : a = x := by
        rw [List.count_singleton] at hc
        by_cases q : (a == x) = true
        · exact eq_of_beq q
        · rw [if_neg q] at hc; omega
      subst this
      have e : ([a].filter fun v => !decide (v = a)) = [] := by simp
      rw [e, fw_nil, fw_small (by simp)]
      simp
    | _ :: _ :: _, h => simp at h; omega)
  (fun u v e hu hv hc => by
    rw [List.count_append] at hc
    rw [List.filter_append, e]
    have key : ∀ z : List Int, z.count x = 0 → z.filter (fun v => !decide (v = x)) = z := fun z hz => by
      refine List.filter_eq_self.mpr fun a ha => ?_
      have : x ∉ z := List.count_eq_zero.mp hz
      have : a ≠ x := fun q => this (q ▸ ha)
      simpa using this
    have ha := fw_app (u.filter fun v => !decide (v = x)) (v.filter fun v => !decide (v = x))
    have : u.count x = 1 ∧ v.count x = 0 ∨ u.count x = 0 ∧ v.count x = 1 := by omega
    rcases this with ⟨c1, c2⟩ | ⟨c1, c2⟩
    · have := hu c1
      rw [key v c2] at ha ⊢
      omega
    · have := hv c2
      rw [key u c1] at ha ⊢
      omega)
  (fun t u ht _ e hu hc => by
    rw [cnt_rep] at hc
    have : t = 1 := Nat.eq_one_of_mul_eq_one_right hc
    omega) w.length w (Nat.le_refl _)
theorem fw_new (x : Int) {w : List Int} (h : x ∉ w) : fw (x :: w) = fw w + 1 := by
  have h1 := fw_app [x] w
  rw [fw_small (w := [x]) (by simp)] at h1
  have h2 := once_le x (x :: w) (by rw [List.count_cons_self, List.count_eq_zero_of_not_mem h])
  have e : ((x :: w).filter fun v => !decide (v = x)) = w := by
    rw [List.filter_cons_of_neg (by simp)]
    refine List.filter_eq_self.mpr fun a ha => ?_
    have : a ≠ x := fun q => h (q ▸ ha)
    simpa using this
  rw [e] at h2
  have e1 : fw ([x] ++ w) = fw (x :: w) := rfl
  have : [x].length = 1 := rfl
  omega
theorem fw_len (w : List Int) : fw w ≤ w.length := fw_rec (P := fun w => fw w ≤ w.length)
  (fun w h => by rw [fw_small h]; exact Nat.le_refl _)
  (fun u v e hu hv => by rw [e, List.length_append]; omega)
  (fun t u ht _ e hu => by
    rw [e, repL_len]
    have : 1 * u.length ≤ t * u.length := Nat.mul_le_mul_right _ (by omega)
    omega) w.length w (Nat.le_refl _)
theorem sub_len {xs ys : List Int} (hx : xs.Nodup) (h : ∀ k ∈ xs, k ∈ ys) : xs.length ≤ ys.length := nd_len hx h
theorem dd_nodup (ns : List Int) : (dedupI ns).Nodup ∧ ∀ k, k ∈ dedupI ns ↔ k ∈ ns := by
  have step : ∀ (ns acc : List Int), acc.Nodup → (ns.foldl (fun acc x => if acc.any (· == x) then acc else acc ++ [x]) acc).Nodup ∧ ∀ k, k ∈ ns.foldl (fun acc x => if acc.any (· == x) then acc else acc ++ [x]) acc ↔ k ∈ acc ∨ k ∈ ns := fun ns => by
    induction ns with
    | nil => exact fun acc h => ⟨h, fun k => by simp⟩
    | cons x ns ih =>
      intro acc h
      rw [List.foldl_cons]
      by_cases q : (acc.any (· == x)) = true
      · rw [if_pos q]
        obtain ⟨a, b⟩ := ih acc h
        refine ⟨a, fun k => (b k).trans ?_⟩
        have hx : x ∈ acc := by
          obtain ⟨y, hy, e⟩ := List.any_eq_true.mp q
          rw [← eq_of_beq e]; exact hy
        constructor
        · rintro (z | z)
          · exact .inl z
          · exact .inr (List.mem_cons_of_mem _ z)
        · rintro (z | z)
          · exact .inl z
          · rcases List.mem_cons.mp z with rfl | z
            · exact .inl hx
            · exact .inr z
      · rw [if_neg q]
        have hx : x ∉ acc := fun z => q (List.any_eq_true.mpr ⟨x, z, beq_self_eq_true x⟩)
        obtain ⟨a, b⟩ := ih (acc ++ [x]) (List.nodup_append.mpr ⟨h, by simp, fun a ha b hb e => hx (by rw [← List.mem_singleton.mp hb, ← e]; exact ha)⟩)
        refine ⟨a, fun k => (b k).trans ?_⟩
        simp [or_assoc]
  obtain ⟨a, b⟩ := step ns [] List.nodup_nil
  exact ⟨a, fun k => (b k).trans (by simp)⟩
theorem dd_app (u v : List Int) : (dedupI (u ++ v)).length ≤ (dedupI u).length + (dedupI v).length := by
  have := sub_len (ys := dedupI u ++ dedupI v) (dd_nodup (u ++ v)).1 fun k hk => by
    rcases List.mem_append.mp (((dd_nodup (u ++ v)).2 k).mp hk) with h | h
    · exact List.mem_append_left _ (((dd_nodup u).2 k).mpr h)
    · exact List.mem_append_right _ (((dd_nodup v).2 k).mpr h)
  rwa [List.length_append] at this
theorem mem_rep {u : List Int} {v : Int} : ∀ {t : Nat}, v ∈ repL t u → v ∈ u
  | 0, h => by simp [repL] at h
  | t + 1, h => by
    rw [rep_succ] at h
    rcases List.mem_append.mp h with h | h
    · exact h
    · exact mem_rep h
theorem fw_set (w : List Int) : (dedupI w).length ≤ fw w := fw_rec (P := fun w => (dedupI w).length ≤ fw w)
  (fun w h => by
    rw [fw_small h]
    exact sub_len (dd_nodup w).1 fun k hk => ((dd_nodup w).2 k).mp hk)
  (fun u v e hu hv => by
    have := dd_app u v
    omega)
  (fun t u ht _ e hu => by
    rw [e]
    have := sub_len (ys := dedupI u) (dd_nodup (repL t u)).1 fun k hk => ((dd_nodup u).2 k).mpr (mem_rep (((dd_nodup _).2 k).mp hk))
    omega) w.length w (Nat.le_refl _)
theorem fw_one (x : Int) : fw (List.replicate 24 x) = 1 := by
  have e : List.replicate 24 x = repL 24 [x] := rfl
  have h1 : fw (repL 24 [x]) ≤ fw [x] := fw_rep 24 [x] (by omega)
  rw [fw_small (w := [x]) (by simp)] at h1
  have h2 := fw_set (List.replicate 24 x)
  have h3 : 1 ≤ (dedupI (List.replicate 24 x)).length := by
    have : x ∈ dedupI (List.replicate 24 x) := ((dd_nodup _).2 x).mpr (by simp)
    exact List.length_pos_of_mem this
  rw [← e] at h1
  have : [x].length = 1 := rfl
  omega
/-! plain code -/
theorem deps0 : ∀ xs : List L, L.deps xs = 0 → L.ds xs = dI (L.us xs) ∧ (L.ws xs).length = (L.us xs).length
  | [], _ => ⟨rfl, rfl⟩
  | x :: xs, h => by
    have h' : max x.dep (L.deps xs) = 0 := h
    obtain ⟨h1, h2⟩ := deps0 xs (by omega)
    cases x with
    | b n =>
      refine ⟨?_, ?_⟩
      · show D.int n :: L.ds xs = dI ([n] ++ L.us xs)
        rw [h1]
        rfl
      · show ([n] ++ L.ws xs).length = ([n] ++ L.us xs).length
        rw [List.length_append, List.length_append, h2]
    | r t ys =>
      have : L.dep (.r t ys) = L.deps ys + 1 := rfl
      omega
theorem plain_of : ∀ xs : List L, L.oks xs → (L.ws xs).length = (L.us xs).length → L.deps xs = 0
  | [], _, _ => rfl
  | x :: xs, ho, h => by
    have h' : x.w.length + (L.ws xs).length = x.u.length + (L.us xs).length := by
      rw [← List.length_append, ← List.length_append]
      exact h
    have l1 := ws_le_us xs ho.2
    cases x with
    | b n =>
      have e1 : (L.w (.b n)).length = 1 := rfl
      have e2 : (L.u (.b n)).length = 1 := rfl
      have := plain_of xs ho.2 (by omega)
      show max 0 (L.deps xs) = 0
      omega
    | r t ys =>
      exfalso
      have hok : 2 ≤ t ∧ t ≤ 999 ∧ L.us ys ≠ [] ∧ L.oks ys := ho.1
      have l2 := ws_le_us ys hok.2.2.2
      have e1 : (L.w (.r t ys)).length = (L.ws ys).length := rfl
      have e2 : (L.u (.r t ys)).length = t * (L.us ys).length := by
        show (List.replicate t (L.us ys)).flatten.length = _
        simp
      have l3 : 1 ≤ (L.us ys).length := List.length_pos_iff.mpr hok.2.2.1
      have l4 : 2 * (L.us ys).length ≤ t * (L.us ys).length := Nat.mul_le_mul_right _ hok.1
      omega
theorem best_plain {w : List Int} {c : List L} (B : Best w c) : L.deps c = 0 ↔ fw w = w.length := by
  have h1 := B.us
  have h2 := B.sz
  constructor
  · intro h
    have := (deps0 c h).2
    rw [h1] at this
    omega
  · intro h
    exact plain_of c B.ok (by rw [h1]; omega)
theorem eqBs_plain : ∀ (xs : List L) (w : List Int), L.us xs = w → D.eqBs (L.ds xs) (dI w) = decide (L.deps xs = 0)
  | xs, w, hw => by
    by_cases h : L.deps xs = 0
    · rw [(deps0 xs h).1, hw, eqBs_dI]
      simp [h]
    · have : ∀ (xs : List L) (w : List Int), L.deps xs ≠ 0 → D.eqBs (L.ds xs) (dI w) = false := fun xs => by
        induction xs with
        | nil => intro w h; exact absurd rfl h
        | cons x xs ih =>
          intro w h
          cases w with
          | nil => rfl
          | cons v w =>
            cases x with
            | r t ys => rfl
            | b n =>
              have : L.deps xs ≠ 0 := fun z => h (by show max 0 (L.deps xs) = 0; omega)
              show (D.eqB (.int n) (.int v) && D.eqBs (L.ds xs) (dI w)) = false
              rw [ih w this, Bool.and_false]
      rw [this xs w h]
      simp [h]
end K76
set_option linter.all false
set_option maxRecDepth 100000
namespace K76
open J
/-! depth -/
def isR : L → Bool
  | .r _ _ => true
  | .b _ => false
def inDep : L → Nat
  | .r _ xs => L.deps xs
  | .b _ => 0
def mxN : List Nat → Nat
  | [] => 0
  | n :: ns => max n (mxN ns)
theorem fold_mx : ∀ (ns : List Nat) (a : Nat), (ns.map fun n : Nat => (n : Int)).foldl (fun a y => if y > a then y else a) (a : Int) = ((max a (mxN ns) : Nat) : Int)
  | [], a => by simp [mxN]
  | n :: ns, a => by
    rw [List.map_cons, List.foldl_cons]
    have e : (if (n : Int) > (a : Int) then (n : Int) else (a : Int)) = ((max a n : Nat) : Int) := by
      by_cases h : n > a
      · rw [if_pos (by omega)]; congr 1; omega
      · rw [if_neg (by omega)]; congr 1; omega
    rw [e, fold_mx ns (max a n)]
    congr 1
    show max (max a n) (mxN ns) = max a (max n (mxN ns))
    omega
theorem ints_N (ns : List Nat) : intsOf (ns.map fun n : Nat => D.int (n : Int)) = some (ns.map fun n : Nat => (n : Int)) := by
  have e : (ns.map fun n : Nat => D.int (n : Int)) = dI (ns.map fun n : Nat => (n : Int)) := by simp [dI]
  rw [e, intsOf_dI]
theorem u_le {x : L} : ∀ {xs : List L}, x ∈ xs → x.u.length ≤ (L.us xs).length
  | y :: xs, h => by
    show x.u.length ≤ (y.u ++ L.us xs).length
    rw [List.length_append]
    rcases List.mem_cons.mp h with rfl | h
    · omega
    · have := u_le h
      omega
theorem max_Z (ns : List Nat) (S : List D) : bMaxZ [.lst (ns.map fun n : Nat => D.int (n : Int))] S = .ok (.int (mxN ns : Nat)) S := by
  have h := ints_N ns
  unfold bMaxZ
  simp only [seqOf, h]
  cases ns with
  | nil => rfl
  | cons n ns =>
    show R.ok (D.int ((ns.map fun n : Nat => (n : Int)).foldl (fun a y => if y > a then y else a) (n : Int))) S = _
    rw [fold_mx]
    rfl
theorem deps_mx : ∀ xs : List L, L.deps xs = mxN ((xs.filter isR).map fun x => 1 + inDep x)
  | [] => rfl
  | x :: xs => by
    show max x.dep (L.deps xs) = _
    rw [deps_mx xs]
    cases x with
    | b n =>
      show max 0 _ = mxN ((xs.filter isR).map fun x => 1 + inDep x)
      omega
    | r t ys =>
      show max (L.deps ys + 1) _ = max (1 + L.deps ys) (mxN ((xs.filter isR).map fun x => 1 + inDep x))
      omega
theorem deepest_ok : ∀ (k : Nat) (xs : List L), L.deps xs < k → L.oks xs → (L.us xs).length ≤ 2000 → F_p_deepest k [.tup (L.ds xs)] [] = .ok (.int (L.deps xs : Nat)) []
  | 0, _, h, _, _ => by omega
  | k + 1, xs, hd, ho, hu => by
    have hl := len_le_us ho
    show fnF 1 2 (S_p_deepest (F_p_deepest k)) [.tup (L.ds xs)] [] = _
    unfold S_p_deepest
    rw [fn_ev 1 2 _ rfl]
    have hL : lcS false (.its (L.ds xs)) [1] (.nm 1) (C1_p_deepest (F_p_deepest k)) (V2_p_deepest (F_p_deepest k)) [some (.tup (L.ds xs)), none] [] = .ok (.lst (((xs.filter isR).map fun x => 1 + inDep x).map fun n : Nat => D.int (n : Int))) [] := by
      rw [ds_map xs, List.map_map]
      rw [lc_filt xs L.d isR (fun x => D.int ((1 + inDep x : Nat) : Int)) (by unfold SL; omega) (is_its _ _) (fun x hx => ⟨_, rfl, by
        unfold C1_p_deepest
        cases x with
        | b n => simp [L.d, isi_int, isR, isiB]
        | r t ys => simp [L.d, isi_tup, isR, isiB], fun hr => by
        cases x with
        | b n => cases hr
        | r t ys =>
          have hdx : L.deps ys + 1 ≤ L.deps xs := deps_mem hx
          have hok : 2 ≤ t ∧ t ≤ 999 ∧ L.us ys ≠ [] ∧ L.oks ys := oks_mem ho hx
          have hu2 := u_le hx
          have e2 : (L.u (.r t ys)).length = t * (L.us ys).length := by
            show (List.replicate t (L.us ys)).flatten.length = _
            simp
          have l4 : 1 * (L.us ys).length ≤ t * (L.us ys).length := Nat.mul_le_mul_right _ (by omega)
          have ih := deepest_ok k ys (by omega) hok.2.2.2 (by omega)
          have hf : D.flat (.tup (L.ds ys)) = true := fl_tds ys
          have hix : ∀ S, oIx (L.d (.r t ys)) (.int 1) S = .ok (.tup (L.ds ys)) S := fun S => rfl
          unfold V2_p_deepest
          simp [hix, ih, hf, inDep]⟩)]
      rfl
    have hZ := fun S => max_Z ((xs.filter isR).map fun x => 1 + inDep x) S
    rw [← deps_mx] at hZ
    generalize ((xs.filter isR).map fun x => 1 + inDep x).map (fun n : Nat => D.int (n : Int)) = Z at hL hZ
    simp [hL, hZ]
end K76
set_option linter.all false
set_option maxRecDepth 100000
namespace K76
open J
theorem cut_toJ (w : List Int) (k : Nat) : cutOf (dI w) none (some (k : Int)) = dI (w.take k) := by rw [cut_to]; simp [dI, List.map_take]
theorem add_J {a b : List Int} (h : a.length + b.length ≤ 1000) (S : List D) : oAdd (.tup (dI a)) (.tup (dI b)) S = .ok (.tup (dI (a ++ b))) S := by
  rw [o_addT (by simp only [dI, List.length_map, SL]; omega)]
  simp [dI]
theorem mul_E {w : List Int} (h : w.length ≤ 100) {t : Nat} (h1 : 1 ≤ t) (h2 : t ≤ 100) (S : List D) : oMulE (.tup (dI w)) (.int (t : Nat)) S = .ok (.tup (dI (repL t w))) S := by
  cases w with
  | nil =>
    have e : repL t ([] : List Int) = [] := by unfold repL; simp
    rw [e]
    show (if 1 ≤ ((t : Nat) : Int) ∧ ((t : Nat) : Int) ≤ 1000 then R.ok (D.tup []) S else .bad) = _
    rw [if_pos (by omega)]
    rfl
  | cons x w => exact o_mulTI (by simp) (by omega) h1 (by omega) S
theorem rev_J (w : List Int) (S : List D) : oRev (.tup (dI w)) S = .ok (.tup (dI w.reverse)) S := by
  show R.ok (D.tup (dI w).reverse) S = _
  simp [dI]
theorem eqBB (a b : Bool) (S : List D) : oEq (.bl a) (.bl b) S = .ok (.bl (a == b)) S := by
  rw [o_eq (x := .bl a) (y := .bl b) rfl rfl]
  rfl
theorem neBB (a b : Bool) (S : List D) : oNe (.bl a) (.bl b) S = .ok (.bl (!(a == b))) S := by
  rw [o_ne (x := .bl a) (y := .bl b) rfl rfl]
  rfl
theorem eq_code {c : List L} {w : List Int} (hd : L.deps c ≤ 20) (hu : L.us c = w) (S : List D) : oEq (.tup (L.ds c)) (.tup (dI w)) S = .ok (.bl (decide (L.deps c = 0))) S := by
  rw [o_eq (x := .tup (L.ds c)) (y := .tup (dI w)) (cmp_tds hd) (cmp_tI w)]
  show R.ok (D.bl (D.eqBs (L.ds c) (dI w))) S = _
  rw [eqBs_plain c w hu]
theorem shows_any {w : List Int} (h : FW w) {c : List L} (hc : LOk c) : F_p_shows_fold [.tup (dI w), .tup (L.ds c)] [] = .ok (.bl (decide (L.us c = w) && decide ((L.ws c).length = fw w))) [] := by
  have h1 := foldsize_ok h
  have h2 := unrolled_ok hc
  have h3 := size_ok hc
  unfold F_p_shows_fold S_p_shows_fold
  rw [fn_ev 2 4 _ rfl]
  by_cases q : L.us c = w
  · simp [h1, h2, h3, sTry, q]
    omega
  · simp [h1, h2, h3, sTry, q]
theorem depth_ok {c : List L} (hc : LOk c) : F_p_depth [.tup (L.ds c)] [] = .ok (.int (L.deps c : Nat)) [] := by
  have h1 := checkloop_ok hc
  have h2 := deepest_ok 8 c (by have := hc.dep; omega) hc.ok hc.len
  unfold F_p_depth S_p_depth
  rw [fn_ev 1 1 _ rfl]
  simp [h1, h2]
theorem other_ok (scr : D) (w : List Int) (x3 x4 x5 x6 x7 x8 x9 : Option D) (r : Row) (hr : 0 ≤ r.pos) : ∃ (xs : List Int) (r' : Row), sSet 3 (eArgs bTuple (aCons (eLc [8] (.nm 8) (iRng1 (eArgs (callF F_p_law_taken) (aCons (eVar 1) (aCons (eC (.int 7)) aNil)))) J.tYes V1_p_law) aNil)) [some scr, some (.loc 0), some (.tup (dI w)), x3, x4, x5, x6, x7, x8, x9] [encRow r] = .nx [some scr, some (.loc 0), some (.tup (dI w)), some (.tup (dI xs)), x4, x5, x6, x7, x8, x9] [encRow r'] ∧ xs.length ≤ 6 ∧ (∀ v ∈ xs, 0 ≤ v ∧ v < 3) ∧ 0 ≤ r'.pos := by
  obtain ⟨n, r2, e3, hn, p2⟩ := takenN r 7 hr (by omega) (by omega)
  have e3' : F_p_law_taken [.loc 0, .int 7] [encRow r] = .ok (.int (n : Nat)) [encRow r2] := e3
  obtain ⟨acc, S4, e4, r3, xs, rfl, p3, hxs, rfl, hxl⟩ := lc_inv (src := .rng 0 n) (own := [8]) (t := .nm 8) (c := J.tYes) (e := V1_p_law) (E := [some scr, some (.loc 0), some (.tup (dI w)), x3, x4, x5, x6, x7, x8, x9]) (S := [encRow r2])
    ((List.range n).map fun i => D.int (0 + (i : Nat))) (fun i acc S => ∃ r xs, S = [encRow r] ∧ 0 ≤ r.pos ∧ (∀ v ∈ xs, 0 ≤ v ∧ v < 3) ∧ acc = dI xs ∧ xs.length = i) (by simp [SL]; omega)
    ⟨r2, [], rfl, p2, by simp, rfl, rfl⟩ (fun _ _ S _ => is_rng 0 n S) (by
      rintro i d acc S' ⟨r, xs, rfl, hp, hx, rfl, hl⟩ hd
      obtain ⟨v, r', e, hv, p'⟩ := takenN r 3 hp (by omega) (by omega)
      have e' : F_p_law_taken [.loc 0, .int 3] [encRow r] = .ok (.int (v : Nat)) [encRow r'] := e
      refine ⟨_, rfl, .inr ⟨[encRow r], .int (v : Nat), [encRow r'], rfl, ?_, rfl, r', xs ++ [(v : Int)], rfl, p', ?_, by simp [dI], by simp [hl]⟩⟩
      · unfold V1_p_law
        simp [e']
      · intro y hy
        rcases List.mem_append.mp hy with hy | hy
        · exact hx y hy
        · rw [List.mem_singleton.mp hy]; omega)
  rw [show ((List.range n).map fun i => D.int (0 + (i : Nat))).length = n by simp] at hxl
  refine ⟨xs, r3, ?_, by omega, hxs, p3⟩
  have kr : ∀ S, kRng1 (.int (n : Nat)) S = .ok (.rng 0 n) S := fun S => krng1n (by omega)
  simp [e3', kr, e4]
theorem map_ok {ord xs : List Int} (ho : ord.length = 8) (hx : ∀ v ∈ xs, 0 ≤ v ∧ v < 3) (hl : xs.length ≤ 6) (x0 x1 x2 x4 x5 x7 x8 x9 : Option D) (S : List D) :
    eLc [9] (.nm 9) (iSeq (eVar 3)) J.tYes V2_p_law [x0, x1, x2, some (.tup (dI xs)), x4, x5, some (.lst (dI ord)), x7, x8, x9] S = .ok (.lst (dI (xs.map fun v => ik ord v.toNat))) S := by
  simp
  rw [lc_true (src := .its (dI xs)) xs D.int (fun v => D.int (ik ord v.toNat)) (by unfold SL; omega) (show (Src.its (dI xs)).Is S (xs.map D.int) from is_its _ _) (fun v hv => ⟨_, rfl, rfl, by
    obtain ⟨v0, v1⟩ := hx v hv
    obtain ⟨k, rfl⟩ := Int.eq_ofNat_of_zero_le v0
    have hk : (dI ord)[k]? = some (.int (ik ord k)) := at_dI (by omega)
    unfold V2_p_law
    simp [hk]⟩)]
  simp [dI]
end K76
set_option linter.all false
set_option maxRecDepth 100000
namespace K76
open J
theorem law_true (ns : List Int) (h : ns.length ≤ 63) : ∃ S, F_p_law [.rdl (ns.map D.int)] [] = .ok (.bl true) S := by
  refine ⟨[], ?_⟩
  unfold F_p_law S_p_law
  rw [fn_ev 1 10 _ rfl]
  let r0 : Row := ⟨ns, 0, 9876, 0⟩
  have h0 : D.lst [.rdl (ns.map D.int), .int 0, .int 9876, .int 0] = encRow r0 := rfl
  obtain ⟨c, r1, e1, p1, ok, dp, ul⟩ := lloop_ok 2 8 r0 (by omega) (by omega) (by simp [r0])
  have e1' : F_p_law_loop 8 [.loc 0, .int 2, .int 3] [encRow r0] = .ok (.tup (L.ds c)) [encRow r1] := e1
  have ul' : (L.us c).length ≤ 432 := ul
  have e2 := lunr_ok 8 c (by omega) ok (by omega)
  have hsc : (D.rdl (ns.map D.int)).flat = true := by simp
  have A1 : sSet 1 (eArgs bLstL (aCons (eVar 0) (aCons (eC (.int 0)) (aCons (eC (.int 9876)) (aCons (eC (.int 0)) aNil))))) [some (D.rdl (ns.map D.int)), none, none, none, none, none, none, none, none, none] [] = .nx [some (D.rdl (ns.map D.int)), some (.loc 0), none, none, none, none, none, none, none, none] [encRow r0] := by
    simp [h0]
  generalize hscr : D.rdl (ns.map D.int) = scr at *
  have c1 : cutOf (dI (L.us c)) none (some 6) = dI ((L.us c).take 6) := cut_toJ _ 6
  have hob : ∀ v ∈ (L.us c).take 6, 0 ≤ v ∧ v < 8 := fun v hv => oks_us 8 c (by omega) ok v (List.mem_of_mem_take hv)
  have hol : ((L.us c).take 6).length ≤ 6 := by rw [List.length_take]; omega
  have A2 : sSet 2 (eSl (eArgs (callF (F_p_law_unrolled 8)) (aCons (eArgs (callF (F_p_law_loop 8)) (aCons (eVar 1) (aCons (eC (.int 2)) (aCons (eC (.int 3)) aNil)))) aNil)) none (some (eC (.int 6)))) [some scr, some (.loc 0), none, none, none, none, none, none, none, none] [encRow r0] = .nx [some scr, some (.loc 0), some (.tup (dI ((L.us c).take 6))), none, none, none, none, none, none, none] [encRow r1] := by
    have ft := fl_tds c
    simp [e1', e2, c1, ft]
  generalize (L.us c).take 6 = one at *
  obtain ⟨other, r2, A3, hll, hlb, p2⟩ := other_ok scr one none none none none none none none r1 p1
  obtain ⟨ord, r3, e4, hp, p3⟩ := order_ok (n := 8) (by omega) r2 p2
  have e4' : F_p_law_order [.loc 0, .int 8] [encRow r2] = .ok (.lst (dI ord)) [encRow r3] := e4
  have hordl := ord_len hp
  have hordm : ∀ v, v ∈ ord ↔ 0 ≤ v ∧ v < 8 := fun v => ord_all hp
  have hnd : ord.Nodup := hp.nodup_iff.mpr (by decide)
  have hoth8 : ∀ v ∈ other, 0 ≤ v ∧ v < 8 := fun v hv => by have := hlb v hv; omega
  -- the words
  have W1 : FW one := ⟨hob, by omega⟩
  have W2 : FW other := ⟨hoth8, by omega⟩
  have hwb : ∀ v ∈ one ++ other, 0 ≤ v ∧ v < 8 := fun v hv => by
    rcases List.mem_append.mp hv with hv | hv
    · exact hob v hv
    · exact hoth8 v hv
  have W3 : FW (one ++ other) := ⟨hwb, by rw [List.length_append]; omega⟩
  have W4 : FW (repL 2 one) := ⟨fun v hv => hob v (mem_rep hv), by rw [repL_len]; omega⟩
  have W5 : FW one.reverse := ⟨fun v hv => hob v (List.mem_reverse.mp hv), by rw [List.length_reverse]; omega⟩
  have hik : ∀ v : Int, 0 ≤ v → v < 8 → ik ord v.toNat ∈ ord := fun v v0 v1 => by
    unfold ik
    rw [List.getD_eq_getElem?_getD, List.getElem?_eq_getElem (by omega : v.toNat < ord.length)]
    exact List.getElem_mem _
  have W6 : FW (other.map fun v => ik ord v.toNat) := ⟨fun v hv => by
    obtain ⟨k, hk, rfl⟩ := List.mem_map.mp hv
    have := hlb k hk
    exact (hordm _).mp (hik k (by omega) (by omega)), by rw [List.length_map]; omega⟩
  have W7 : FW (7 :: other) := ⟨fun v hv => by
    rcases List.mem_cons.mp hv with rfl | hv
    · omega
    · exact hoth8 v hv, by rw [List.length_cons]; omega⟩
  have W8 : FW (repL 3 one) := ⟨fun v hv => hob v (mem_rep hv), by rw [repL_len]; omega⟩
  have hx0 : 0 ≤ ik ord 0 ∧ ik ord 0 < 8 := (hordm _).mp (hik 0 (by omega) (by omega))
  have W9 : FW (List.replicate 24 (ik ord 0)) := ⟨fun v hv => by rw [List.eq_of_mem_replicate hv]; exact hx0, by simp⟩
  have f1 := foldsize_ok W1
  have f2 := foldsize_ok W2
  have f3 := foldsize_ok W3
  have f4 := foldsize_ok W4
  have f5 := foldsize_ok W5
  have f6 := foldsize_ok W6
  have f7 := foldsize_ok W7
  have f8 := foldsize_ok W8
  have f9 := foldsize_ok W9
  rw [fw_rev] at f5
  rw [fw_map (fun v => ik ord v.toNat) (fun x => (ord.idxOf x : Nat)) other fun v hv => by
    have := hlb v hv
    have hk : v.toNat < ord.length := by omega
    show ((ord.idxOf (ik ord v.toNat) : Nat) : Int) = v
    have e : ik ord v.toNat = ord[v.toNat] := by
      unfold ik
      rw [List.getD_eq_getElem?_getD, List.getElem?_eq_getElem hk]
      rfl
    rw [e, hnd.idxOf_getElem v.toNat hk]
    omega] at f6
  rw [fw_new 7 (fun hv => by have := hlb 7 hv; omega)] at f7
  rw [fw_one] at f9
  have q1 := fw_app one other
  have q2 := fw_rep 2 one (by omega)
  have q3 := fw_set one
  have q4 := fw_len one
  -- the code
  obtain ⟨c1', B1, g1⟩ := folded_ok W1
  obtain ⟨c2, B2, g2⟩ := folded_ok W3
  have hlk1 := B1.lok W1.l
  have hlk2 := B2.lok W3.l
  have g3 := unrolled_ok hlk2
  rw [B2.us] at g3
  have g4 := appear_ok hlk2
  have g5 := shows_ok W3 B2
  have g6 := depth_ok hlk2
  have hd1 : L.deps c1' ≤ 4 := by
    have := B1.dep
    rcases Nat.lt_or_ge (L.deps c1') 5 with q | q
    · omega
    · have := Nat.pow_le_pow_right (n := 2) (by decide) q
      omega
  have g7 := eq_code (c := c1') (w := one) (by omega) B1.us
  have g8 := eq_code (c := c2) (w := one ++ other) (by have := hlk2.dep; omega) B2.us
  have hpl := best_plain B1
  have hws : (dI (L.ws c2)).length = fw (one ++ other) := by
    simp only [dI, List.length_map]
    exact B2.sz
  -- operations
  have ad1 := fun S => add_J (a := one) (b := other) (by omega) S
  have ad2 := fun S => add_J (a := [7]) (b := other) (by simp; omega) S
  have ad2' : ∀ S, oAdd (.tup [.int 7]) (.tup (dI other)) S = .ok (.tup (dI (7 :: other))) S := ad2
  have m2 : ∀ S, oMulE (.tup (dI one)) (.int 2) S = .ok (.tup (dI (repL 2 one))) S := fun S => mul_E (t := 2) (by omega) (by omega) (by omega) S
  have m3 : ∀ S, oMulE (.tup (dI one)) (.int 3) S = .ok (.tup (dI (repL 3 one))) S := fun S => mul_E (t := 3) (by omega) (by omega) (by omega) S
  have rv := fun S => rev_J one S
  have hset : ∀ E S, E[2]? = some (some (D.tup (dI one))) → eLenSetT (eVar 2) E S = .ok (.int (dedupI one).length) S := fun E S hE => by
    unfold eLenSetT eVar
    rw [hE]
    simp only [bind_ok, intsOf_dI]
    rw [if_pos (by omega)]
  have A4 : sAsg (.tp [(.nm 4), (.nm 5), (.nm 6)]) (eArgs bTup (aCons (eArgs (callF F_p_fold_size) (aCons (eVar 2) aNil)) (aCons (eArgs (callF F_p_fold_size) (aCons (eVar 3) aNil)) (aCons (eArgs (callF F_p_law_order) (aCons (eVar 1) (aCons (eC (.int 8)) aNil))) aNil)))) [some scr, some (.loc 0), some (.tup (dI one)), some (.tup (dI other)), none, none, none, none, none, none] [encRow r2] = .nx [some scr, some (.loc 0), some (.tup (dI one)), some (.tup (dI other)), some (.int (fw one : Nat)), some (.int (fw other : Nat)), some (.lst (dI ord)), none, none, none] [encRow r3] := by
    have hbt : ∀ (a b c : D) (S : List D), bTup [a, b, c] S = .ok (.tup [a, b, c]) S := fun _ _ _ _ => rfl
    simp [f1, f2, e4', hbt, kasg]
  rw [show ([scr].map some ++ List.replicate (10 - 1) none : Env) = [some scr, none, none, none, none, none, none, none, none, none] from rfl, ev_seq, A1, kseq_nx, ev_seq, A2, kseq_nx, ev_seq, A3, kseq_nx, ev_seq, A4, kseq_nx]
  have A5 : sIf (tOr (tV (eOp oGt (eArgs (callF F_p_fold_size) (aCons (eOp oAdd (eVar 2) (eVar 3)) aNil)) (eOp oAdd (eVar 4) (eVar 5)))) (tOr (tV (eOp oGt (eArgs (callF F_p_fold_size) (aCons (eOp oMulE (eVar 2) (eC (.int 2))) aNil)) (eVar 4))) (tV (eOp oNe (eArgs (callF F_p_fold_size) (aCons (eRev (eVar 2)) aNil)) (eVar 4))))) (sRet (eC (.bl false))) sNext [some scr, some (.loc 0), some (.tup (dI one)), some (.tup (dI other)), some (.int (fw one : Nat)), some (.int (fw other : Nat)), some (.lst (dI ord)), none, none, none] [encRow r3] = .nx [some scr, some (.loc 0), some (.tup (dI one)), some (.tup (dI other)), some (.int (fw one : Nat)), some (.int (fw other : Nat)), some (.lst (dI ord)), none, none, none] [encRow r3] := by
    have n1 : ¬ ((fw one : Nat) : Int) + (fw other : Nat) < ((fw (one ++ other) : Nat) : Int) := by omega
    have n2 : ¬ ((fw one : Nat) : Int) < ((fw (repL 2 one) : Nat) : Int) := by omega
    have hR : ∀ S, eRev (eVar 2) [some scr, some (.loc 0), some (.tup (dI one)), some (.tup (dI other)), some (.int (fw one : Nat)), some (.int (fw other : Nat)), some (.lst (dI ord)), none, none, none] S = .ok (.tup (dI one.reverse)) S := fun S => by
      show (eUn oRev (eVar 2)) _ S = _
      simp [rv]
    simp [ad1, f3, n1, m2, f4, n2, hR, f5]
  have A6 : sIf (tOr (tV (eOp oNe (eArgs (callF F_p_fold_size) (aCons (eArgs bTuple (aCons (eLc [9] (.nm 9) (iSeq (eVar 3)) J.tYes V2_p_law) aNil)) aNil)) (eVar 5))) (tV (eOp oNe (eArgs (callF F_p_fold_size) (aCons (eOp oAdd (eArgs bTup (aCons (eC (.int 7)) aNil)) (eVar 3)) aNil)) (eOp oAdd (eVar 5) (eC (.int 1)))))) (sRet (eC (.bl false))) sNext [some scr, some (.loc 0), some (.tup (dI one)), some (.tup (dI other)), some (.int (fw one : Nat)), some (.int (fw other : Nat)), some (.lst (dI ord)), none, none, none] [encRow r3] = .nx [some scr, some (.loc 0), some (.tup (dI one)), some (.tup (dI other)), some (.int (fw one : Nat)), some (.int (fw other : Nat)), some (.lst (dI ord)), none, none, none] [encRow r3] := by
    have hm := map_ok (ord := ord) (xs := other) hordl hlb hll (some scr) (some (.loc 0)) (some (.tup (dI one))) (some (.int (fw one : Nat))) (some (.int (fw other : Nat))) none none none [encRow r3]
    generalize eLc [9] (.nm 9) (iSeq (eVar 3)) J.tYes V2_p_law = LC at hm
    generalize (other.map fun v => ik ord v.toNat) = mo at *
    simp [hm, f6, ad2', f7]
  have A7 : sIf (tOr (tV (eOp oLt (eVar 4) (eLenSetT (eVar 2)))) (tOr (tV (eOp oGt (eVar 4) (eArgs bLen (aCons (eVar 2) aNil)))) (tV (eOp oNe (eOp oEq (eVar 4) (eArgs bLen (aCons (eVar 2) aNil))) (eOp oEq (eArgs (callF F_p_folded) (aCons (eVar 2) aNil)) (eVar 2)))))) (sRet (eC (.bl false))) sNext [some scr, some (.loc 0), some (.tup (dI one)), some (.tup (dI other)), some (.int (fw one : Nat)), some (.int (fw other : Nat)), some (.lst (dI ord)), none, none, none] [encRow r3] = .nx [some scr, some (.loc 0), some (.tup (dI one)), some (.tup (dI other)), some (.int (fw one : Nat)), some (.int (fw other : Nat)), some (.lst (dI ord)), none, none, none] [encRow r3] := by
    have hs := fun S => hset [some scr, some (.loc 0), some (.tup (dI one)), some (.tup (dI other)), some (.int (fw one : Nat)), some (.int (fw other : Nat)), some (.lst (dI ord)), none, none, none] S rfl
    have n1 : ¬ ((fw one : Nat) : Int) < (((dedupI one).length : Nat) : Int) := by omega
    have hln : (dI one).length = one.length := by simp [dI]
    have n2 : ¬ ((one.length : Nat) : Int) < ((fw one : Nat) : Int) := by omega
    have ft := fl_tds c1'
    have n3 : decide (((fw one : Nat) : Int) = (one.length : Nat)) = decide (L.deps c1' = 0) := by
      rw [Bool.eq_iff_iff, decide_eq_true_eq, decide_eq_true_eq, hpl]
      omega
    have n3' : decide (fw one = one.length) = decide (L.deps c1' = 0) := by
      rw [Bool.eq_iff_iff, decide_eq_true_eq, decide_eq_true_eq, hpl]
    simp [hs, n1, hln, n2, g1, g7, neBB, n3, n3', ft]
  have A8 : sSet 7 (eArgs (callF F_p_folded) (aCons (eOp oAdd (eVar 2) (eVar 3)) aNil)) [some scr, some (.loc 0), some (.tup (dI one)), some (.tup (dI other)), some (.int (fw one : Nat)), some (.int (fw other : Nat)), some (.lst (dI ord)), none, none, none] [encRow r3] = .nx [some scr, some (.loc 0), some (.tup (dI one)), some (.tup (dI other)), some (.int (fw one : Nat)), some (.int (fw other : Nat)), some (.lst (dI ord)), some (.tup (L.ds c2)), none, none] [encRow r3] := by
    have ft := fl_tds c2
    simp [ad1, g2, ft]
  rw [ev_seq, A5, kseq_nx, ev_seq, A6, kseq_nx, ev_seq, A7, kseq_nx, ev_seq, A8, kseq_nx]
  have ft2 := fl_tds c2
  have A9 : sIf (tOr (tV (eOp oNe (eArgs (callF F_p_unrolled) (aCons (eVar 7) aNil)) (eOp oAdd (eVar 2) (eVar 3)))) (tV (eOp oNe (eArgs bLen (aCons (eArgs (callF F_p_appearances) (aCons (eVar 7) aNil)) aNil)) (eArgs (callF F_p_fold_size) (aCons (eOp oAdd (eVar 2) (eVar 3)) aNil))))) (sRet (eC (.bl false))) sNext [some scr, some (.loc 0), some (.tup (dI one)), some (.tup (dI other)), some (.int (fw one : Nat)), some (.int (fw other : Nat)), some (.lst (dI ord)), some (.tup (L.ds c2)), none, none] [encRow r3] = .nx [some scr, some (.loc 0), some (.tup (dI one)), some (.tup (dI other)), some (.int (fw one : Nat)), some (.int (fw other : Nat)), some (.lst (dI ord)), some (.tup (L.ds c2)), none, none] [encRow r3] := by
    simp [ad1, g3, g4, f3, hws]
  have A10 : sIf (tNot (tTr (eArgs (callF F_p_shows_fold) (aCons (eOp oAdd (eVar 2) (eVar 3)) (aCons (eVar 7) aNil))))) (sRet (eC (.bl false))) sNext [some scr, some (.loc 0), some (.tup (dI one)), some (.tup (dI other)), some (.int (fw one : Nat)), some (.int (fw other : Nat)), some (.lst (dI ord)), some (.tup (L.ds c2)), none, none] [encRow r3] = .nx [some scr, some (.loc 0), some (.tup (dI one)), some (.tup (dI other)), some (.int (fw one : Nat)), some (.int (fw other : Nat)), some (.lst (dI ord)), some (.tup (L.ds c2)), none, none] [encRow r3] := by
    simp [ad1, g5]
  have A11 : sIf (tAnd (tV (eOp oNe (eVar 2) (eArgs bTup aNil))) (tV (eOp oNe (eArgs (callF F_p_shows_fold) (aCons (eOp oMulE (eVar 2) (eC (.int 3))) (aCons (eArgs bTup (aCons (eArgs bTup (aCons (eC (.int 3)) (aCons (eArgs (callF F_p_folded) (aCons (eVar 2) aNil)) aNil))) aNil)) aNil))) (eOp oEq (eArgs (callF F_p_fold_size) (aCons (eOp oMulE (eVar 2) (eC (.int 3))) aNil)) (eVar 4))))) (sRet (eC (.bl false))) sNext [some scr, some (.loc 0), some (.tup (dI one)), some (.tup (dI other)), some (.int (fw one : Nat)), some (.int (fw other : Nat)), some (.lst (dI ord)), some (.tup (L.ds c2)), none, none] [encRow r3] = .nx [some scr, some (.loc 0), some (.tup (dI one)), some (.tup (dI other)), some (.int (fw one : Nat)), some (.int (fw other : Nat)), some (.lst (dI ord)), some (.tup (L.ds c2)), none, none] [encRow r3] := by
    have hne : ∀ S, oNe (.tup (dI one)) (.tup []) S = .ok (.bl (!decide (one = []))) S := fun S => o_neTI one [] S
    by_cases hz : one = []
    · subst hz
      have hne0 : ∀ S, oNe (.tup (dI [])) (.tup []) S = .ok (.bl false) S := fun S => rfl
      simp [hne0]
    · have hlk3 : LOk [L.r 3 c1'] := by
        refine ⟨⟨⟨by omega, by omega, by rw [B1.us]; exact hz, B1.ok⟩, trivial⟩, ?_, ?_⟩
        · show max (L.deps c1' + 1) 0 ≤ 7
          omega
        · show ((List.replicate 3 (L.us c1')).flatten ++ []).length ≤ 2000
          rw [List.append_nil, B1.us]
          have := repL_len 3 one
          unfold repL at this
          omega
      have s3 := shows_any W8 hlk3
      have hus : L.us [L.r 3 c1'] = repL 3 one := by
        show (List.replicate 3 (L.us c1')).flatten ++ [] = _
        rw [List.append_nil, B1.us]
        rfl
      have hws3 : (L.ws [L.r 3 c1']).length = fw one := by
        show (L.ws c1' ++ []).length = _
        rw [List.append_nil]
        exact B1.sz
      rw [hus, hws3] at s3
      have s3' : F_p_shows_fold [.tup (dI (repL 3 one)), .tup [.tup [.int 3, .tup (L.ds c1')]]] [] = .ok (.bl (decide (fw one = fw (repL 3 one)))) [] := by
        have : F_p_shows_fold [.tup (dI (repL 3 one)), .tup [.tup [.int 3, .tup (L.ds c1')]]] [] = _ := s3
        rw [this]
        simp
      have fds : D.flats (L.ds c1') = true := fl_tds c1'
      have hsym : decide (fw (repL 3 one) = fw one) = decide (fw one = fw (repL 3 one)) := by
        rw [Bool.eq_iff_iff, decide_eq_true_eq, decide_eq_true_eq]
        exact eq_comm
      have hsymI : decide (((fw (repL 3 one) : Nat) : Int) = (fw one : Nat)) = decide (fw one = fw (repL 3 one)) := by
        rw [Bool.eq_iff_iff, decide_eq_true_eq, decide_eq_true_eq]
        omega
      simp [hne, hz, m3, g1, s3', f8, neBB, hsymI, fds]
  rw [ev_seq, A9, kseq_nx, ev_seq, A10, kseq_nx, ev_seq, A11, kseq_nx]
  have hix : ∀ S, oIx (.lst (dI ord)) (.int 0) S = .ok (.int (ik ord 0)) S := fun S => by
    have hk : (dI ord)[0]? = some (.int (ik ord 0)) := at_dI (by omega)
    simp [hk]
  have m24 : ∀ S, oMulT (.tup [.int (ik ord 0)]) (.int 24) S = .ok (.tup (dI (List.replicate 24 (ik ord 0)))) S := fun S => rfl
  generalize List.replicate 24 (ik ord 0) = RP at f9 m24
  have hdd : ((L.deps c2 : Nat) : Int) = 0 ↔ L.deps c2 = 0 := by omega
  simp [g6, ad1, g8, eqBB, hix, m24, f9, hsc, ft2, hdd]
end K76
open PySem PySem.W PyProof.Rows
set_option maxHeartbeats 0 in
theorem PySem.Challenge.cw_rateflows_k76_across_folds_holds : PySem.Challenge.rw_rateflows_k76_across_folds.Holds := by
  w_on; o_law; k_head; (case hw => w_witness2)
  k_fill
  refine L2.walk_of (l := PySem.Challenge.rw_rateflows_k76_across_folds) (n := 63) (k := 32) (x := "script") (CX := fun w => L2.CX PySem.Challenge.rw_rateflows_k76_across_folds.prog w) (sp := fun w => K76.spLaw _) rfl (by decide) rfl ⟨rfl, by decide, by decide⟩ (fun w h Y => PySem.W.kIn_of Y) ?F (fun _ _ a ns hl _ hS => ⟨a, ns, rfl, hS, hl, fun _ => rfl⟩) (fun _ _ _ _ _ h => K76.no_exc h)
  case F =>
    intro w mg fa h KX G hmg
    refine' K76.all_mk KX G hmg (K76.law_true) ?a0 ?l0 ?c0 ?k0 ?a1 ?l1 ?c1 ?k1 ?a2 ?l2 ?c2 ?k2 ?a3 ?l3 ?c3 ?k3 ?a4 ?l4 ?c4 ?k4 ?a5 ?l5 ?c5 ?k5 ?a6 ?l6 ?c6 ?k6 ?a7 ?l7 ?c7 ?k7 ?a8 ?l8 ?c8 ?k8 ?a9 ?l9 ?c9 ?k9 ?a10 ?l10 ?c10 ?k10 ?a11 ?l11 ?c11 ?k11 ?a12 ?l12 ?c12 ?k12 ?a13 ?l13 ?c13 ?k13 ?a14 ?l14 ?c14 ?k14 ?a15 ?l15 ?c15 ?k15 ?a16 ?l16 ?c16 ?k16 ?a17 ?l17 ?c17 ?k17 ?a18 ?l18 ?c18 ?k18 ?a19 ?l19 ?c19 ?k19 ?a20 ?l20 ?c20 ?k20 ?a21 ?l21 ?c21 ?k21 ?a22 ?l22 ?c22 ?k22 ?a23 ?l23 ?c23 ?k23 ?z_all ?z_bool ?z_int ?z_isinstance ?z_len ?z_list ?z_max ?z_min ?z_range ?z_set ?z_tuple ?z_MOST_BOXES ?z_MOST_DEPTH ?z_MOST_FIRINGS ?z_MOST_FOLDED ?z_MOST_TIMES
    (case a0 => k_is)
    (case l0 => k_is)
    (case c0 => k_is)
    (case k0 => k_is)
    (case a1 => k_is)
    (case l1 => k_is)
    (case c1 => k_is)
    (case k1 => k_is)
    (case a2 => k_is)
    (case l2 => k_is)
    (case c2 => k_is)
    (case k2 => k_is)
    (case a3 => k_is)
    (case l3 => k_is)
    (case c3 => k_is)
    (case k3 => k_is)
    (case a4 => k_is)
    (case l4 => k_is)
    (case c4 => k_is)
    (case k4 => k_is)
    (case a5 => k_is)
    (case l5 => k_is)
    (case c5 => k_is)
    (case k5 => k_is)
    (case a6 => k_is)
    (case l6 => k_is)
    (case c6 => k_is)
    (case k6 => k_is)
    (case a7 => k_is)
    (case l7 => k_is)
    (case c7 => k_is)
    (case k7 => k_is)
    (case a8 => k_is)
    (case l8 => k_is)
    (case c8 => k_is)
    (case k8 => k_is)
    (case a9 => k_is)
    (case l9 => k_is)
    (case c9 => k_is)
    (case k9 => k_is)
    (case a10 => k_is)
    (case l10 => k_is)
    (case c10 => k_is)
    (case k10 => k_is)
    (case a11 => k_is)
    (case l11 => k_is)
    (case c11 => k_is)
    (case k11 => k_is)
    (case a12 => k_is)
    (case l12 => k_is)
    (case c12 => k_is)
    (case k12 => k_is)
    (case a13 => k_is)
    (case l13 => k_is)
    (case c13 => k_is)
    (case k13 => k_is)
    (case a14 => k_is)
    (case l14 => k_is)
    (case c14 => k_is)
    (case k14 => k_is)
    (case a15 => k_is)
    (case l15 => k_is)
    (case c15 => k_is)
    (case k15 => k_is)
    (case a16 => k_is)
    (case l16 => k_is)
    (case c16 => k_is)
    (case k16 => k_is)
    (case a17 => k_is)
    (case l17 => k_is)
    (case c17 => k_is)
    (case k17 => k_is)
    (case a18 => k_is)
    (case l18 => k_is)
    (case c18 => k_is)
    (case k18 => k_is)
    (case a19 => k_is)
    (case l19 => k_is)
    (case c19 => k_is)
    (case k19 => k_is)
    (case a20 => k_is)
    (case l20 => k_is)
    (case c20 => k_is)
    (case k20 => k_is)
    (case a21 => k_is)
    (case l21 => k_is)
    (case c21 => k_is)
    (case k21 => k_is)
    (case a22 => k_is)
    (case l22 => k_is)
    (case c22 => k_is)
    (case k22 => k_is)
    (case a23 => k_is)
    (case l23 => k_is)
    (case c23 => k_is)
    (case k23 => k_is)
    (case z_all => k_is)
    (case z_bool => k_is)
    (case z_int => k_is)
    (case z_isinstance => k_is)
    (case z_len => k_is)
    (case z_list => k_is)
    (case z_max => k_is)
    (case z_min => k_is)
    (case z_range => k_is)
    (case z_set => k_is)
    (case z_tuple => k_is)
    (case z_MOST_BOXES => k_is)
    (case z_MOST_DEPTH => k_is)
    (case z_MOST_FIRINGS => k_is)
    (case z_MOST_FOLDED => k_is)
    (case z_MOST_TIMES => k_is)
