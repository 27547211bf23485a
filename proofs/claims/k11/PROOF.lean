import PyProof.Rows.All
import PySem.PyData
import HandS.ForMost
import HandS.ForExc
import HandS.TupAny
import HandS.IsInst
import HandS.Deep
import HandS.TupMul
import KE.KTupSum
import HandS.WordsDict
import HandS.Zip
import KE.GoesEnum
import KE.GoesZip
import KE.GoesMore
import HandS.Flt
import HandS.Conv
import KE.DatumOrd
import HandS.Style
import HandS.SortInts
import KE.DataFind
import HandS.DictComp
import HandS.TupSets
import HandS.Iter
import HandS.Gcd
import HandS.SortKw
import HandS.DictTup
import HandS.ExcIs
import PyProof.DictStraight
import KE.SortData
import HandS.SortOrd
import HandS.ExcInit
import HandS.ExcField
import HandS.FStr
import KE.KExcIs
import KE.DatumIndex
import KE.DataMinMax
import HandS.SetKeys
import PyProof.DictMoreH
import PyProof.ListMulRight
import KE.DataMinKey
import HandS.TryOnly
import KE.KDictSum
import KE.KDictCopyH
import KE.KDictWalk
import HandS.TupLen
import PyProof.EnumStmt
import PyProof.ListRange
import PyProof.ListNew
import PySem.Challenge.RW_rateflows_k11_whole_words_of_counts
/-! The plain reading of a program: values without a heap, what an expression, a statement, a def gives. -/
set_option linter.all false
namespace J
open PySem (Str)
abbrev Ky := Sum Int Str
inductive D where
  | non | bl (b : Bool) | int (i : Int) | str (x : Str) | ty (n : String)
  | tup (ds : List D) | lst (ds : List D) | rdl (ds : List D) | dct (ks : List Ky) (ds : List D)
  | dcT (ks : List (List Ky)) (ds : List D)
  | tuk (ds : List D)
  | loc (n : Nat)
instance : Inhabited D := ⟨.non⟩
abbrev Env := List (Option D)
inductive R (α : Type) where
  | ok (a : α) (S : List D)
  | exc (c : Str) (fs : List (Str × D)) (S : List D)
  | bad
inductive O where
  | nx (E : Env) (S : List D)
  | rt (d : D) (S : List D)
  | bk (E : Env) (S : List D)
  | ct (E : Env) (S : List D)
  | exc (c : Str) (fs : List (Str × D)) (E : Env) (S : List D)
  | bad
abbrev ME := Env → List D → R D
abbrev MA := Env → List D → R (List D)
abbrev MT := Env → List D → R Bool
abbrev MS := Env → List D → O
abbrev MF := List D → List D → R D

mutual
def D.flat : D → Bool
  | .tup ds => D.flats ds
  | .lst ds => D.flats ds
  | .rdl ds => D.flats ds
  | .dct _ ds => D.flats ds
  | .dcT _ ds => D.flats ds
  | .tuk ds => D.flats ds
  | .loc _ => false
  | _ => true
def D.flats : List D → Bool
  | [] => true
  | d :: ds => d.flat && D.flats ds
end
mutual
def D.depth : D → Nat
  | .tup ds => D.depths ds + 1
  | .lst ds => D.depths ds + 1
  | .rdl ds => D.depths ds + 1
  | .dct _ ds => D.depths ds + 1
  | .dcT _ ds => D.depths ds + 1
  | .tuk ds => D.depths ds + 1
  | _ => 0
def D.depths : List D → Nat
  | [] => 0
  | d :: ds => max d.depth (D.depths ds)
end
mutual
def D.eqB : D → D → Bool
  | .non, .non => true
  | .bl a, .bl b => a == b
  | .bl a, .int j => (if a then 1 else 0) == j
  | .int i, .bl b => i == (if b then 1 else 0)
  | .int i, .int j => i == j
  | .str x, .str y => x == y
  | .tup xs, .tup ys => D.eqBs xs ys
  | .lst xs, .lst ys => D.eqBs xs ys
  | .rdl xs, .lst ys => D.eqBs xs ys
  | .lst xs, .rdl ys => D.eqBs xs ys
  | .rdl xs, .rdl ys => D.eqBs xs ys
  | _, _ => false
def D.eqBs : List D → List D → Bool
  | [], [] => true
  | x :: xs, y :: ys => x.eqB y && D.eqBs xs ys
  | _, _ => false
end
mutual
def D.cmpb : D → Bool
  | .tup ds => D.cmpbs ds
  | .lst ds => D.cmpbs ds
  | .rdl ds => D.cmpbs ds
  | .dct _ _ => false
  | .dcT _ _ => false
  | .tuk _ => false
  | .loc _ => false
  | .ty _ => false
  | .str x => x.cps.all (· < 1114112)
  | .non => true
  | .bl _ => true
  | .int _ => true
def D.cmpbs : List D → Bool
  | [] => true
  | d :: ds => d.cmpb && D.cmpbs ds
end

/-! ### ends in a row -/
def R.bind {α β : Type} (r : R α) (k : α → List D → R β) : R β := match r with
  | .ok a S => k a S
  | .exc c fs S => .exc c fs S
  | .bad => .bad
def R.toO (r : R D) (E : Env) (k : D → List D → O) : O := match r with
  | .ok a S => k a S
  | .exc c fs S => .exc c fs E S
  | .bad => .bad
def R.tO (r : R Bool) (E : Env) (k : Bool → List D → O) : O := match r with
  | .ok a S => k a S
  | .exc c fs S => .exc c fs E S
  | .bad => .bad
@[simp] theorem bind_ok {α β : Type} (a : α) (S : List D) (k : α → List D → R β) : (R.ok a S).bind k = k a S := id rfl
@[simp] theorem toO_ok (a : D) (S : List D) (E : Env) (k : D → List D → O) : (R.ok a S).toO E k = k a S := id rfl
@[simp] theorem tO_ok (a : Bool) (S : List D) (E : Env) (k : Bool → List D → O) : (R.ok a S).tO E k = k a S := id rfl
def onBl {α : Type} (d : D) (k : Bool → R α) : R α := match d with
  | .bl c => k c
  | _ => .bad
@[simp] theorem onBl_bl {α : Type} (c : Bool) (k : Bool → R α) : onBl (.bl c) k = k c := id rfl
def SL : Nat := 16777216

/-! ### what is in a value -/
def lstOf (S : List D) : D → Option (List D)
  | .lst ds => some ds
  | .loc n => match S[n]? with
    | some (.lst ds) => some ds
    | _ => none
  | _ => none
def seqOf (S : List D) : D → Option (List D)
  | .tup ds => some ds
  | .lst ds => some ds
  | .rdl ds => some ds
  | .loc n => match S[n]? with
    | some (.lst ds) => some ds
    | _ => none
  | _ => none
def seen (S : List D) : D → D
  | .loc n => match S[n]? with
    | some (.lst ds) => .lst ds
    | _ => .loc n
  | d => d
def keyOf : D → Option Ky
  | .int i => some (.inl i)
  | .str x => some (.inr x)
  | _ => none
def keysOf : List D → Option (List Ky)
  | [] => some []
  | d :: ds => match keyOf d, keysOf ds with
    | some k, some ks => some (k :: ks)
    | _, _ => none
def keyT : D → Option (List Ky)
  | .tup ds => keysOf ds
  | _ => none
def dctOf (S : List D) : D → Option (List Ky × List D)
  | .dct ks ds => some (ks, ds)
  | .loc n => match S[n]? with
    | some (.dct ks ds) => some (ks, ds)
    | _ => none
  | _ => none
def ixOf (n : Nat) (i : Int) : Option Nat := if 0 ≤ i then (if i < n then some i.toNat else none) else if -(n : Int) ≤ i then some (i + n).toNat else none
def atOf (xs : List D) (i : Int) : Option D := (ixOf xs.length i).bind fun j => xs[j]?

/-! ### expressions -/
def eVar (i : Nat) : ME := fun E S => match E[i]? with
  | some (some d) => .ok d S
  | _ => .bad
def eC (d : D) : ME := fun _ S => .ok d S
def eOp (f : D → D → List D → R D) (a b : ME) : ME := fun E S => (a E S).bind fun x S1 => (b E S1).bind fun y S2 => f x y S2
def eUn (f : D → List D → R D) (a : ME) : ME := fun E S => (a E S).bind fun x S1 => f x S1
def aNil : MA := fun _ S => .ok [] S
def aCons (a : ME) (r : MA) : MA := fun E S => (a E S).bind fun x S1 => (r E S1).bind fun xs S2 => .ok (x :: xs) S2
def eArgs (f : List D → List D → R D) (a : MA) : ME := fun E S => (a E S).bind fun xs S1 => f xs S1
def eIf (t : MT) (a b : ME) : ME := fun E S => (t E S).bind fun c S1 => if c = true then a E S1 else b E S1
def eAnd (a b : ME) : ME := fun E S => (a E S).bind fun x S1 => onBl x fun c => if c = true then b E S1 else .ok (.bl false) S1
def eOr (a b : ME) : ME := fun E S => (a E S).bind fun x S1 => onBl x fun c => if c = true then .ok (.bl true) S1 else b E S1
def eNot (a : ME) : ME := fun E S => (a E S).bind fun x S1 => onBl x fun c => .ok (.bl (!c)) S1
def eChain (f h : D → D → List D → R D) (a b c : ME) : ME := fun E S => (a E S).bind fun x S1 => (b E S1).bind fun y S2 => (f x y S2).bind fun t S3 => onBl t fun k => if k = true then (c E S3).bind fun z S4 => h y z S4 else .ok (.bl false) S3
/-! tests -/
def tV (a : ME) : MT := fun E S => (a E S).bind fun x S1 => onBl x fun c => .ok c S1
def truth (S : List D) : D → Option Bool
  | .bl c => some c
  | .int i => some (i != 0)
  | .non => some false
  | .dct ks _ => some (!ks.isEmpty)
  | .tup ds => some (!ds.isEmpty)
  | .lst ds => some (!ds.isEmpty)
  | .rdl ds => some (!ds.isEmpty)
  | .loc n => match S[n]? with
    | some (.lst ds) => some (!ds.isEmpty)
    | some (.dct ks _) => some (!ks.isEmpty)
    | _ => none
  | _ => none
def tTr (a : ME) : MT := fun E S => (a E S).bind fun x S1 => match truth S1 x with
  | some c => .ok c S1
  | none => .bad
def tAnd (a b : MT) : MT := fun E S => (a E S).bind fun c S1 => if c = true then b E S1 else .ok false S1
def tOr (a b : MT) : MT := fun E S => (a E S).bind fun c S1 => if c = true then .ok true S1 else b E S1
def tNot (a : MT) : MT := fun E S => (a E S).bind fun c S1 => .ok (!c) S1
def tYes : MT := fun _ S => .ok true S

/-! ### operators by values -/
def oAdd : D → D → List D → R D
  | .int i, .int j, S => .ok (.int (i + j)) S
  | .tup xs, .tup ys, S => if xs.length + ys.length ≤ SL then .ok (.tup (xs ++ ys)) S else .bad
  | x, y, S => match lstOf S x, lstOf S y with
    | some xs, some ys => if xs.length + ys.length ≤ SL then .ok (.lst (xs ++ ys)) S else .bad
    | _, _ => .bad
def iAdd : D → D → List D → R D
  | .int i, .int j, S => .ok (.int (i + j)) S
  | _, _, _ => .bad
def oSub : D → D → List D → R D
  | .int i, .int j, S => .ok (.int (i - j)) S
  | _, _, _ => .bad
def smallI (i : Int) : Bool := decide (-(18446744073709551616) < i) && decide (i < 18446744073709551616)
def oMul : D → D → List D → R D
  | .int i, .int j, S => if smallI i = true ∨ smallI j = true then .ok (.int (i * j)) S else .bad
  | .tup xs, .int k, S => if xs ≠ [] ∧ 1 ≤ k ∧ k ≤ 1000 ∧ xs.length ≤ 1000 then .ok (.tup (List.replicate k.toNat xs).flatten) S else .bad
  | x, .int k, S => match lstOf S x with
    | some xs => if -9223372036854775808 ≤ k ∧ k < 9223372036854775808 ∧ xs.length * k.toNat ≤ SL then .ok (.lst (List.replicate k.toNat xs).flatten) S else .bad
    | none => .bad
  | _, _, _ => .bad
def mkL : R D → R D
  | .ok (.lst ds) S => .ok (.loc S.length) (S ++ [.lst ds])
  | _ => .bad
def oMulL (x y : D) (S : List D) : R D := mkL (oMul x y S)
def oDiv : D → D → List D → R D
  | .int i, .int j, S => if j ≠ 0 ∧ j.natAbs < 1073741824 then .ok (.int (i.fdiv j)) S else .bad
  | _, _, _ => .bad
def oMod : D → D → List D → R D
  | .int i, .int j, S => if j ≠ 0 then .ok (.int (i.fmod j)) S else .bad
  | _, _, _ => .bad
def oPow : D → D → List D → R D
  | .int i, .int j, S => if 0 ≤ j ∧ j ≤ 1000000 ∧ i.natAbs < 18446744073709551616 then .ok (.int (i ^ j.toNat)) S else .bad
  | _, _, _ => .bad
def oLt : D → D → List D → R D
  | .int i, .int j, S => .ok (.bl (decide (i < j))) S
  | _, _, _ => .bad
def oLe : D → D → List D → R D
  | .int i, .int j, S => .ok (.bl (decide (i ≤ j))) S
  | _, _, _ => .bad
def oGt : D → D → List D → R D
  | .int i, .int j, S => .ok (.bl (decide (j < i))) S
  | _, _, _ => .bad
def oGe : D → D → List D → R D
  | .int i, .int j, S => .ok (.bl (decide (j ≤ i))) S
  | _, _, _ => .bad
def cmpOk (x : D) : Bool := x.cmpb && decide (x.depth ≤ 64)
def oEq (x y : D) (S : List D) : R D := if cmpOk (seen S x) = true ∧ cmpOk (seen S y) = true then .ok (.bl (D.eqB (seen S x) (seen S y))) S else .bad
def oNe (x y : D) (S : List D) : R D := if cmpOk (seen S x) = true ∧ cmpOk (seen S y) = true then .ok (.bl (!D.eqB (seen S x) (seen S y))) S else .bad
def D.isNon : D → Bool
  | .non => true
  | _ => false
def oIsN (x : D) (S : List D) : R D := .ok (.bl x.isNon) S
def oNotN (x : D) (S : List D) : R D := .ok (.bl (!x.isNon)) S
def oNeg : D → List D → R D
  | .int i, S => .ok (.int (-i)) S
  | _, _ => .bad
def keyIn (ks : List Ky) (k : Ky) : Bool := ks.any fun q => decide (q = k)
def inD (x : D) (xs : List D) : Bool := xs.any fun y => y.eqB x
def oIn (x y : D) (S : List D) : R D := match seqOf S y with
  | some xs => if cmpOk (seen S x) = true ∧ xs.all cmpOk = true then .ok (.bl (inD (seen S x) xs)) S else .bad
  | none => match dctOf S y, keyOf x with
    | some (ks, _), some k => .ok (.bl (keyIn ks k)) S
    | _, _ => .bad
def oNin (x y : D) (S : List D) : R D := match seqOf S y with
  | some xs => if cmpOk (seen S x) = true ∧ xs.all cmpOk = true then .ok (.bl (!inD (seen S x) xs)) S else .bad
  | none => match dctOf S y, keyOf x with
    | some (ks, _), some k => .ok (.bl (!keyIn ks k)) S
    | _, _ => .bad
def getK : List Ky → List D → Ky → Option D
  | q :: ks, d :: ds, k => if q = k then some d else getK ks ds k
  | _, _, _ => none
def oIx (x i : D) (S : List D) : R D := match seqOf S x, i with
  | some xs, .int k => match atOf xs k with
    | some d => .ok d S
    | none => .bad
  | _, _ => match dctOf S x, keyOf i with
    | some (ks, ds), some k => match getK ks ds k with
      | some d => .ok d S
      | none => .bad
    | _, _ => .bad
def sIxOf (n d : Nat) : Option Int → Nat
  | none => d
  | some v => if v < 0 then (v + (n : Int)).toNat else min v.toNat n
def cutOf (xs : List D) (lo hi : Option Int) : List D := (xs.drop (sIxOf xs.length 0 lo)).take (sIxOf xs.length xs.length hi - sIxOf xs.length 0 lo)
def ePart (a : Option ME) : Env → List D → R (Option Int) := match a with
  | none => fun _ S => .ok none S
  | some m => fun E S => (m E S).bind fun x S1 => match x with
    | .int i => .ok (some i) S1
    | _ => .bad
def oSl (x : D) (lo hi : Option Int) (S : List D) : R D := match x with
  | .tup xs => .ok (.tup (cutOf xs lo hi)) S
  | _ => match seqOf S x with
    | some xs => .ok (.lst (cutOf xs lo hi)) S
    | none => .bad
def eSl (a : ME) (lo hi : Option ME) : ME := fun E S => (a E S).bind fun x S1 => (ePart lo E S1).bind fun l S2 => (ePart hi E S2).bind fun h S3 => oSl x l h S3

/-! ### built-ins by their arguments -/
def bTup (xs : List D) (S : List D) : R D := if xs.length ≤ SL then .ok (.tup xs) S else .bad
def bLst (xs : List D) (S : List D) : R D := if xs.length ≤ SL then .ok (.lst xs) S else .bad
def bLstL (xs : List D) (S : List D) : R D := if xs.length ≤ SL then .ok (.loc S.length) (S ++ [.lst xs]) else .bad
def bLen : List D → List D → R D
  | [x], S => match seqOf S x with
    | some xs => .ok (.int xs.length) S
    | none => match dctOf S x with
      | some (ks, _) => .ok (.int ks.length) S
      | none => .bad
  | _, _ => .bad
def bInt : List D → List D → R D
  | [.int i], S => .ok (.int i) S
  | [.bl b], S => .ok (.int (if b then 1 else 0)) S
  | _, _ => .bad
def bAbs : List D → List D → R D
  | [.int i], S => .ok (.int (if i < 0 then -i else i)) S
  | _, _ => .bad
def intsOf : List D → Option (List Int)
  | [] => some []
  | .int i :: r => (intsOf r).map (i :: ·)
  | _ :: _ => none
def bSum : List D → List D → R D
  | [x], S => match seqOf S x with
    | some xs => match intsOf xs with
      | some ns => .ok (.int ns.sum) S
      | none => .bad
    | none => .bad
  | _, _ => .bad
def bTuple : List D → List D → R D
  | [x], S => match seqOf S x with
    | some xs => .ok (.tup xs) S
    | none => .bad
  | _, _ => .bad
def bList : List D → List D → R D
  | [x], S => match seqOf S x with
    | some xs => .ok (.lst xs) S
    | none => .bad
  | _, _ => .bad
def bListL : List D → List D → R D
  | [x], S => match seqOf S x with
    | some xs => .ok (.loc S.length) (S ++ [.lst xs])
    | none => .bad
  | _, _ => .bad
def tyOf (S : List D) : D → Option String
  | .non => some "NoneType"
  | .bl _ => some "bool"
  | .int _ => some "int"
  | .str _ => some "str"
  | .tup _ => some "tuple"
  | .tuk _ => some "tuple"
  | .lst _ => some "list"
  | .rdl _ => some "list"
  | .dct _ _ => some "dict"
  | .loc n => match S[n]? with
    | some (.lst _) => some "list"
    | some (.dct _ _) => some "dict"
    | _ => none
  | _ => none
def isiB (t n : String) : Bool := t == n || (t == "bool" && n == "int")
def isiNames : List String := ["bool", "int", "str", "tuple", "list", "dict"]
def oIsi (ns : List String) (x : D) (S : List D) : R D := match tyOf S x with
  | some t => .ok (.bl (ns.any (isiB t))) S
  | none => .bad
def bMax3 : List D → List D → R D
  | [.int i, .int j, .int k], S => .ok (.int (if k > (if j > i then j else i) then k else (if j > i then j else i))) S
  | _, _ => .bad
def kDisp1 (x y : D) (S : List D) : R D := match keyOf x with
  | some q => .ok (.loc S.length) (S ++ [.dct [q] [y]])
  | none => .bad
def eDisp1L (k v : ME) : ME := fun E S => (k E S).bind fun x S1 => (v E S1).bind fun y S2 => kDisp1 x y S2
def eDctL : ME := fun _ S => .ok (.loc S.length) (S ++ [.dct [] []])
def eDct : ME := fun _ S => .ok (.dct [] []) S
def bMax2 : List D → List D → R D
  | [.int i, .int j], S => .ok (.int (if j > i then j else i)) S
  | _, _ => .bad
def bMin2 : List D → List D → R D
  | [.int i, .int j], S => .ok (.int (if j < i then j else i)) S
  | _, _ => .bad
def bMax1 : List D → List D → R D
  | [x], S => match seqOf S x with
    | some xs => match intsOf xs with
      | some (n :: ns) => .ok (.int (ns.foldl (fun a y => if a < y then y else a) n)) S
      | _ => .bad
    | none => .bad
  | _, _ => .bad
def bMin1 : List D → List D → R D
  | [x], S => match seqOf S x with
    | some xs => match intsOf xs with
      | some (n :: ns) => .ok (.int (ns.foldl (fun a y => if y < a then y else a) n)) S
      | _ => .bad
    | none => .bad
  | _, _ => .bad
def scal : D → Option Bool
  | .bl b => some b
  | .int i => some (i != 0)
  | _ => none
def scals : List D → Option (List Bool)
  | [] => some []
  | d :: ds => (scal d).bind fun b => (scals ds).map (b :: ·)
def bAny : List D → List D → R D
  | [x], S => match lstOf S x with
    | some xs => match scals xs with
      | some bs => .ok (.bl (bs.any id)) S
      | none => .bad
    | none => .bad
  | _, _ => .bad
def bAll : List D → List D → R D
  | [x], S => match lstOf S x with
    | some xs => match scals xs with
      | some bs => .ok (.bl (bs.all id)) S
      | none => .bad
    | none => .bad
  | _, _ => .bad
def eLstRgL (a : ME) : ME := fun E S => (a E S).bind fun x S1 => match x with
  | .int n => if 0 ≤ n ∧ n ≤ SL then .ok (.loc S1.length) (S1 ++ [.lst ((List.range n.toNat).map fun i : Nat => .int (i : Int))]) else .bad
  | _ => .bad
/-! ### statements -/
def sSeq (a b : MS) : MS := fun E S => match a E S with
  | .nx E1 S1 => b E1 S1
  | o => o
def sNext : MS := fun E S => .nx E S
def sBreak : MS := fun E S => .bk E S
def sCont : MS := fun E S => .ct E S
def sNever : MS := fun _ _ => .bad
def sExpr (a : ME) : MS := fun E S => (a E S).toO E fun _ S1 => .nx E S1
def sRet (a : ME) : MS := fun E S => (a E S).toO E fun d S1 => .rt d S1
def sRetN : MS := fun _ S => .rt .non S
def sIf (t : MT) (a b : MS) : MS := fun E S => (t E S).tO E fun c S1 => if c = true then a E S1 else b E S1
def sSet (i : Nat) (a : ME) : MS := fun E S => (a E S).toO E fun d S1 => .nx (E.set i (some d)) S1
def sAug (i : Nat) (f : D → D → List D → R D) (a : ME) : MS := fun E S => match E[i]? with
  | some (some x) => (a E S).toO E fun y S1 => (f x y S1).toO E fun z S2 => .nx (E.set i (some z)) S2
  | _ => .bad
inductive Tg where
  | nm (i : Nat)
  | tp (ts : List Tg)
mutual
def Tg.bind : Tg → D → Env → Option Env
  | .nm i, d, E => some (E.set i (some d))
  | .tp ts, .tup ds, E => Tg.binds ts ds E
  | .tp _, _, _ => none
def Tg.binds : List Tg → List D → Env → Option Env
  | [], [], E => some E
  | t :: ts, d :: ds, E => match t.bind d E with
    | some E1 => Tg.binds ts ds E1
    | none => none
  | _, _, _ => none
end
def sAsg (t : Tg) (a : ME) : MS := fun E S => (a E S).toO E fun d S1 => match t.bind d E with
  | some E1 => .nx E1 S1
  | none => .bad
def sTry (b : MS) : MS := fun E S => match b E S with
  | .exc _ _ _ _ => .bad
  | o => o
def sPar (is_ : List Nat) (a : MA) : MS := fun E S => match a E S with
  | .ok ds S1 => match Tg.binds (is_.map .nm) ds E with
    | some E1 => .nx E1 S1
    | none => .bad
  | .exc c fs S1 => .exc c fs E S1
  | .bad => .bad
def putAt (o i v : D) (S : List D) : Option (List D) := match o with
  | .loc n => match S[n]? with
    | some (.lst xs) => match i with
      | .int k => match ixOf xs.length k with
        | some j => some (S.set n (.lst (xs.set j v)))
        | none => none
      | _ => none
    | some (.dct ks ds) => match keyOf i with
      | some k => if ks.length < SL then some (S.set n (putK ks ds k v)) else none
      | none => none
    | some (.dcT ks ds) => match keyT i with
      | some k => if ks.length < SL then some (S.set n (putT ks ds k v)) else none
      | none => none
    | _ => none
  | _ => none
where
  putT (ks : List (List Ky)) (ds : List D) (k : List Ky) (v : D) : D := if (ks.any fun q => decide (q = k)) = true then .dcT ks (ks.zipWith (fun q d => if q = k then v else d) ds) else .dcT (ks ++ [k]) (ds ++ [v])
  putK (ks : List Ky) (ds : List D) (k : Ky) (v : D) : D := if keyIn ks k = true then .dct ks (ks.zipWith (fun q d => if q = k then v else d) ds) else .dct (ks ++ [k]) (ds ++ [v])
def sPut (o i e : ME) : MS := fun E S => (e E S).toO E fun v S1 => (o E S1).toO E fun x S2 => (i E S2).toO E fun k S3 => match putAt x k v S3 with
  | some S4 => .nx E S4
  | none => .bad
def sAsgSub (i j l : Nat) (a : ME) : MS := fun E S => (a E S).toO E fun d S1 => match d with
  | .tup [dx, dy] => match (E.set i (some dx))[j]?, (E.set i (some dx))[l]? with
    | some (some ov), some (some kv) => match putAt ov kv dy S1 with
      | some S2 => .nx (E.set i (some dx)) S2
      | none => .bad
    | _, _ => .bad
  | _ => .bad
def sPutAug (f : D → D → List D → R D) (o i e : ME) : MS := fun E S => (o E S).toO E fun x S1 => (i E S1).toO E fun k S2 => (oIx x k S2).toO E fun y S3 => (e E S3).toO E fun z S4 => (f y z S4).toO E fun v S5 => match putAt x k v S5 with
  | some S6 => .nx E S6
  | none => .bad
def mAppend : D → List D → List D → R D
  | .loc n, [y], S => match S[n]? with
    | some (.lst xs) => if xs.length < SL then .ok .non (S.set n (.lst (xs ++ [y]))) else .bad
    | _ => .bad
  | _, _, _ => .bad
def mPop : D → List D → List D → R D
  | .loc n, [], S => match S[n]? with
    | some (.lst xs) => match xs[xs.length - 1]? with
      | some y => .ok y (S.set n (.lst xs.dropLast))
      | none => .bad
    | _ => .bad
  | _, _, _ => .bad
def eMeth (f : D → List D → List D → R D) (o : ME) (a : MA) : ME := fun E S => (o E S).bind fun x S1 => if (lstOf S1 x).isSome = true then (a E S1).bind fun xs S2 => f x xs S2 else .bad

/-! ### what a loop goes over -/
structure Src where
  len : Nat
  at_ : List D → Nat → Option D
  alive : List D → Bool
def Src.its (ds : List D) : Src := ⟨ds.length, fun _ i => ds[i]?, fun _ => true⟩
def Src.live (n len : Nat) : Src := ⟨len, fun S i => match S[n]? with | some (.lst ds) => ds[i]? | _ => none, fun S => match S[n]? with | some (.lst ds) => ds.length == len | _ => false⟩
def Src.rng (lo : Int) (n : Nat) : Src := ⟨n, fun _ i => some (.int (lo + i)), fun _ => true⟩
def Src.enum (s : Src) : Src := ⟨s.len, fun S i => (s.at_ S i).map fun d => .tup [.int i, d], s.alive⟩
def Src.zip (s t : Src) : Src := ⟨min s.len t.len, fun S i => match s.at_ S i, t.at_ S i with | some a, some b => some (.tup [a, b]) | _, _ => none, fun S => s.alive S && t.alive S⟩
abbrev MI := Env → List D → R Src
def srcOf (S : List D) : D → Option Src
  | .tup ds => some (.its ds)
  | .tuk ds => some (.its ds)
  | .lst ds => some (.its ds)
  | .rdl ds => some (.its ds)
  | .loc n => match S[n]? with
    | some (.lst ds) => some (.live n ds.length)
    | _ => none
  | _ => none
def iSeq (a : ME) : MI := fun E S => (a E S).bind fun x S1 => match srcOf S1 x with
  | some s => .ok s S1
  | none => .bad
def okR (i : Int) : Bool := decide (-4611686018427387904 ≤ i) && decide (i < 4611686018427387904)
def iRng1 (a : ME) : MI := fun E S => (a E S).bind fun x S1 => match x with
  | .int j => if okR j = true then .ok (.rng 0 j.toNat) S1 else .bad
  | _ => .bad
def iRng2 (a b : ME) : MI := fun E S => (a E S).bind fun x S1 => (b E S1).bind fun y S2 => match x, y with
  | .int i, .int j => if okR i = true ∧ okR j = true then .ok (.rng i (j - i).toNat) S2 else .bad
  | _, _ => .bad
def iEnum (a : ME) : MI := fun E S => (a E S).bind fun x S1 => match srcOf S1 x with
  | some s => .ok s.enum S1
  | none => .bad
def iZip (a b : ME) : MI := fun E S => (a E S).bind fun x S1 => (b E S1).bind fun y S2 => match srcOf S2 x, srcOf S2 y with
  | some s, some t => .ok (s.zip t) S2
  | _, _ => .bad

/-! ### loops -/
def gone (n : Nat) : Option D → Option D
  | some d => if D.flat d = true then some d else match d with
    | .loc k => if k < n then some (.loc k) else none
    | _ => none
  | none => none
def gcE (n : Nat) (E : Env) (S : List D) : Option (Env × List D) :=
  if S.length = n then some (E, S) else if n ≤ S.length ∧ (S.take n).all D.flat = true then some (E.map (gone n), S.take n) else none
def forGo (src : Src) (t : Tg) (b : MS) (n : Nat) : Nat → Nat → Env → List D → O
  | 0, _, E, S => if src.alive S = true then .nx E S else .bad
  | k + 1, i, E, S => if src.alive S = true then match src.at_ S i with
    | none => .bad
    | some d => match t.bind d E with
      | none => .bad
      | some E1 => match b E1 S with
        | .nx E2 S2 => match gcE n E2 S2 with
          | some (E3, S3) => forGo src t b n k (i + 1) E3 S3
          | none => .bad
        | .ct E2 S2 => match gcE n E2 S2 with
          | some (E3, S3) => forGo src t b n k (i + 1) E3 S3
          | none => .bad
        | .bk E2 S2 => .nx E2 S2
        | o => o
    else .bad
def sFor (t : Tg) (m : MI) (b : MS) : MS := fun E S => match m E S with
  | .ok src S1 => forGo src t b S1.length src.len 0 E S1
  | .exc c fs S1 => .exc c fs E S1
  | .bad => .bad
def whileGo (t : MT) (b : MS) (n : Nat) : Nat → Env → List D → O
  | 0, _, _ => .bad
  | k + 1, E, S => (t E S).tO E fun c S1 => if c = true then match b E S1 with
      | .nx E2 S2 => match gcE n E2 S2 with
        | some (E3, S3) => whileGo t b n k E3 S3
        | none => .bad
      | .ct E2 S2 => match gcE n E2 S2 with
        | some (E3, S3) => whileGo t b n k E3 S3
        | none => .bad
      | .bk E2 S2 => .nx E2 S2
      | o => o
    else .nx E S1
def sWhile (fuel : Nat) (t : MT) (b : MS) : MS := fun E S => whileGo t b S.length fuel E S
def wipeE (E : Env) : List Nat → Env
  | [] => E
  | v :: vs => (wipeE E vs).set v none
def lcGo (src : Src) (t : Tg) (c : MT) (e : ME) (E : Env) (n : Nat) : Nat → Nat → List D → List D → R (List D)
  | 0, _, acc, S => if src.alive S = true then .ok acc S else .bad
  | k + 1, i, acc, S => if src.alive S = true then match src.at_ S i with
    | none => .bad
    | some d => match t.bind d E with
      | none => .bad
      | some E1 => match c E1 S with
        | .ok b S1 => if b = true then match e E1 S1 with
            | .ok x S2 => if n ≤ S2.length then lcGo src t c e E n k (i + 1) (acc ++ [x]) S2 else .bad
            | _ => .bad
          else if n ≤ S1.length then lcGo src t c e E n k (i + 1) acc S1 else .bad
        | _ => .bad
    else .bad
def lcRun (own : List Nat) (t : Tg) (m : MI) (c : MT) (e : ME) : Env → List D → R (List D) := fun E S => match m E S with
  | .ok src S1 => if src.len ≤ SL then lcGo src t c e (wipeE E own) S1.length src.len 0 [] S1 else .bad
  | .exc c fs S1 => .exc c fs S1
  | .bad => .bad
def eLc (own : List Nat) (t : Tg) (m : MI) (c : MT) (e : ME) : ME := fun E S => (lcRun own t m c e E S).bind fun acc S1 => .ok (.lst acc) S1
def eLcL (own : List Nat) (t : Tg) (m : MI) (c : MT) (e : ME) : ME := fun E S => (lcRun own t m c e E S).bind fun acc S1 => .ok (.loc S1.length) (S1 ++ [.lst acc])

/-! ### defs -/
def fz (n : Nat) (S : List D) : Nat → D → Option D
  | 0, _ => none
  | k + 1, d => if d.flat = true then some d else match d with
    | .loc m => if m < n then none else match S[m]? with
      | some (.lst ds) => ((ds.mapM (fz n S k)).map .lst)
      | some (.dct ks ds) => ((ds.mapM (fz n S k)).map (.dct ks))
      | some (.dcT ks ds) => ((ds.mapM (fz n S k)).map (.dcT ks))
      | _ => none
    | .tup ds => (ds.mapM (fz n S k)).map .tup
    | .lst ds => (ds.mapM (fz n S k)).map .lst
    | _ => none
def retF (n : Nat) (d : D) (S : List D) : R D := if n ≤ S.length ∧ (S.take n).all D.flat = true then match fz n S 8 d with
    | some d' => .ok d' (S.take n)
    | none => .bad
  else .bad
def excF (n : Nat) (c : Str) (fs : List (Str × D)) (S : List D) : R D := if n ≤ S.length ∧ (S.take n).all D.flat = true ∧ fs.all (fun p => p.2.flat) = true then .exc c fs (S.take n) else .bad
def fnF (np nn : Nat) (b : MS) : MF := fun ds S => if ds.length = np then match b (ds.map some ++ List.replicate (nn - np) none) S with
    | .nx _ S1 => retF S.length .non S1
    | .rt d S1 => retF S.length d S1
    | .exc c fs _ S1 => excF S.length c fs S1
    | _ => .bad
  else .bad
def byRef : List D → Nat → Option (List D × List Nat)
  | [], _ => some ([], [])
  | .loc n :: r, k => (byRef r (k + 1)).bind fun (ds, ns) => if ns.contains n then none else some (.loc k :: ds, n :: ns)
  | d :: r, k => if d.flat = true then (byRef r k).map fun (ds, ns) => (d :: ds, ns) else none
def setAll : List D → List Nat → List D → List D
  | S, n :: ns, d :: ds => setAll (S.set n d) ns ds
  | S, _, _ => S
def callF (F : MF) (xs : List D) (S : List D) : R D := match byRef xs 0 with
  | none => .bad
  | some (ds, ns) => match ns.mapM (fun n => S[n]?) with
    | none => .bad
    | some Sc => if Sc.all D.flat = true then match F ds Sc with
        | .ok d S' => if d.flat = true ∧ S'.length = ns.length ∧ S'.all D.flat = true then .ok d (setAll S ns S') else .bad
        | .exc c fs S' => if S'.length = ns.length ∧ S'.all D.flat = true ∧ fs.all (fun p => p.2.flat) = true then .exc c fs (setAll S ns S') else .bad
        | .bad => .bad
      else .bad
end J
set_option linter.all false
namespace J
open PySem (Str)
def oRev : D → List D → R D
  | .tup ds, S => .ok (.tup ds.reverse) S
  | x, S => match lstOf S x with
    | some ds => .ok (.lst ds.reverse) S
    | none => .bad
def eRev (ma : ME) : ME := eUn oRev ma
def insI (n : Int) : List Int → List Int
  | [] => [n]
  | m :: ms => if n ≤ m then n :: m :: ms else m :: insI n ms
def sortI : List Int → List Int
  | [] => []
  | n :: ns => insI n (sortI ns)
def bSorted : List D → List D → R D
  | [x], S => match seqOf S x with
    | some xs => match intsOf xs with
      | some ns => .ok (.lst ((sortI ns).map D.int)) S
      | none => .bad
    | none => .bad
  | _, _ => .bad
def bBool : List D → List D → R D
  | [.int i], S => .ok (.bl (i != 0)) S
  | [.bl b], S => .ok (.bl b) S
  | _, _ => .bad
def mCountT : D → List D → List D → R D
  | .tup xs, [.int k], S => match intsOf xs with
    | some ns => .ok (.int (ns.count k : Nat)) S
    | none => .bad
  | _, _, _ => .bad
def oMulT : D → D → List D → R D
  | .tup xs, .int 0, S => if xs ≠ [] then .ok (.tup []) S else .bad
  | x, y, S => oMul x y S
def putKs (ks : List Ky) (k : Ky) : List Ky := if keyIn ks k = true then ks else ks ++ [k]
def putDs (ks : List Ky) (ds : List D) (k : Ky) (v : D) : List D := if keyIn ks k = true then ks.zipWith (fun q d => if q = k then v else d) ds else ds ++ [v]
def dcGo (src : Src) (t : Tg) (c : MT) (ek ev : ME) (E : Env) (n : Nat) : Nat → Nat → List Ky → List D → List D → R D
  | 0, _, ks, ds, S => if src.alive S = true then .ok (.dct ks ds) S else .bad
  | k + 1, i, ks, ds, S => if src.alive S = true then match src.at_ S i with
    | none => .bad
    | some d => match t.bind d E with
      | none => .bad
      | some E1 => match c E1 S with
        | .ok b S1 => if b = true then match ek E1 S1 with
            | .ok x S2 => match keyOf x with
              | none => .bad
              | some q => match ev E1 S2 with
                | .ok y S3 => if n ≤ S3.length then dcGo src t c ek ev E n k (i + 1) (putKs ks q) (putDs ks ds q y) S3 else .bad
                | _ => .bad
            | _ => .bad
          else if n ≤ S1.length then dcGo src t c ek ev E n k (i + 1) ks ds S1 else .bad
        | _ => .bad
    else .bad
def eDc (own : List Nat) (t : Tg) (m : MI) (c : MT) (ek ev : ME) : ME := fun E S => match m E S with
  | .ok src S1 => if src.len ≤ SL then dcGo src t c ek ev (wipeE E own) S1.length src.len 0 [] [] S1 else .bad
  | .exc c fs S1 => .exc c fs S1
  | .bad => .bad
def intKys : List Ky → Option (List Int)
  | [] => some []
  | .inl i :: ks => (intKys ks).map (i :: ·)
  | _ :: _ => none
def bMinD : List D → List D → R D
  | [x], S => match dctOf S x with
    | some (ks, _) => match intKys ks with
      | some (n :: ns) => .ok (.int (ns.foldl (fun a y => if y < a then y else a) n)) S
      | _ => .bad
    | none => .bad
  | _, _ => .bad
def eGet2 (o a b : ME) : ME := fun E S => (o E S).bind fun x S1 => if (dctOf S1 x).isSome = true then (a E S1).bind fun y S2 => (b E S2).bind fun z S3 => match dctOf S3 x, keyOf y with
  | some (ks, ds), some q => .ok ((getK ks ds q).getD z) S3
  | _, _ => .bad else .bad
def oIsB : D → D → List D → R D
  | .bl a, .bl b, S => .ok (.bl (decide (a = b))) S
  | _, _, _ => .bad
def eTupRg (a : ME) : ME := fun E S => (a E S).bind fun x S1 => match x with
  | .int n => if 0 ≤ n ∧ n ≤ SL then .ok (.tup ((List.range n.toNat).map fun i : Nat => .int (i : Int))) S1 else .bad
  | _ => .bad
def kD : Ky → D
  | .inl i => .int i
  | .inr x => .str x
def itemsS (ks : List Ky) (ds : List D) : List D := List.zipWith (fun k d => D.tup [kD k, d]) ks ds
def iItemsJ (ma : ME) : MI := fun E S => (ma E S).bind fun x S1 => match x with
  | .dct ks ds => .ok (Src.its (itemsS ks ds)) S1
  | _ => .bad
def iMul : D → D → List D → R D
  | .int i, .int j, S => if smallI i = true ∨ smallI j = true then .ok (.int (i * j)) S else .bad
  | _, _, _ => .bad
def bGcd : List D → List D → R D
  | [.int i, .int j], S => .ok (.int (Nat.gcd i.natAbs j.natAbs : Nat)) S
  | _, _ => .bad
def bLcm : List D → List D → R D
  | [.int i, .int j], S => if i.natAbs < 18446744073709551616 ∧ j.natAbs < 18446744073709551616 then .ok (.int (Nat.lcm i.natAbs j.natAbs : Nat)) S else .bad
  | _, _ => .bad
end J
set_option linter.all false
set_option maxRecDepth 100000
/-! more values and operations: `is not True` -/
namespace J
def oNotB : D → D → List D → R D
  | .bl a, .bl b, S => .ok (.bl (!decide (a = b))) S
  | _, _, _ => .bad
end J
namespace J
def bMinN : List D → List D → R D
  | [x], S => match seqOf S x with
    | some xs => match intsOf xs with
      | some (n :: ns) => .ok (.int (ns.foldl (fun a y => if y < a then y else a) n)) S
      | some [] => .ok .non S
      | none => .bad
    | none => .bad
  | _, _ => .bad
end J
namespace J
def bAnyS : List D → List D → R D
  | [x], S => match seqOf S x with
    | some xs => match scals xs with
      | some bs => .ok (.bl (bs.any id)) S
      | none => .bad
    | none => .bad
  | _, _ => .bad
end J
set_option linter.all false
set_option maxRecDepth 100000
/-! dicts whose keys are tuples -/
namespace J
def dctT (S : List D) : D → Option (List (List Ky) × List D)
  | .dcT ks ds => some (ks, ds)
  | .loc n => match S[n]? with
    | some (.dcT ks ds) => some (ks, ds)
    | _ => none
  | _ => none
def getT : List (List Ky) → List D → List Ky → Option D
  | q :: ks, d :: ds, k => if q = k then some d else getT ks ds k
  | _, _, _ => none
def eDctTL : ME := fun _ S => .ok (.loc S.length) (S ++ [.dcT [] []])
def kDispT (x y : D) (S : List D) : R D := match keyT x with
  | some q => .ok (.dcT [q] [y]) S
  | none => .bad
def eDispT (k v : ME) : ME := fun E S => (k E S).bind fun x S1 => (v E S1).bind fun y S2 => kDispT x y S2
def eGet2T (o a b : ME) : ME := fun E S => (o E S).bind fun x S1 => if (dctT S1 x).isSome = true then (a E S1).bind fun y S2 => (b E S2).bind fun z S3 => match dctT S3 x, keyT y with
  | some (ks, ds), some q => .ok ((getT ks ds q).getD z) S3
  | _, _ => .bad else .bad
def itemsT (ks : List (List Ky)) (ds : List D) : List D := List.zipWith (fun k d => D.tup [.tup (k.map kD), d]) ks ds
def iItemsT (ma : ME) : MI := fun E S => (ma E S).bind fun x S1 => match x with
  | .dcT ks ds => .ok (Src.its (itemsT ks ds)) S1
  | _ => .bad
end J
set_option linter.all false
set_option maxRecDepth 100000
/-! exceptions of own classes without fields; tuples of known make -/
namespace J
open PySem (Str)
def sRaise (c : Str) : MS := fun E S => .exc c [] E S
def sTryIs (kt : Str → Option Bool) (i j : Nat) (u v : D) (mb : MS) : MS := fun E S => match mb E S with
  | .exc c fs E1 S1 => if (fs.isEmpty && decide (i < E1.length)) = true then (match kt c with
    | some b => .nx ((E1.set j (some (if b = true then u else v))).set i none) S1
    | none => .bad) else .bad
  | o => o
def bTupK : List D → List D → R D
  | [x], S => match lstOf S x with
    | some xs => .ok (.tuk xs) S
    | none => .bad
  | _, _ => .bad
def mCountK : D → List D → List D → R D
  | .tuk xs, [.int k], S => match intsOf xs with
    | some ns => .ok (.int (ns.count k : Nat)) S
    | none => .bad
  | _, _, _ => .bad
def isTuk : D → Bool
  | .tuk _ => true
  | _ => false
def eMethK (f : D → List D → List D → R D) (o : ME) (a : MA) : ME := fun E S => (o E S).bind fun x S1 => if isTuk x = true then (a E S1).bind fun xs S2 => f x xs S2 else .bad
end J
set_option linter.all false
set_option maxRecDepth 100000
/-! comprehensions with two fors: the new list stands at the end of the store while the second source is gone over -/
namespace J
def lcIn (src : Src) (t : Tg) (c : MT) (e : ME) (E : Env) (p : Nat) : Nat → Nat → List D → Option (List D)
  | 0, _, S => if src.alive S = true then some S else none
  | k + 1, i, S => if src.alive S = true then match src.at_ S i with
    | none => none
    | some d => match t.bind d E with
      | none => none
      | some E1 => match c E1 S with
        | .ok b S1 => if b = true then match e E1 S1 with
            | .ok x S2 => match S2[p]? with
              | some (.lst acc) => if S2.length = p + 1 ∧ acc.length < SL then lcIn src t c e E p k (i + 1) (S2.set p (.lst (acc ++ [x]))) else none
              | _ => none
            | _ => none
          else if S1.length = p + 1 then lcIn src t c e E p k (i + 1) S1 else none
        | _ => none
    else none
def lcGo2 (src : Src) (t : Tg) (c : MT) (own1 : List Nat) (m1 : MI) (t1 : Tg) (c1 : MT) (e : ME) (E : Env) : Nat → Nat → List D → List D → R (List D)
  | 0, _, acc, S => if src.alive S = true then .ok acc S else .bad
  | k + 1, i, acc, S => if src.alive S = true then match src.at_ S i with
    | none => .bad
    | some d => match t.bind d E with
      | none => .bad
      | some E1 => match c E1 S with
        | .ok b S1 => if b = true then match m1 E1 (S1 ++ [.lst acc]) with
            | .ok src1 S2 => match lcIn src1 t1 c1 e (wipeE E1 own1) S1.length src1.len 0 S2 with
              | some S3 => if S2.length = S1.length + 1 ∧ S3.length = S1.length + 1 ∧ S3.all D.flat = true then match S3[S1.length]? with
                | some (.lst acc3) => lcGo2 src t c own1 m1 t1 c1 e E k (i + 1) acc3 (S3.take S1.length)
                | _ => .bad else .bad
              | none => .bad
            | _ => .bad
          else lcGo2 src t c own1 m1 t1 c1 e E k (i + 1) acc S1
        | _ => .bad
    else .bad
def lcRun2 (own : List Nat) (t : Tg) (m : MI) (c : MT) (own1 : List Nat) (m1 : MI) (t1 : Tg) (c1 : MT) (e : ME) : Env → List D → R (List D) := fun E S => match m E S with
  | .ok src S1 => lcGo2 src t c own1 m1 t1 c1 e (wipeE E own) src.len 0 [] S1
  | .exc c fs S1 => .exc c fs S1
  | .bad => .bad
def eLc2 (own : List Nat) (t : Tg) (m : MI) (c : MT) (own1 : List Nat) (m1 : MI) (t1 : Tg) (c1 : MT) (e : ME) : ME := fun E S => (lcRun2 own t m c own1 m1 t1 c1 e E S).bind fun acc S1 => .ok (.lst acc) S1
def eLc2L (own : List Nat) (t : Tg) (m : MI) (c : MT) (own1 : List Nat) (m1 : MI) (t1 : Tg) (c1 : MT) (e : ME) : ME := fun E S => (lcRun2 own t m c own1 m1 t1 c1 e E S).bind fun acc S1 => .ok (.loc S1.length) (S1 ++ [.lst acc])
end J
set_option linter.all false
set_option maxRecDepth 100000
/-! order of tuples: sorted, min, max of data -/
namespace J
mutual
def D.lt : D → D → Bool
  | .int a, .int b => decide (a < b)
  | .tup xs, .tup ys => D.lts xs ys
  | _, _ => false
def D.lts : List D → List D → Bool
  | [], [] => false
  | [], _ :: _ => true
  | _ :: _, [] => false
  | x :: xs, y :: ys => if D.eqB x y = true then D.lts xs ys else D.lt x y
end
mutual
def D.shp : D → D → Bool
  | .int _, .int _ => true
  | .tup xs, .tup ys => D.shps xs ys
  | _, _ => false
def D.shps : List D → List D → Bool
  | [], [] => true
  | x :: xs, y :: ys => x.shp y && D.shps xs ys
  | _, _ => false
end
def allInt : List D → Bool
  | [] => true
  | .int _ :: r => allInt r
  | _ :: _ => false
def intTup : D → Bool
  | .tup (x :: xs) => allInt (x :: xs)
  | _ => false
def sortHd : D → Bool
  | .tup (_ :: _) => true
  | .int _ => true
  | _ => false
def insD (n : D) : List D → List D
  | [] => [n]
  | m :: ms => if D.lt m n = true then m :: insD n ms else n :: m :: ms
def sortD : List D → List D
  | [] => []
  | n :: ns => insD n (sortD ns)
def ordOk (x : D) : Bool := x.cmpb && decide (x.depth ≤ 60)
def okSort (xs : List D) : Bool := match xs with
  | [] => true
  | [_] => true
  | x :: _ => xs.all ordOk && (xs.all intTup || (sortHd x && xs.all fun y => x.shp y))
def lstAny (S : List D) : D → Option (List D)
  | .lst ds => some ds
  | .rdl ds => some ds
  | .loc n => match S[n]? with
    | some (.lst ds) => some ds
    | _ => none
  | _ => none
def bSortedD : List D → List D → R D
  | [x], S => match lstAny S x with
    | some xs => if okSort xs = true then .ok (.lst (sortD xs)) S else .bad
    | none => .bad
  | _, _ => .bad
end J
namespace J
def sDrop (ids : List Nat) (m : MS) : MS := fun E S => match m E S with
  | .nx E1 S1 => .nx (wipeE E1 ids) S1
  | _ => .bad
end J
set_option linter.all false
set_option maxRecDepth 100000
/-! exceptions of own classes that keep a whole number as their field -/
namespace J
open PySem (Str)
def sRaiseF (c f : Str) (a : ME) : MS := fun E S => (a E S).toO E fun d S1 => match d with
  | .int i => if i.natAbs.log2 < 1920 then .exc c [(f, .int i)] E S1 else .bad
  | _ => .bad
def sTryFld (kt : Str → Option Bool) (f : Str) (i j : Nat) (v : D) (mb : MS) : MS := fun E S => match mb E S with
  | .exc c fs E1 S1 => if i < E1.length then (match kt c with
    | some true => (match fs with
      | [(g, d)] => if g = f then .nx ((E1.set j (some d)).set i none) S1 else .bad
      | _ => .bad)
    | some false => .nx ((E1.set j (some v)).set i none) S1
    | none => .bad) else .bad
  | o => o
end J
set_option linter.all false
set_option maxRecDepth 100000
/-! more of tuples of known make: len, in, index; list(range(n)) -/
namespace J
def bLenK : List D → List D → R D
  | [.tuk xs], S => .ok (.int xs.length) S
  | xs, S => bLen xs S
def oInK (x y : D) (S : List D) : R D := match y with
  | .tuk xs => if cmpOk (seen S x) = true ∧ xs.all cmpOk = true then .ok (.bl (inD (seen S x) xs)) S else .bad
  | _ => oIn x y S
def oNinK (x y : D) (S : List D) : R D := match y with
  | .tuk xs => if cmpOk (seen S x) = true ∧ xs.all cmpOk = true then .ok (.bl (!inD (seen S x) xs)) S else .bad
  | _ => oNin x y S
def mIndexK : D → List D → List D → R D
  | .tuk xs, [.int k], S => match intsOf xs with
    | some ns => if k ∈ ns then .ok (.int (ns.idxOf k : Nat)) S else .bad
    | none => .bad
  | _, _, _ => .bad
def mIndexL : D → List D → List D → R D
  | x, [.int k], S => match lstAny S x with
    | some xs => match intsOf xs with
      | some ns => if k ∈ ns then .ok (.int (ns.idxOf k : Nat)) S else .bad
      | none => .bad
    | none => .bad
  | _, _, _ => .bad
def eLstRg (a : ME) : ME := fun E S => (a E S).bind fun x S1 => match x with
  | .int n => if 0 ≤ n ∧ n ≤ SL then .ok (.lst ((List.range n.toNat).map fun i : Nat => .int (i : Int))) S1 else .bad
  | _ => .bad
end J
set_option linter.all false
set_option maxRecDepth 100000
/-! l.extend(l2) -/
namespace J
def mExtend : D → List D → List D → R D
  | .loc n, [y], S => match S[n]? with
    | some (.lst xs) => match lstOf S y with
      | some zs => if xs.length + zs.length ≤ SL then .ok .non (S.set n (.lst (xs ++ zs))) else .bad
      | none => .bad
    | _ => .bad
  | _, _, _ => .bad
end J
set_option linter.all false
set_option maxRecDepth 100000
/-! min of tuples of one shape -/
namespace J
def minT (x : D) (xs : List D) : D := xs.foldl (fun a y => if D.lt y a = true then y else a) x
def okMin (x : D) (xs : List D) : Bool := (x :: xs).all ordOk && (x :: xs).all fun y => x.shp y
def bMinT : List D → List D → R D
  | [x], S => match lstAny S x with
    | some (y :: ys) => if okMin y ys = true then .ok (minT y ys) S else .bad
    | _ => .bad
  | _, _ => .bad
end J
set_option linter.all false
set_option maxRecDepth 100000
/-! an except that returns -/
namespace J
open PySem (Str)
def sTryRet (kt : Str → Option Bool) (f : Str) (i : Nat) (k : Int) (mb : MS) : MS := fun E S => match mb E S with
  | .exc c fs E1 S1 => if i < E1.length then (match kt c with
    | some true => (match fs with
      | [(g, .int m)] => if g = f then .rt (.bl (decide (m = k))) S1 else .bad
      | _ => .bad)
    | some false => .rt (.bl false) S1
    | none => .bad) else .bad
  | o => o
end J
set_option linter.all false
set_option maxRecDepth 100000
/-! range(a, b, -1); d.setdefault(k, x) of a dict that changes -/
namespace J
def iRngDn (a b c : ME) : MI := fun E S => (a E S).bind fun x S1 => (b E S1).bind fun y S2 => (c E S2).bind fun z S3 => match x, y, z with
  | .int i, .int j, .int k => if okR i = true ∧ okR j = true ∧ k = -1 then .ok (.its ((List.range (i - j).toNat).map fun t : Nat => .int (i + (t : Nat) * -1))) S3 else .bad
  | _, _, _ => .bad
def isDctB (S : List D) : D → Bool
  | .loc n => match S[n]? with
    | some (.dct _ _) => true
    | some (.dcT _ _) => true
    | _ => false
  | _ => false
def kSetd (x y z : D) (S : List D) : R D := match x with
  | .loc n => match S[n]? with
    | some (.dct ks ds) => match keyOf y with
      | some k => match getK ks ds k with
        | some d => if ks.length < SL then .ok d S else .bad
        | none => if ks.length < SL then .ok z (S.set n (.dct (ks ++ [k]) (ds ++ [z]))) else .bad
      | none => .bad
    | some (.dcT ks ds) => match keyT y with
      | some k => match getT ks ds k with
        | some d => if ks.length < SL then .ok d S else .bad
        | none => if ks.length < SL then .ok z (S.set n (.dcT (ks ++ [k]) (ds ++ [z]))) else .bad
      | none => .bad
    | _ => .bad
  | _ => .bad
def eSetd (o a b : ME) : ME := fun E S => (o E S).bind fun x S1 => if isDctB S1 x = true then (a E S1).bind fun y S2 => (b E S2).bind fun z S3 => kSetd x y z S3 else .bad
def forGoN (src : Src) (t : Tg) (b : MS) : Nat → Nat → Env → List D → O
  | 0, _, E, S => if src.alive S = true then .nx E S else .bad
  | k + 1, i, E, S => if src.alive S = true then match src.at_ S i with
    | none => .bad
    | some d => match t.bind d E with
      | none => .bad
      | some E1 => match b E1 S with
        | .nx E2 S2 => forGoN src t b k (i + 1) E2 S2
        | .ct E2 S2 => forGoN src t b k (i + 1) E2 S2
        | .bk E2 S2 => .nx E2 S2
        | o => o
    else .bad
def sForN (t : Tg) (m : MI) (b : MS) : MS := fun E S => match m E S with
  | .ok src S1 => forGoN src t b src.len 0 E S1
  | .exc c fs S1 => .exc c fs E S1
  | .bad => .bad
def oMulR : D → D → List D → R D
  | .int k, .tup xs, S => if xs ≠ [] ∧ 2 ≤ k ∧ k ≤ 1000 ∧ xs.length ≤ 1000 then .ok (.tup (List.replicate k.toNat xs).flatten) S else .bad
  | .int k, y, S => match lstOf S y with
    | some xs => if -9223372036854775808 ≤ k ∧ k < 9223372036854775808 ∧ xs.length * k.toNat ≤ SL then .ok (.lst (List.replicate k.toNat xs).flatten) S else .bad
    | none => .bad
  | _, _, _ => .bad
def dcGoL (src : Src) (t : Tg) (c : MT) (ek ev : ME) (E : Env) (n : Nat) : Nat → Nat → List Ky → List D → List D → R D
  | 0, _, ks, ds, S => if src.alive S = true then .ok (.loc S.length) (S ++ [.dct ks ds]) else .bad
  | k + 1, i, ks, ds, S => if src.alive S = true then match src.at_ S i with
    | none => .bad
    | some d => match t.bind d E with
      | none => .bad
      | some E1 => match c E1 S with
        | .ok b S1 => if b = true then match ek E1 S1 with
            | .ok x S2 => match keyOf x with
              | none => .bad
              | some q => match ev E1 S2 with
                | .ok y S3 => if n ≤ S3.length then dcGoL src t c ek ev E n k (i + 1) (putKs ks q) (putDs ks ds q y) S3 else .bad
                | _ => .bad
            | _ => .bad
          else if n ≤ S1.length then dcGoL src t c ek ev E n k (i + 1) ks ds S1 else .bad
        | _ => .bad
    else .bad
def eDcL (own : List Nat) (t : Tg) (m : MI) (c : MT) (ek ev : ME) : ME := fun E S => match m E S with
  | .ok src S1 => if src.len ≤ SL then dcGoL src t c ek ev (wipeE E own) S1.length src.len 0 [] [] S1 else .bad
  | .exc c fs S1 => .exc c fs S1
  | .bad => .bad
def bListD : List D → List D → R D
  | [.loc n], S => match S[n]? with
    | some (.dct ks _) => .ok (.lst (ks.map kD)) S
    | _ => .bad
  | _, _ => .bad
end J
set_option linter.all false
set_option maxRecDepth 100000
/-! min(xs, key=f), f a def that gives an int and changes nothing -/
namespace J
def keyF (F : MF) (d : D) : Option (D × Int) := if d.flat = true then match F [d] [] with
  | .ok (.int k) [] => some (d, k)
  | _ => none else none
def minK (p : D × Int) (ps : List (D × Int)) : D × Int := ps.foldl (fun a y => if decide (y.2 < a.2) = true then y else a) p
def bMinK (F : MF) : List D → List D → R D
  | [x], S => match lstAny S x with
    | some ys => match ys.mapM (keyF F) with
      | some (p :: ps) => .ok (minK p ps).1 S
      | _ => .bad
    | none => .bad
  | _, _ => .bad
/-! dicts whose keys are tuples: d[k], in; {k: v} that changes -/
def keyInT (ks : List (List Ky)) (k : List Ky) : Bool := ks.any fun q => decide (q = k)
def oIxT (x i : D) (S : List D) : R D := match dctT S x with
  | some (ks, ds) => match keyT i with
    | some k => match getT ks ds k with
      | some d => .ok d S
      | none => .bad
    | none => .bad
  | none => .bad
def oInT (x y : D) (S : List D) : R D := match dctT S y with
  | some (ks, _) => match keyT x with
    | some k => .ok (.bl (keyInT ks k)) S
    | none => .bad
  | none => .bad
def oNinT (x y : D) (S : List D) : R D := match dctT S y with
  | some (ks, _) => match keyT x with
    | some k => .ok (.bl (!keyInT ks k)) S
    | none => .bad
  | none => .bad
def kDisp1T (x y : D) (S : List D) : R D := match keyT x with
  | some q => .ok (.loc S.length) (S ++ [.dcT [q] [y]])
  | none => .bad
def eDisp1TL (k v : ME) : ME := fun E S => (k E S).bind fun x S1 => (v E S1).bind fun y S2 => kDisp1T x y S2
end J
namespace J
open PySem (Str)
def sTryC (kt : Str → Option Bool) (v : D) (mb : MS) : MS := fun E S => match mb E S with
  | .exc c _ _ S1 => match kt c with
    | some _ => .rt v S1
    | none => .bad
  | o => o
end J
namespace J
def oAddL (x y : D) (S : List D) : R D := mkL (oAdd x y S)
end J
set_option linter.all false
set_option maxRecDepth 100000
/-! tuples of known make that are made by +, slices, * n; what else is asked of them -/
namespace J
def bTupD (xs : List D) (S : List D) : R D := if xs.length ≤ SL then .ok (.tuk xs) S else .bad
def oAddK (x y : D) (S : List D) : R D := match x, y with
  | .tuk xs, .tuk ys => if xs.length + ys.length ≤ SL then .ok (.tuk (xs ++ ys)) S else .bad
  | _, _ => oAdd x y S
def oSlK (x : D) (lo hi : Option Int) (S : List D) : R D := match x with
  | .tuk xs => .ok (.tuk (cutOf xs lo hi)) S
  | _ => oSl x lo hi S
def eSlK (a : ME) (lo hi : Option ME) : ME := fun E S => (a E S).bind fun x S1 => (ePart lo E S1).bind fun l S2 => (ePart hi E S2).bind fun h S3 => oSlK x l h S3
def oRevK (x : D) (S : List D) : R D := match x with
  | .tuk xs => .ok (.tuk xs.reverse) S
  | _ => .bad
def eRevK (ma : ME) : ME := eUn oRevK ma
def oMulK (x y : D) (S : List D) : R D := match x, y with
  | .tuk [d], .int k => if 0 ≤ k ∧ k ≤ 1000 then .ok (.tuk (List.replicate k.toNat d)) S else .bad
  | _, _ => .bad
def oIxK (x i : D) (S : List D) : R D := match x with
  | .tuk xs => match i with
    | .int k => match atOf xs k with
      | some d => .ok d S
      | none => .bad
    | _ => .bad
  | _ => oIx x i S
def oNeK (x y : D) (S : List D) : R D := match x, y with
  | .tuk xs, .tup [] => if cmpOk (.tup xs) = true then .ok (.bl (!xs.isEmpty)) S else .bad
  | _, _ => oNe x y S
def bListK : List D → List D → R D
  | [.tuk xs], S => .ok (.lst xs) S
  | xs, S => bList xs S
def bSortedK : List D → List D → R D
  | [.tuk xs], S => match intsOf xs with
    | some ns => .ok (.lst ((sortI ns).map D.int)) S
    | none => .bad
  | xs, S => bSorted xs S
end J
set_option linter.all false
set_option maxRecDepth 100000
/-! a tuple of known make of any items, n times -/
namespace J
def oMulG (x y : D) (S : List D) : R D := match x, y with
  | .tuk xs, .int k => if xs ≠ [] ∧ 2 ≤ k ∧ k ≤ 1000 ∧ xs.length ≤ 1000 then .ok (.tuk (List.replicate k.toNat xs).flatten) S else .bad
  | _, _ => .bad
end J
set_option linter.all false
set_option maxRecDepth 100000
/-! dicts whose keys are tuples: list(d), sorted(d.keys()) -/
namespace J
open PySem (Str)
def tupK (k : List Ky) : D := .tup (k.map kD)
def bListT : List D → List D → R D
  | [x], S => match dctT S x with
    | some (ks, _) => if ks.length ≤ SL then .ok (.lst (ks.map tupK)) S else .bad
    | none => .bad
  | _, _ => .bad
def kSortT (x : D) (S : List D) : R D := match dctT S x with
  | some (ks, _) => if okSort (ks.map tupK) = true then .ok (.lst (sortD (ks.map tupK))) S else .bad
  | none => .bad
def eSortT (a : ME) : ME := fun E S => (a E S).bind fun x S1 => kSortT x S1
def bLenT : List D → List D → R D
  | [.loc n], S => match S[n]? with
    | some (.dcT ks _) => .ok (.int ks.length) S
    | _ => .bad
  | _, _ => .bad
/-! loops whose turns leave new objects in names: these stay as they are from then on -/
def goneF (n : Nat) (S : List D) : Option D → Option D
  | some d => if D.flat d = true then some d else match d with
    | .loc k => if k < n then some (.loc k) else match S[k]? with
      | some o => if D.flat o = true then some o else none
      | none => none
    | _ => none
  | none => none
def gcF (n : Nat) (E : Env) (S : List D) : Option (Env × List D) :=
  if S.length = n then some (E, S) else if n ≤ S.length ∧ (S.take n).all D.flat = true then some (E.map (goneF n S), S.take n) else none
def forGoF (src : Src) (t : Tg) (b : MS) (n : Nat) : Nat → Nat → Env → List D → O
  | 0, _, E, S => if src.alive S = true then .nx E S else .bad
  | k + 1, i, E, S => if src.alive S = true then match src.at_ S i with
    | none => .bad
    | some d => match t.bind d E with
      | none => .bad
      | some E1 => match b E1 S with
        | .nx E2 S2 => match gcF n E2 S2 with
          | some (E3, S3) => forGoF src t b n k (i + 1) E3 S3
          | none => .bad
        | .ct E2 S2 => match gcF n E2 S2 with
          | some (E3, S3) => forGoF src t b n k (i + 1) E3 S3
          | none => .bad
        | .bk E2 S2 => .nx E2 S2
        | o => o
    else .bad
def sForF (t : Tg) (m : MI) (b : MS) : MS := fun E S => match m E S with
  | .ok src S1 => forGoF src t b S1.length src.len 0 E S1
  | .exc c fs S1 => .exc c fs E S1
  | .bad => .bad
def whileGoF (t : MT) (b : MS) (n : Nat) : Nat → Env → List D → O
  | 0, _, _ => .bad
  | k + 1, E, S => (t E S).tO E fun c S1 => if c = true then match b E S1 with
      | .nx E2 S2 => match gcF n E2 S2 with
        | some (E3, S3) => whileGoF t b n k E3 S3
        | none => .bad
      | .ct E2 S2 => match gcF n E2 S2 with
        | some (E3, S3) => whileGoF t b n k E3 S3
        | none => .bad
      | .bk E2 S2 => .nx E2 S2
      | o => o
    else .nx E S1
def sWhileF (fuel : Nat) (t : MT) (b : MS) : MS := fun E S => whileGoF t b S.length fuel E S
end J
namespace J
/-! for .. in d.keys(), the keys tuples; statements whose new objects stay behind them -/
def iKeysT (ma : ME) : MI := fun E S => (ma E S).bind fun x S1 => match x with
  | .dcT ks _ => .ok (Src.its (ks.map tupK)) S1
  | _ => .bad
def sGcF (m : MS) : MS := fun E S => match m E S with
  | .nx E1 S1 => match gcF S.length E1 S1 with
    | some (E2, S2) => .nx E2 S2
    | none => .bad
  | o => o
end J
set_option linter.all false
set_option maxRecDepth 100000
/-! permutations(range(n)) -/
namespace J
def pnx (n : Nat) : Nat → List Nat → List Nat → Option (List Nat × List Nat)
  | 0 => fun _ _ => none
  | p + 1 => fun ix cy =>
    if (cy.getD p 0 - 1 == 0) = true then pnx n p (ix.take p ++ ix.drop (p + 1) ++ [ix.getD p 0]) (cy.set p (n - p))
    else some ((ix.set p (ix.getD (n - (cy.getD p 0 - 1)) 0)).set (n - (cy.getD p 0 - 1)) (ix.getD p 0), cy.set p (cy.getD p 0 - 1))
def permRun (n : Nat) : Nat → List Nat → List Nat → Option (List (List Nat))
  | 0, _, _ => none
  | f + 1, ix, cy => match pnx n n ix cy with
    | none => some [ix]
    | some (a, b) => (permRun n f a b).map (ix :: ·)
def permsOf (n : Nat) : Option (List (List Nat)) := permRun n 100000 (List.range n) ((List.range n).map fun i => n - i)
def rowD (fz : Bool) (row : List Nat) : D := if fz = true then .tuk (row.map fun k : Nat => D.int k) else .tup (row.map fun k : Nat => D.int k)
def kPerm (fz : Bool) (x : D) (S : List D) : R Src := match x with
  | .int j => if 0 ≤ j ∧ j ≤ 100 then match permsOf j.toNat with
    | some L => .ok (Src.its (L.map (rowD fz))) S
    | none => .bad
    else .bad
  | _ => .bad
def iPermRg (fz : Bool) (a : ME) : MI := fun E S => (a E S).bind fun x S1 => kPerm fz x S1
end J
set_option linter.all false
set_option maxRecDepth 100000
/-! combinations(range(n), m) -/
namespace J
def cnx (n : Nat) (ix : List Nat) : Option (List Nat) :=
  ((List.range ix.length).reverse.find? fun i => ix.getD i 0 != i + n - ix.length).map fun i => ix.take i ++ (List.range (ix.length - i)).map fun j => ix.getD i 0 + 1 + j
def combRun (n : Nat) : Nat → List Nat → Option (List (List Nat))
  | 0, _ => none
  | f + 1, ix => match cnx n ix with
    | none => some [ix]
    | some a => (combRun n f a).map (ix :: ·)
def combsOf (n m : Nat) : Option (List (List Nat)) := combRun n 100000 (List.range m)
def kComb (x : D) (y : Option (Option D)) (S : List D) : R Src := match x, y with
  | .int i, some (some (.int j)) => if 0 ≤ i ∧ i ≤ 100 ∧ 0 ≤ j ∧ j ≤ i then match combsOf i.toNat j.toNat with
    | some L => .ok (Src.its (L.map (rowD false))) S
    | none => .bad
    else .bad
  | _, _ => .bad
def iCombRg (a : ME) (k : Nat) : MI := fun E S => (a E S).bind fun x S1 => kComb x (E[k]?) S1
end J
set_option linter.all false
set_option maxRecDepth 100000
/-! truth of tuples of known make -/
namespace J
def tTrK (a : ME) : MT := fun E S => (a E S).bind fun x S1 => match x with
  | .tuk xs => .ok (!xs.isEmpty) S1
  | x => match truth S1 x with
    | some c => .ok c S1
    | none => .bad
end J
namespace J
def mExtendS : D → List D → List D → R D
  | .loc n, [y], S => match S[n]? with
    | some (.lst xs) => match y with
      | .tup zs => if xs.length + zs.length ≤ SL then .ok .non (S.set n (.lst (xs ++ zs))) else .bad
      | .tuk zs => if xs.length + zs.length ≤ SL then .ok .non (S.set n (.lst (xs ++ zs))) else .bad
      | y => mExtend (.loc n) [y] S
    | _ => .bad
  | _, _, _ => .bad
end J
set_option linter.all false
set_option maxRecDepth 100000
/-! sorted of a list of tuples of known make, of ints -/
namespace J
def tukRow : D → Option D
  | .tuk (z :: r) => if allInt (z :: r) = true then some (.tup (z :: r)) else none
  | _ => none
def tukRows : List D → Option (List D)
  | [] => some []
  | d :: ds => match tukRow d, tukRows ds with
    | some a, some b => some (a :: b)
    | _, _ => none
def toTuk : D → D
  | .tup es => .tuk es
  | d => d
def bSortedU : List D → List D → R D
  | [x], S => match lstAny S x with
    | some xs => match tukRows xs with
      | some rows => if rows.all ordOk = true then .ok (.lst ((sortD rows).map toTuk)) S else .bad
      | none => .bad
    | none => .bad
  | _, _ => .bad
end J
set_option linter.all false
set_option maxRecDepth 100000
/-! min of a list of tuples of known make, of one shape -/
namespace J
def unTuks : List D → Option (List D)
  | [] => some []
  | .tuk es :: ds => (unTuks ds).map (.tup es :: ·)
  | _ :: _ => none
def bMinU : List D → List D → R D
  | [x], S => match lstAny S x with
    | some xs => match unTuks xs with
      | some (y :: ys) => if okMin y ys = true then .ok (toTuk (minT y ys)) S else .bad
      | _ => .bad
    | none => .bad
  | _, _ => .bad
def oNeU (x y : D) (S : List D) : R D := match x, y with
  | .lst ds, .lst [] => match unTuks ds with
    | some rows => if cmpOk (.lst rows) = true then .ok (.bl (!rows.isEmpty)) S else .bad
    | none => oNe (.lst ds) (.lst []) S
  | _, _ => oNe x y S
end J
set_option Elab.async false
set_option linter.all false
set_option maxRecDepth 100000
namespace J
open PySem PySem.Spec PyProof.Rows L2

/-! ### the world: which addresses may change, which of them stand in the store, the heap -/
structure W where
  thA : Addr → Prop
  rhA : List Addr
  H : Hp
structure G where
  K : PySem.W.Frag
  mg : Str → Option Value
def WrT (K : PySem.W.Frag) (a : Addr) (xs : List V) : Prop :=
  ∃ (o : Obj) (its : Array Value) (n : Nat), K.lookup a = some o ∧ o.cls = .type "tuple" ∧ o.data = .seq its n ∧ its.size ≤ sizeLine ∧ Vals xs its.toList
def WrL (K : PySem.W.Frag) (a : Addr) (xs : List V) : Prop :=
  ∃ (o : Obj) (its : Array Value) (n : Nat), K.lookup a = some o ∧ o.cls = .type "list" ∧ o.dict = none ∧ o.data = .seq its n ∧ its.size ≤ sizeLine ∧ Vals xs its.toList
def TupAt (g : G) (w : W) (a : Addr) (xs : List V) : Prop := w.H a = some (.tup xs) ∧ ¬ w.thA a
def RdlAt (g : G) (w : W) (a : Addr) (xs : List V) : Prop := (Rd w.H a (.lst xs) ∧ ¬ w.thA a) ∨ WrL g.K a xs
theorem TupAt.sq {g : G} {w : W} {a : Addr} {xs : List V} (h : TupAt g w a xs) : SqT g.K w.H a xs := .inl (.inl h.1)
theorem RdlAt.sq {g : G} {w : W} {a : Addr} {xs : List V} (h : RdlAt g w a xs) : SqL g.K w.H a xs := h.elim (fun h => .inl h.1) .inr

mutual
def RD (g : G) (w : W) : D → V → Prop
  | .non, v => v = .non
  | .bl b, v => v = .bl b
  | .int i, v => v = .int i
  | .str x, v => v = .str x
  | .ty n, v => v = .ty n
  | .tup ds, v => ∃ a vs, v = .ref a ∧ TupAt g w a vs ∧ RDs g w ds vs
  | .lst ds, v => ∃ a vs, v = .ref a ∧ w.H a = some (.lst vs) ∧ ¬ w.thA a ∧ RDs g w ds vs
  | .rdl ds, v => ∃ a vs, v = .ref a ∧ RdlAt g w a vs ∧ RDs g w ds vs
  | .dct ks ds, v => ∃ a vs, v = .ref a ∧ Rd w.H a (.dK (ks.zip vs)) ∧ ks.length = vs.length ∧ ¬ w.thA a ∧ RDs g w ds vs
  | .dcT ks ds, v => ∃ a vs, v = .ref a ∧ Rd w.H a (.dT (ks.zip vs)) ∧ ks.length = vs.length ∧ ¬ w.thA a ∧ RDs g w ds vs
  | .tuk ds, v => ∃ a vs o, v = .ref a ∧ w.H a = some (.frz o (.tup vs)) ∧ o.dict = none ∧ ¬ w.thA a ∧ RDs g w ds vs
  | .loc n, v => ∃ a, v = .ref a ∧ w.rhA[n]? = some a
def RDs (g : G) (w : W) : List D → List V → Prop
  | [], vs => vs = []
  | d :: ds, vs => ∃ v r, vs = v :: r ∧ RD g w d v ∧ RDs g w ds r
end
def RO (g : G) (w : W) : D → Addr → Prop
  | .lst ds, a => ∃ vs, w.H a = some (.lst vs) ∧ RDs g w ds vs
  | .dct ks ds, a => ∃ vs, w.H a = some (.dK (ks.zip vs)) ∧ ks.length = vs.length ∧ RDs g w ds vs
  | .dcT ks ds, a => ∃ vs, w.H a = some (.dT (ks.zip vs)) ∧ ks.length = vs.length ∧ RDs g w ds vs
  | _, _ => False
def dkt : Sum (List (Key × V)) (List (List Key × V)) → HO
  | .inl k => .dK k
  | .inr k => .dT k
theorem dkt_frz {o : Obj} {u : HO} (k : Sum (List (Key × V)) (List (List Key × V))) : HO.frz o u ≠ dkt k := by
  cases k <;> (intro z; simp [dkt] at z)
theorem dkt_lst {u : List V} (k : Sum (List (Key × V)) (List (List Key × V))) : HO.lst u ≠ dkt k := by
  cases k <;> (intro z; simp [dkt] at z)
theorem dkt_tup {u : List V} (k : Sum (List (Key × V)) (List (List Key × V))) : HO.tup u ≠ dkt k := by
  cases k <;> (intro z; simp [dkt] at z)
structure Good (w : W) : Prop where
  nd : w.rhA.Nodup
  sub : ∀ a, a ∈ w.rhA → w.thA a
  al : ∀ a, w.thA a → w.H a ≠ none
  nt : ∀ a, w.thA a → ∀ xs, w.H a ≠ some (.tup xs)
structure Ext (w w' : W) : Prop where
  rho : ∃ τ, w'.rhA = w.rhA ++ τ ∧ ∀ a, a ∈ τ → w.H a = none
  th1 : ∀ a, w.thA a → w'.thA a
  th2 : ∀ a, w'.thA a → w.thA a ∨ w.H a = none
  kp : ∀ a o, w.H a = some o → a ∉ w.rhA → w'.H a = some o ∨ (¬ w.thA a ∧ ∃ od kvs, o = dkt kvs ∧ w'.H a = some (.frz od (dkt kvs)))
  al : ∀ a, w.H a ≠ none → w'.H a ≠ none
theorem Ext.refl (w : W) : Ext w w := ⟨⟨[], by simp, by simp⟩, fun _ h => h, fun _ h => .inl h, fun _ _ h _ => .inl h, fun _ h => h⟩
theorem none_or {H : Hp} (a : Addr) : H a = none ∨ ∃ o, H a = some o := by
  cases h : H a with
  | none => exact .inl rfl
  | some o => exact .inr ⟨o, rfl⟩
theorem Ext.trans {w w1 w2 : W} (x : Ext w w1) (y : Ext w1 w2) : Ext w w2 := by
  obtain ⟨τ, e1, f1⟩ := x.rho
  obtain ⟨τ2, e2, f2⟩ := y.rho
  have back : ∀ a, w1.H a = none → w.H a = none := fun a h => by
    rcases none_or (H := w.H) a with q | ⟨o, q⟩
    · exact q
    · exact absurd h (x.al a (by rw [q]; simp))
  refine ⟨⟨τ ++ τ2, by rw [e2, e1, List.append_assoc], fun a h => ?_⟩, fun a h => y.th1 a (x.th1 a h), fun a h => ?_, fun a o h n => ?_, fun a h => y.al a (x.al a h)⟩
  · rcases List.mem_append.mp h with h | h
    · exact f1 a h
    · exact back a (f2 a h)
  · rcases y.th2 a h with h | h
    · exact x.th2 a h
    · exact .inr (back a h)
  · have n1 : a ∉ w1.rhA := fun h2 => by
      rw [e1] at h2
      rcases List.mem_append.mp h2 with h2 | h2
      · exact n h2
      · rw [f1 a h2] at h; cases h
    rcases x.kp a o h n with q | ⟨nt, od, kvs, eo, q⟩
    · rcases y.kp a o q n1 with q2 | ⟨nt, od, kvs, eo, q2⟩
      · exact .inl q2
      · exact .inr ⟨fun z => nt (x.th1 a z), od, kvs, eo, q2⟩
    · rcases y.kp a _ q n1 with q2 | ⟨_, od2, kvs2, eo2, q2⟩
      · exact .inr ⟨nt, od, kvs, eo, q2⟩
      · exact absurd eo2 (dkt_frz _)
theorem Ext.kpN {w w' : W} (x : Ext w w') {a : Addr} {o : HO} (h : w.H a = some o) (n : a ∉ w.rhA) (hn : ∀ kvs, o ≠ dkt kvs) : w'.H a = some o := by
  rcases x.kp a o h n with q | ⟨_, od, kvs, eo, q⟩
  · exact q
  · exact absurd eo (hn kvs)
theorem Ext.kpT {w w' : W} (x : Ext w w') {a : Addr} {o : HO} (h : w.H a = some o) (n : a ∉ w.rhA) (ht : w.thA a) : w'.H a = some o := by
  rcases x.kp a o h n with q | ⟨nt, od, kvs, eo, q⟩
  · exact q
  · exact absurd ht nt
theorem Ext.free {w w' : W} (x : Ext w w') {a : Addr} (h : w'.H a = none) : w.H a = none := by
  rcases none_or (H := w.H) a with q | ⟨o, q⟩
  · exact q
  · exact absurd h (x.al a (by rw [q]; simp))
theorem Ext.get {w w' : W} (x : Ext w w') {n : Nat} {a : Addr} (h : w.rhA[n]? = some a) : w'.rhA[n]? = some a := by
  obtain ⟨τ, e, _⟩ := x.rho
  rw [e, List.getElem?_append_left (List.getElem?_eq_some_iff.mp h).1]
  exact h
theorem Ext.th {w w' : W} (x : Ext w w') {a : Addr} {o : HO} (h : w.H a = some o) (n : ¬ w.thA a) : ¬ w'.thA a := fun z => by
  rcases x.th2 a z with z | z
  · exact n z
  · rw [h] at z; cases z
theorem Ext.fz {w w' : W} (G : Good w) (x : Ext w w') {a : Addr} {o : HO} (h : w.H a = some o) (n : ¬ w.thA a) (hn : ∀ kvs, o ≠ dkt kvs := by first | exact dkt_lst | exact dkt_tup | exact dkt_frz) : w'.H a = some o := x.kpN h (fun z => n (G.sub a z)) hn
theorem Ext.fzD {w w' : W} (G : Good w) (x : Ext w w') {a : Addr} {u : HO} (h : Rd w.H a u) (n : ¬ w.thA a) : Rd w'.H a u := by
  have na : a ∉ w.rhA := fun z => n (G.sub a z)
  rcases h with h | ⟨o, h⟩
  · rcases x.kp a _ h na with q | ⟨_, od, kvs2, eo, q⟩
    · exact .inl q
    · exact .inr ⟨od, by rw [eo]; exact q⟩
  · exact .inr ⟨o, x.kpN h na dkt_frz⟩
theorem Ext.thD {w w' : W} (x : Ext w w') {a : Addr} {u : HO} (h : Rd w.H a u) (n : ¬ w.thA a) : ¬ w'.thA a := by
  rcases h with h | ⟨o, h⟩
  · exact x.th h n
  · exact x.th h n
theorem TupAt.mono {g : G} {w w' : W} (G : Good w) (x : Ext w w') {a : Addr} {vs : List V} (h : TupAt g w a vs) : TupAt g w' a vs :=
  ⟨x.fz G h.1 h.2, x.th h.1 h.2⟩
theorem RdlAt.mono {g : G} {w w' : W} (G : Good w) (x : Ext w w') {a : Addr} {vs : List V} (h : RdlAt g w a vs) : RdlAt g w' a vs := by
  rcases h with ⟨h | ⟨o, h⟩, n⟩ | h
  · exact .inl ⟨.inl (x.fz G h n), x.th h n⟩
  · exact .inl ⟨.inr ⟨o, x.fz G h n⟩, x.th h n⟩
  · exact .inr h
mutual
theorem RD.mono {g : G} {w w' : W} (G : Good w) (x : Ext w w') : ∀ (d : D) (v : V), RD g w d v → RD g w' d v
  | .non, _, h => h
  | .bl _, _, h => h
  | .int _, _, h => h
  | .str _, _, h => h
  | .ty _, _, h => h
  | .tup ds, v, h => by
    obtain ⟨a, vs, e, t, r⟩ := h
    exact ⟨a, vs, e, t.mono G x, RDs.mono G x ds vs r⟩
  | .lst ds, v, h => by
    obtain ⟨a, vs, e, t, n, r⟩ := h
    exact ⟨a, vs, e, x.fz G t n, x.th t n, RDs.mono G x ds vs r⟩
  | .rdl ds, v, h => by
    obtain ⟨a, vs, e, t, r⟩ := h
    exact ⟨a, vs, e, t.mono G x, RDs.mono G x ds vs r⟩
  | .dct ks ds, v, h => by
    obtain ⟨a, vs, e, t, l, n, r⟩ := h
    exact ⟨a, vs, e, x.fzD G t n, l, x.thD t n, RDs.mono G x ds vs r⟩
  | .dcT ks ds, v, h => by
    obtain ⟨a, vs, e, t, l, n, r⟩ := h
    exact ⟨a, vs, e, x.fzD G t n, l, x.thD t n, RDs.mono G x ds vs r⟩
  | .tuk ds, v, h => by
    obtain ⟨a, vs, o, e, t, l, n, r⟩ := h
    exact ⟨a, vs, o, e, x.fz G t n, l, x.th t n, RDs.mono G x ds vs r⟩
  | .loc n, v, h => by
    obtain ⟨a, e, t⟩ := h
    exact ⟨a, e, x.get t⟩
theorem RDs.mono {g : G} {w w' : W} (G : Good w) (x : Ext w w') : ∀ (ds : List D) (vs : List V), RDs g w ds vs → RDs g w' ds vs
  | [], _, h => h
  | d :: ds, vs, h => by
    obtain ⟨v, r, e, h1, h2⟩ := h
    exact ⟨v, r, e, RD.mono G x d v h1, RDs.mono G x ds r h2⟩
end
/-! lists of values -/
theorem RDs.length {g : G} {w : W} : ∀ {ds : List D} {vs : List V}, RDs g w ds vs → vs.length = ds.length
  | [], _, h => by cases h; rfl
  | d :: ds, _, h => by
    obtain ⟨v, r, rfl, _, h2⟩ := h
    simp [RDs.length h2]
theorem RDs.get {g : G} {w : W} : ∀ {ds : List D} {vs : List V} {i : Nat} {d : D}, RDs g w ds vs → ds[i]? = some d → ∃ v, vs[i]? = some v ∧ RD g w d v
  | [], _, _, _, _, e => by simp at e
  | d :: ds, _, 0, _, h, e => by
    obtain ⟨v, r, rfl, h1, h2⟩ := h
    simp at e
    subst e
    exact ⟨v, rfl, h1⟩
  | d :: ds, _, i + 1, _, h, e => by
    obtain ⟨v, r, rfl, h1, h2⟩ := h
    obtain ⟨u, h3, h4⟩ := RDs.get (i := i) h2 (by simpa using e)
    exact ⟨u, by simpa using h3, h4⟩
theorem RDs.back {g : G} {w : W} {ds : List D} {vs : List V} {i : Nat} {v : V} (h : RDs g w ds vs) (e : vs[i]? = some v) : ∃ d, ds[i]? = some d ∧ RD g w d v := by
  have l := h.length
  have hi : i < ds.length := by rw [← l]; exact (List.getElem?_eq_some_iff.mp e).1
  obtain ⟨v', h1, h2⟩ := h.get (List.getElem?_eq_getElem hi)
  rw [e] at h1
  cases h1
  exact ⟨_, List.getElem?_eq_getElem hi, h2⟩
theorem RDs.append {g : G} {w : W} : ∀ {ds es : List D} {vs us : List V}, RDs g w ds vs → RDs g w es us → RDs g w (ds ++ es) (vs ++ us)
  | [], _, _, _, h, k => by cases h; exact k
  | d :: ds, _, _, _, h, k => by
    obtain ⟨v, r, rfl, h1, h2⟩ := h
    exact ⟨v, r ++ _, rfl, h1, RDs.append h2 k⟩
theorem RDs.one {g : G} {w : W} {d : D} {v : V} (h : RD g w d v) : RDs g w [d] [v] := ⟨v, [], rfl, h, rfl⟩
theorem RDs.cons {g : G} {w : W} {d : D} {v : V} {ds : List D} {vs : List V} (h : RD g w d v) (t : RDs g w ds vs) : RDs g w (d :: ds) (v :: vs) := ⟨v, vs, rfl, h, t⟩
theorem RDs.drop {g : G} {w : W} : ∀ {ds : List D} {vs : List V} (n : Nat), RDs g w ds vs → RDs g w (ds.drop n) (vs.drop n)
  | _, _, 0, h => h
  | [], _, n + 1, h => by cases h; rfl
  | d :: ds, _, n + 1, h => by
    obtain ⟨v, r, rfl, h1, h2⟩ := h
    exact RDs.drop n h2
theorem RDs.take {g : G} {w : W} : ∀ {ds : List D} {vs : List V} (n : Nat), RDs g w ds vs → RDs g w (ds.take n) (vs.take n)
  | _, _, 0, h => rfl
  | [], _, n + 1, h => by cases h; rfl
  | d :: ds, _, n + 1, h => by
    obtain ⟨v, r, rfl, h1, h2⟩ := h
    exact ⟨v, r.take n, rfl, h1, RDs.take n h2⟩
theorem RDs.set {g : G} {w : W} : ∀ {ds : List D} {vs : List V} (n : Nat) {d : D} {v : V}, RDs g w ds vs → RD g w d v → RDs g w (ds.set n d) (vs.set n v)
  | [], _, _, _, _, h, k => by cases h; rfl
  | e :: ds, _, 0, _, _, h, k => by
    obtain ⟨v, r, rfl, h1, h2⟩ := h
    exact ⟨_, r, rfl, k, h2⟩
  | e :: ds, _, n + 1, _, _, h, k => by
    obtain ⟨v, r, rfl, h1, h2⟩ := h
    exact ⟨v, _, rfl, h1, RDs.set n h2 k⟩
theorem RDs.reverse {g : G} {w : W} : ∀ {ds : List D} {vs : List V}, RDs g w ds vs → RDs g w ds.reverse vs.reverse
  | [], _, h => by cases h; rfl
  | d :: ds, _, h => by
    obtain ⟨v, r, rfl, h1, h2⟩ := h
    rw [List.reverse_cons, List.reverse_cons]
    exact (RDs.reverse h2).append (RDs.one h1)
theorem RDs.rep {g : G} {w : W} {ds : List D} {vs : List V} (h : RDs g w ds vs) : ∀ k : Nat, RDs g w (List.replicate k ds).flatten (List.replicate k vs).flatten
  | 0 => rfl
  | k + 1 => by
    rw [List.replicate_succ, List.replicate_succ, List.flatten_cons, List.flatten_cons]
    exact h.append (RDs.rep h k)
/-! the environment, the store -/
def RE (g : G) (w : W) (E : Env) (σ : L2.St) : Prop := E.length = σ.length ∧ ∀ (i : Nat) (d : D), E[i]? = some (some d) → ∃ v, σ[i]? = some (some v) ∧ RD g w d v
def RS (g : G) (w : W) (S : List D) : Prop := S.length = w.rhA.length ∧ ∀ (n : Nat) (d : D), S[n]? = some d → ∃ a, w.rhA[n]? = some a ∧ RO g w d a
theorem RE.mono {g : G} {w w' : W} {E : Env} {σ : L2.St} (G : Good w) (x : Ext w w') (h : RE g w E σ) : RE g w' E σ := ⟨h.1, fun i d e => by
  obtain ⟨v, h1, h2⟩ := h.2 i d e
  exact ⟨v, h1, h2.mono G x⟩⟩
theorem RO.mono {g : G} {w w' : W} {d : D} {a : Addr} (G : Good w) (x : Ext w w') (e : w'.H a = w.H a) (h : RO g w d a) : RO g w' d a := by
  cases d <;> try exact h.elim
  · obtain ⟨vs, h1, h2⟩ := h
    exact ⟨vs, e.trans h1, h2.mono G x⟩
  · obtain ⟨vs, h1, h3, h2⟩ := h
    exact ⟨vs, e.trans h1, h3, h2.mono G x⟩
  · obtain ⟨vs, h1, h3, h2⟩ := h
    exact ⟨vs, e.trans h1, h3, h2.mono G x⟩
theorem RO.there {g : G} {w : W} {d : D} {a : Addr} (h : RO g w d a) : w.H a ≠ none := by
  cases d <;> try exact h.elim
  · obtain ⟨vs, h1, _⟩ := h
    rw [h1]; simp
  · obtain ⟨vs, h1, _⟩ := h
    rw [h1]; simp
  · obtain ⟨vs, h1, _⟩ := h
    rw [h1]; simp
theorem RS.keep {g : G} {w w' : W} {S : List D} (G : Good w) (x : Ext w w') (hr : w'.rhA = w.rhA) (hk : ∀ a, a ∈ w.rhA → w'.H a = w.H a) (h : RS g w S) : RS g w' S := ⟨by rw [hr]; exact h.1, fun n d e => by
  obtain ⟨a, h1, h2⟩ := h.2 n d e
  exact ⟨a, by rw [hr]; exact h1, h2.mono G x (hk a (List.mem_of_getElem? h1))⟩⟩
abbrev W.put (w : W) (p : Addr) (o : HO) : W := { w with H := upd w.H p o }
theorem put_ext {w : W} {p : Addr} {o : HO} (hp : w.H p = none) : Ext w (w.put p o) := by
  refine ⟨⟨[], by simp, by simp⟩, fun _ h => h, fun _ h => .inl h, fun a u h _ => ?_, fun a h => ?_⟩
  · refine .inl ?_
    show upd w.H p o a = some u
    exact (upd_ne (ne_of_none h hp)).trans h
  · show upd w.H p o a ≠ none
    by_cases e : a = p
    · rw [e, upd_same]; simp
    · rw [upd_ne e]; exact h
theorem put_good {w : W} {p : Addr} {o : HO} (G : Good w) (hp : w.H p = none) : Good (w.put p o) := ⟨G.nd, G.sub, fun a h => by
  show upd w.H p o a ≠ none
  by_cases e : a = p
  · rw [e, upd_same]; simp
  · rw [upd_ne e]; exact G.al a h, fun a h xs => by
  show upd w.H p o a ≠ some (.tup xs)
  rw [upd_ne fun e => G.al a h (by rw [e]; exact hp)]
  exact G.nt a h xs⟩
theorem put_store {g : G} {w : W} {p : Addr} {o : HO} {S : List D} (G : Good w) (hp : w.H p = none) (h : RS g w S) : RS g (w.put p o) S :=
  h.keep G (put_ext hp) rfl fun a ha => by
    have := G.al a (G.sub a ha)
    exact upd_ne fun e => this (by rw [e]; exact hp)
theorem put_th {w : W} {p : Addr} (G : Good w) (hp : w.H p = none) : ¬ w.thA p := fun h => G.al p h hp
abbrev W.add (w : W) (p : Addr) (o : HO) : W := ⟨fun a => w.thA a ∨ a = p, w.rhA ++ [p], upd w.H p o⟩
theorem add_ext {w : W} {p : Addr} {o : HO} (hp : w.H p = none) : Ext w (w.add p o) := by
  refine ⟨⟨[p], rfl, fun a h => ?_⟩, fun _ h => .inl h, fun a h => ?_, fun a u h _ => ?_, fun a h => ?_⟩
  · rw [List.mem_singleton.mp h]; exact hp
  · rcases h with h | h
    · exact .inl h
    · rw [h]; exact .inr hp
  · refine .inl ?_
    show upd w.H p o a = some u
    exact (upd_ne (ne_of_none h hp)).trans h
  · show upd w.H p o a ≠ none
    by_cases e : a = p
    · rw [e, upd_same]; simp
    · rw [upd_ne e]; exact h
theorem add_good {w : W} {p : Addr} {o : HO} (G : Good w) (hp : w.H p = none) (hno : ∀ xs, o ≠ .tup xs := by intro _ z; cases z) : Good (w.add p o) := by
  refine ⟨?_, fun a h => ?_, fun a h => ?_, fun a h xs => ?_⟩
  · show (w.rhA ++ [p]).Nodup
    rw [List.nodup_append]
    refine ⟨G.nd, by simp, fun a ha b hb e => ?_⟩
    rw [List.mem_singleton.mp hb] at e
    exact G.al a (G.sub a ha) (by rw [e]; exact hp)
  · rcases List.mem_append.mp h with h | h
    · exact .inl (G.sub a h)
    · exact .inr (List.mem_singleton.mp h)
  · show upd w.H p o a ≠ none
    by_cases e : a = p
    · rw [e, upd_same]; simp
    · rw [upd_ne e]
      rcases h with h | h
      · exact G.al a h
      · exact absurd h e
  · show upd w.H p o a ≠ some (.tup xs)
    by_cases e : a = p
    · rw [e, upd_same]
      intro z
      exact hno xs (Option.some.inj z)
    · rw [upd_ne e]
      rcases h with h | h
      · exact G.nt a h xs
      · exact absurd h e
theorem add_store {g : G} {w : W} {p : Addr} {o : HO} {S : List D} {d : D} (G : Good w) (hp : w.H p = none) (h : RS g w S) (hd : RO g (w.add p o) d p) : RS g (w.add p o) (S ++ [d]) := by
  refine ⟨by simp [h.1], fun n e he => ?_⟩
  by_cases hn : n < S.length
  · rw [List.getElem?_append_left hn] at he
    obtain ⟨a, h1, h2⟩ := h.2 n e he
    have ha := List.mem_of_getElem? h1
    refine ⟨a, by rw [List.getElem?_append_left (by rw [← h.1]; exact hn)]; exact h1, h2.mono G (add_ext hp) ?_⟩
    exact upd_ne fun e => G.al a (G.sub a ha) (by rw [e]; exact hp)
  · have hl : n = S.length := by
      have := (List.getElem?_eq_some_iff.mp he).1
      simp at this
      omega
    subst hl
    simp at he
    subst he
    exact ⟨p, by rw [h.1]; simp, hd⟩
theorem upd_ext {w : W} {a : Addr} {o : HO} (ha : a ∈ w.rhA) : Ext w { w with H := upd w.H a o } := by
  refine ⟨⟨[], by simp, by simp⟩, fun _ h => h, fun _ h => .inl h, fun b u h n => ?_, fun b h => ?_⟩
  · refine .inl ?_
    show upd w.H a o b = some u
    rw [upd_ne fun e => n (by rw [e]; exact ha)]
    exact h
  · show upd w.H a o b ≠ none
    by_cases e : b = a
    · rw [e, upd_same]; simp
    · rw [upd_ne e]; exact h
theorem upd_store {g : G} {w : W} {a : Addr} {o : HO} {S : List D} {n : Nat} {d : D} (G : Good w) (h : RS g w S) (ha : w.rhA[n]? = some a) (hd : RO g { w with H := upd w.H a o } d a) : RS g { w with H := upd w.H a o } (S.set n d) := by
  have mem := List.mem_of_getElem? ha
  refine ⟨by simp [h.1], fun m e he => ?_⟩
  by_cases hm : m = n
  · subst hm
    have : m < S.length := by rw [h.1]; exact (List.getElem?_eq_some_iff.mp ha).1
    rw [List.getElem?_set_self this] at he
    cases he
    exact ⟨a, ha, hd⟩
  · rw [List.getElem?_set_ne (Ne.symm hm)] at he
    obtain ⟨b, h1, h2⟩ := h.2 m e he
    refine ⟨b, h1, h2.mono G (upd_ext mem) ?_⟩
    refine upd_ne fun e => hm ?_
    subst e
    exact nd_ix G.nd h1 ha
theorem RS.obj {g : G} {w : W} {S : List D} {n : Nat} {a : Addr} {d : D} (h : RS g w S) (ha : w.rhA[n]? = some a) (hd : S[n]? = some d) : RO g w d a := by
  obtain ⟨b, h1, h2⟩ := h.2 n d hd
  rw [ha] at h1
  cases h1
  exact h2
end J
set_option Elab.async false
set_option linter.all false
set_option maxRecDepth 100000
namespace J
open PySem PySem.Spec PyProof.Rows L2

/-! ### readings -/
abbrev _root_.L2.Cx.g (X : L2.Cx) : G := ⟨X.K, X.mg⟩
def RX (g : G) (w : W) (c : Str) (fs : List (Str × D)) (cls : Value) (dx : Option Addr) : Prop :=
  ∃ C, g.mg c = some (.ref C) ∧ cls = .ref C ∧ ((fs = [] ∧ dx = none) ∨ ∃ d vs, fs ≠ [] ∧ dx = some d ∧ w.H d = some (.xd ((fs.map (·.1)).zip vs)) ∧ ¬ w.thA d ∧ RDs g w (fs.map (·.2)) vs)
def PR {α β : Type} (g : G) (Wx : WX) (σ : L2.St) (w : W) (rel : W → α → β → Prop) (Q : β → Hp → Prop) : R α → Prop
  | .ok d S => ∀ v w', Ext w w' → Good w' → rel w' d v → RS g w' S → Q v w'.H
  | .exc c fs S => ∀ cls dx w', Ext w w' → Good w' → RX g w' c fs cls dx → RS g w' S → Wx cls dx σ w'.H
  | .bad => False
structure At (g : G) (w : W) (E : Env) (σ : L2.St) (H : Hp) (S : List D) : Prop where
  hp : w.H = H
  good : Good w
  env : RE g w E σ
  sto : RS g w S
def relB (_ : W) (a b : Bool) : Prop := a = b
def relO (_ : W) (a b : Option Int) : Prop := a = b
def TEof (g : G) (Wx : WX) (m : ME) : TE := fun σ H Q => ∃ w E S, At g w E σ H S ∧ PR g Wx σ w (RD g) Q (m E S)
def TTof (g : G) (Wx : WX) (m : MT) : TT := fun σ H Q => ∃ w E S, At g w E σ H S ∧ PR g Wx σ w relB Q (m E S)
def TAof (g : G) (Wx : WX) (m : MA) : TA := fun σ H Q => ∃ w E S, At g w E σ H S ∧ PR g Wx σ w (RDs g) Q (m E S)
theorem PR.at {α β : Type} {g : G} {Wx : WX} {σ : L2.St} {w w1 : W} {rel : W → α → β → Prop} {Q : β → Hp → Prop} {r : R α} (h : PR g Wx σ w rel Q r) (x : Ext w w1) : PR g Wx σ w1 rel Q r := by
  cases r with
  | ok d S => exact fun v w' y => h v w' (x.trans y)
  | exc c fs S => exact fun cls dx w' y => h cls dx w' (x.trans y)
  | bad => exact h
theorem PR.bind {α β γ δ : Type} {g : G} {Wx : WX} {σ : L2.St} {w : W} {E : Env} {rel1 : W → α → β → Prop} {rel2 : W → γ → δ → Prop} {Q : δ → Hp → Prop} {r : R α} {k : α → List D → R γ} (G : Good w) (he : RE g w E σ)
    (h : PR g Wx σ w rel2 Q (r.bind k)) : PR g Wx σ w rel1 (fun x H1 => ∃ w1 a S1, At g w1 E σ H1 S1 ∧ Ext w w1 ∧ rel1 w1 a x ∧ PR g Wx σ w1 rel2 Q (k a S1)) r := by
  cases r with
  | ok d S => exact fun v w' x G' rl rs => ⟨w', d, S, ⟨rfl, G', he.mono G x, rs⟩, x, rl, PR.at h x⟩
  | exc c fs S => exact h
  | bad => exact h
theorem PR.imp {α β : Type} {g : G} {Wx : WX} {σ : L2.St} {w : W} {rel : W → α → β → Prop} {Q Q' : β → Hp → Prop} {r : R α} (h : PR g Wx σ w rel Q r) (i : ∀ v H, Q v H → Q' v H) : PR g Wx σ w rel Q' r := by
  cases r with
  | ok d S => exact fun v w' x y z t => i _ _ (h v w' x y z t)
  | exc c fs S => exact h
  | bad => exact h
theorem peImp {X : Cx} {e : Expr} {t t' : TE} (h : PE X e t) (f : ∀ σ H Q, t' σ H Q → t σ H Q) : PE X e t' := ⟨fun pins s σ H Q I hw => h.run pins s σ H Q I (f _ _ _ hw)⟩
theorem ptImp {X : Cx} {e : Expr} {t t' : TT} (h : PT X e t) (f : ∀ σ H Q, t' σ H Q → t σ H Q) : PT X e t' := ⟨fun pins s σ H Q I hw => h.run pins s σ H Q I (f _ _ _ hw)⟩
theorem pwImp {X : Cx} {e : Expr} {t t' : TT} (h : PW X e t) (f : ∀ σ H Q, t' σ H Q → t σ H Q) : PW X e t' := ⟨fun wh pins s σ H Q I hw => h.run wh pins s σ H Q I (f _ _ _ hw)⟩
theorem paImp {X : Cx} {es : List Expr} {t t' : TA} (h : PA X es t) (f : ∀ σ H Q, t' σ H Q → t σ H Q) : PA X es t' := ⟨fun pos pins s σ H Q I hw => h.run pos pins s σ H Q I (f _ _ _ hw)⟩
theorem psImp {X : Cx} {st : Stmt} {t t' : TS} (h : PS X st t) (f : ∀ D σ H, t' D σ H → t D σ H) : PS X st t' := ⟨fun pins s σ H D I hw => h.run pins s σ H D I (f _ _ _ hw)⟩
theorem pssImp {X : Cx} {st : List Stmt} {t t' : TS} (h : PSs X st t) (f : ∀ D σ H, t' D σ H → t D σ H) : PSs X st t' := ⟨fun pins s σ H D I hw => h.run pins s σ H D I (f _ _ _ hw)⟩

/-! ### what a reading asks of operations -/
def opOf (g : G) (f : D → D → List D → R D) : R2 := fun x y H Q => ∃ Wx σ w S d e, w.H = H ∧ Good w ∧ RS g w S ∧ RD g w d x ∧ RD g w e y ∧ PR g Wx σ w (RD g) Q (f d e S)
def unOf (g : G) (f : D → List D → R D) : V → Hp → VK → Prop := fun x H Q => ∃ Wx σ w S d, w.H = H ∧ Good w ∧ RS g w S ∧ RD g w d x ∧ PR g Wx σ w (RD g) Q (f d S)
def argOf (g : G) (f : List D → List D → R D) : List V → Hp → VK → Prop := fun xs H Q => ∃ Wx σ w S ds, w.H = H ∧ Good w ∧ RS g w S ∧ RDs g w ds xs ∧ PR g Wx σ w (RD g) Q (f ds S)
def mtOf (g : G) (f : D → List D → List D → R D) : V → List V → Hp → VK → Prop := fun x xs H Q => ∃ Wx σ w S d ds, w.H = H ∧ Good w ∧ RS g w S ∧ RD g w d x ∧ RDs g w ds xs ∧ PR g Wx σ w (RD g) Q (f d ds S)

section
variable {X : Cx} {Wx : WX} {a b c : Expr} {ma mb mc : ME} {pos : Pos}
theorem de_var {i : Nat} {x : Str} (h : PE X (.Name x pos) (tVar i)) : PE X (.Name x pos) (TEof X.g Wx (eVar i)) := by
  refine peImp h fun σ H Q ⟨w, E, S, a, p⟩ => ?_
  unfold eVar at p
  split at p
  · rename_i d e
    obtain ⟨v, h1, h2⟩ := a.env.2 i d e
    exact ⟨v, h1, by have := p v w (Ext.refl w) a.good h2 a.sto; rw [a.hp] at this; exact this⟩
  · exact p.elim
theorem de_c {e : Expr} {v : V} {d : D} (h : PE X e (tC v)) (hd : ∀ w, RD X.g w d v) : PE X e (TEof X.g Wx (eC d)) := by
  refine peImp h fun σ H Q ⟨w, E, S, a, p⟩ => ?_
  have := p v w (Ext.refl w) a.good (hd w) a.sto
  rw [a.hp] at this
  exact this
theorem de_int {i j} : PE X (.Constant (.int i) j pos) (TEof X.g Wx (eC (.int i))) := de_c pe_int fun _ => rfl
theorem de_bl {i j} : PE X (.Constant (.bool i) j pos) (TEof X.g Wx (eC (.bl i))) := de_c pe_bl fun _ => rfl
theorem de_non {j} : PE X (.Constant .none j pos) (TEof X.g Wx (eC .non)) := de_c pe_non fun _ => rfl
theorem two {m : D → D → List D → R D} {r : R2} (hr : ∀ x y H Q, opOf X.g m x y H Q → r x y H Q) : ∀ (σ : L2.St) H Q, TEof X.g Wx (eOp m ma mb) σ H Q → tOp r (TEof X.g Wx ma) (TEof X.g Wx mb) σ H Q := fun σ H Q ⟨w, E, S, a, p⟩ => by
  refine ⟨w, E, S, a, PR.imp (PR.bind a.good a.env p) fun x H1 ⟨w1, d, S1, a1, x1, r1, p1⟩ => ?_⟩
  refine ⟨w1, E, S1, a1, PR.imp (PR.bind a1.good a1.env p1) fun y H2 ⟨w2, e, S2, a2, x2, r2, p2⟩ => ?_⟩
  exact hr x y H2 Q ⟨Wx, σ, w2, S2, d, e, a2.hp, a2.good, a2.sto, RD.mono a1.good x2 d x r1, r2, p2⟩
theorem de_op {op : Operator} {m : D → D → List D → R D} (ho : OpR X (binaryOp op) (opOf X.g m)) (ha : PE X a (TEof X.g Wx ma)) (hb : PE X b (TEof X.g Wx mb)) : PE X (.BinOp a op b pos) (TEof X.g Wx (eOp m ma mb)) :=
  peImp (pe_op ho ha hb) (two fun _ _ _ _ h => h)
theorem de_un {op : UnaryOp} {m : D → List D → R D} (ho : UnR X (unaryOp op) (unOf X.g m)) (ha : PE X a (TEof X.g Wx ma)) : PE X (.UnaryOp op a pos) (TEof X.g Wx (eUn m ma)) := by
  refine peImp (pe_un ho ha) fun σ H Q ⟨w, E, S, a, p⟩ => ?_
  refine ⟨w, E, S, a, PR.imp (PR.bind a.good a.env p) fun x H1 ⟨w1, d, S1, a1, x1, r1, p1⟩ => ?_⟩
  exact ⟨Wx, σ, w1, S1, d, a1.hp, a1.good, a1.sto, r1, p1⟩
theorem de_cmp {op : CmpOp} {m : D → D → List D → R D} (ho : OpR X (compareOp op) (opOf X.g m)) (ha : PE X a (TEof X.g Wx ma)) (hb : PE X b (TEof X.g Wx mb)) (h1 : behindInMarks op b = false) : PE X (.Compare a [op] [b] pos) (TEof X.g Wx (eOp m ma mb)) :=
  peImp (pe_cmpR ho ha hb h1) (two fun _ _ _ _ h => h)
theorem de_ix {m : D → D → List D → R D} (ho : IxR X (opOf X.g m)) (ha : PE X a (TEof X.g Wx ma)) (hb : PE X b (TEof X.g Wx mb)) (h1 : PlainIx b) : PE X (.Subscript a b pos) (TEof X.g Wx (eOp m ma mb)) :=
  peImp (pe_ix ho ha hb h1) (two fun _ _ _ _ h => h)
/-! arguments -/
theorem da_nil : PA X [] (TAof X.g Wx aNil) := by
  refine paImp pa_nil fun σ H Q ⟨w, E, S, a, p⟩ => ?_
  have := p [] w (Ext.refl w) a.good rfl a.sto
  rw [a.hp] at this
  exact this
theorem da_cons {es : List Expr} {mr : MA} (ha : PE X a (TEof X.g Wx ma)) (hr : PA X es (TAof X.g Wx mr)) (hs : starEach (a :: es) X.env = (false, eval a X.env) :: starEach es X.env := by rfl) : PA X (a :: es) (TAof X.g Wx (aCons ma mr)) := by
  refine paImp (pa_cons ha hr hs) fun σ H Q ⟨w, E, S, a, p⟩ => ?_
  refine ⟨w, E, S, a, PR.imp (PR.bind a.good a.env p) fun x H1 ⟨w1, d, S1, a1, x1, r1, p1⟩ => ?_⟩
  refine ⟨w1, E, S1, a1, PR.imp (PR.bind a1.good a1.env p1) fun xs H2 ⟨w2, ds, S2, a2, x2, r2, p2⟩ => ?_⟩
  have := p2 (x :: xs) w2 (Ext.refl w2) a2.good (RDs.cons (RD.mono a1.good x2 d x r1) r2) a2.sto
  rw [a2.hp] at this
  exact this
theorem args {m : List D → List D → R D} {ma : MA} {r : List V → Hp → VK → Prop} (hr : ∀ xs H Q, argOf X.g m xs H Q → r xs H Q) : ∀ (σ : L2.St) H Q, TEof X.g Wx (eArgs m ma) σ H Q → tCB r (TAof X.g Wx ma) σ H Q := fun σ H Q ⟨w, E, S, a, p⟩ => by
  refine ⟨w, E, S, a, PR.imp (PR.bind a.good a.env p) fun xs H1 ⟨w1, ds, S1, a1, x1, r1, p1⟩ => ?_⟩
  exact hr xs H1 Q ⟨Wx, σ, w1, S1, ds, a1.hp, a1.good, a1.sto, r1, p1⟩
theorem de_callB {x : Str} {id : String} {m : List D → List D → R D} {es : List Expr} {e : Expr} {mr : MA} {p : Pos} (hc : CallR X (.builtin id) (argOf X.g m)) (hg : Gl X x) (hm : X.mg x = none) (hv : bootBuiltins x = some (.builtin id)) (ha : PA X (e :: es) (TAof X.g Wx mr)) (hn : x ≠ "__name__" := by decide) (hdb : (x == ("__debug__" : Str)) = false := by decide)
    (he : starEach (e :: es) X.env = (false, eval e X.env) :: starEach es X.env := by rfl) (hpl : (backTo pos (starEach es X.env)).any (·.1) = false := by rfl) : PE X (.Call (.Name x p) (e :: es) [] pos) (TEof X.g Wx (eArgs m mr)) :=
  peImp (pe_callB hc hg hm hv ha hn hdb he hpl) (args fun _ _ _ h => h)
theorem de_callTy {x : Str} {T : String} {m : List D → List D → R D} {es : List Expr} {e : Expr} {mr : MA} {p : Pos} (hc : CallR X (.type T) (argOf X.g m)) (hg : Gl X x) (hm : X.mg x = none) (hv : bootBuiltins x = some (.type T)) (ha : PA X (e :: es) (TAof X.g Wx mr)) (hn : x ≠ "__name__" := by decide) (hdb : (x == ("__debug__" : Str)) = false := by decide)
    (he : starEach (e :: es) X.env = (false, eval e X.env) :: starEach es X.env := by rfl) (hpl : (backTo pos (starEach es X.env)).any (·.1) = false := by rfl) : PE X (.Call (.Name x p) (e :: es) [] pos) (TEof X.g Wx (eArgs m mr)) :=
  peImp (pe_callTy hc hg hm hv ha hn hdb he hpl) (args fun _ _ _ h => h)
/-! new objects -/
theorem new_tup {Wx : WX} {σ : L2.St} {w : W} {Q : VK} {ds : List D} {vs : List V} {S : List D} (p : PR X.g Wx σ w (RD X.g) Q (.ok (.tup ds) S)) (G : Good w) (rs : RS X.g w S) (r : RDs X.g w ds vs) (q : Addr) (hq : w.H q = none) : Q (.ref q) (upd w.H q (.tup vs)) :=
  p (.ref q) (w.put q (.tup vs)) (put_ext hq) (put_good G hq) ⟨q, vs, rfl, ⟨upd_same, put_th (w := w) G hq⟩, r.mono G (put_ext hq)⟩ (put_store G hq rs)
theorem new_lst {Wx : WX} {σ : L2.St} {w : W} {Q : VK} {ds : List D} {vs : List V} {S : List D} (p : PR X.g Wx σ w (RD X.g) Q (.ok (.lst ds) S)) (G : Good w) (rs : RS X.g w S) (r : RDs X.g w ds vs) (q : Addr) (hq : w.H q = none) : Q (.ref q) (upd w.H q (.lst vs)) :=
  p (.ref q) (w.put q (.lst vs)) (put_ext hq) (put_good G hq) ⟨q, vs, rfl, upd_same, put_th (w := w) G hq, r.mono G (put_ext hq)⟩ (put_store G hq rs)
theorem new_loc {Wx : WX} {σ : L2.St} {w : W} {Q : VK} {ds : List D} {vs : List V} {S : List D} (p : PR X.g Wx σ w (RD X.g) Q (.ok (.loc S.length) (S ++ [.lst ds]))) (G : Good w) (rs : RS X.g w S) (r : RDs X.g w ds vs) (q : Addr) (hq : w.H q = none) : Q (.ref q) (upd w.H q (.lst vs)) :=
  p (.ref q) (w.add q (.lst vs)) (add_ext hq) (add_good G hq) ⟨q, rfl, by rw [rs.1]; simp⟩ (add_store G hq rs ⟨vs, upd_same, r.mono G (add_ext hq)⟩)
theorem sl_eq : SL = sizeLine := by rw [sizeLine_eq]; rfl
theorem de_disp {es : List Expr} {e : Expr} {mr : MA} {m : List D → List D → R D} {t : TE} (h : PE X e t) (ht : ∀ (σ : L2.St) H Q, (TAof X.g Wx mr) σ H (fun xs H1 => argOf X.g m xs H1 Q) → t σ H Q) : PE X e (TEof X.g Wx (eArgs m mr)) :=
  peImp h fun σ H Q hh => ht σ H Q (args (X := X) (r := argOf X.g m) (fun _ _ _ h => h) σ H Q hh)
theorem de_tup {es : List Expr} {mr : MA} {x1} (h : PA X es (TAof X.g Wx mr)) : PE X (.Tuple es x1 pos) (TEof X.g Wx (eArgs bTup mr)) := by
  refine de_disp (es := es) (pe_tup h) fun σ H Q ⟨w, E, S, a, p⟩ => ⟨w, E, S, a, PR.imp p fun xs H1 hh => ?_⟩
  obtain ⟨Wx, σ, w, S, ds, rfl, G, rs, r, p⟩ := hh
  unfold bTup at p
  split at p
  · rename_i hl
    rw [sl_eq, ← r.length] at hl
    exact ⟨hl, new_tup p G rs r⟩
  · exact p.elim
theorem de_lst {es : List Expr} {mr : MA} (h : PA X es (TAof X.g Wx mr)) : PE X (.List es pos) (TEof X.g Wx (eArgs bLst mr)) := by
  refine de_disp (es := es) (pe_lst h) fun σ H Q ⟨w, E, S, a, p⟩ => ⟨w, E, S, a, PR.imp p fun xs H1 hh => ?_⟩
  obtain ⟨Wx, σ, w, S, ds, rfl, G, rs, r, p⟩ := hh
  unfold bLst at p
  split at p
  · rename_i hl
    rw [sl_eq, ← r.length] at hl
    exact ⟨hl, new_lst p G rs r⟩
  · exact p.elim
theorem de_lstL {es : List Expr} {mr : MA} (h : PA X es (TAof X.g Wx mr)) : PE X (.List es pos) (TEof X.g Wx (eArgs bLstL mr)) := by
  refine de_disp (es := es) (pe_lst h) fun σ H Q ⟨w, E, S, a, p⟩ => ⟨w, E, S, a, PR.imp p fun xs H1 hh => ?_⟩
  obtain ⟨Wx, σ, w, S, ds, rfl, G, rs, r, p⟩ := hh
  unfold bLstL at p
  split at p
  · rename_i hl
    rw [sl_eq, ← r.length] at hl
    exact ⟨hl, new_loc p G rs r⟩
  · exact p.elim
end
end J
set_option Elab.async false
set_option linter.all false
set_option maxRecDepth 100000
set_option maxHeartbeats 1000000
namespace J
open PySem PySem.Spec PyProof.Rows L2
section
variable {X : Cx} {Wx : WX} {a b c : Expr} {ma mb mc : ME} {ta tb tc : MT} {pos : Pos}

/-! ### tests -/
theorem tvUse {Q : Bool → Hp → Prop} {σ : L2.St} {H : Hp} (h : TTof X.g Wx (tV ma) σ H Q) : TEof X.g Wx ma σ H fun x H1 => ∃ c, x = .bl c ∧ Q c H1 := by
  obtain ⟨w, E, S, a, p⟩ := h
  refine ⟨w, E, S, a, PR.imp (PR.bind a.good a.env p) fun x H1 ⟨w1, d, S1, a1, x1, r1, p1⟩ => ?_⟩
  cases d <;> try exact p1.elim
  rename_i k
  cases r1
  have := p1 k w1 (Ext.refl w1) a1.good rfl a1.sto
  rw [a1.hp] at this
  exact ⟨k, rfl, this⟩
theorem dt_cmp {op : CmpOp} {m : D → D → List D → R D} (ho : OpR X (compareOp op) (opOf X.g m)) (ha : PE X a (TEof X.g Wx ma)) (hb : PE X b (TEof X.g Wx mb)) (h1 : behindInMarks op b = false) : PT X (.Compare a [op] [b] pos) (TTof X.g Wx (tV (eOp m ma mb))) :=
  ptImp (pt_cmpR ho ha hb h1) fun σ H Q hh => two (X := X) (Wx := Wx) (fun _ _ _ _ h => h) σ H _ (tvUse hh)
theorem seqOf_some {S : List D} {d : D} {xs : List D} (h : seqOf S d = some xs) : d = .tup xs ∨ d = .lst xs ∨ d = .rdl xs ∨ ∃ n, d = .loc n ∧ S[n]? = some (.lst xs) := by
  unfold seqOf at h
  split at h
  · cases h; exact .inl rfl
  · cases h; exact .inr (.inl rfl)
  · cases h; exact .inr (.inr (.inl rfl))
  · rename_i n
    split at h
    · rename_i ds e
      cases h; exact .inr (.inr (.inr ⟨n, rfl, e⟩))
    · cases h
  · cases h
theorem lstOf_some {S : List D} {d : D} {xs : List D} (h : lstOf S d = some xs) : d = .lst xs ∨ ∃ n, d = .loc n ∧ S[n]? = some (.lst xs) := by
  unfold lstOf at h
  split at h
  · cases h; exact .inl rfl
  · rename_i n
    split at h
    · rename_i ds e
      cases h; exact .inr ⟨n, rfl, e⟩
    · cases h
  · cases h
theorem dctOf_some {S : List D} {d : D} {ks : List Ky} {xs : List D} (h : dctOf S d = some (ks, xs)) : d = .dct ks xs ∨ ∃ n, d = .loc n ∧ S[n]? = some (.dct ks xs) := by
  unfold dctOf at h
  split at h
  · cases h; exact .inl rfl
  · rename_i n
    split at h
    · rename_i ds e
      cases h; exact .inr ⟨n, rfl, by assumption⟩
    · cases h
  · cases h
theorem RD.seq {g : G} {w : W} {S : List D} {d : D} {v : V} {xs : List D} (rs : RS g w S) (r : RD g w d v) (h : seqOf S d = some xs) : ∃ p vs, v = .ref p ∧ (SqL g.K w.H p vs ∨ SqT g.K w.H p vs) ∧ RDs g w xs vs := by
  rcases seqOf_some h with rfl | rfl | rfl | ⟨n, rfl, e⟩
  · obtain ⟨p, vs, rfl, t, r⟩ := r
    exact ⟨p, vs, rfl, .inr t.sq, r⟩
  · obtain ⟨p, vs, rfl, t, _, r⟩ := r
    exact ⟨p, vs, rfl, .inl (SqL.of t), r⟩
  · obtain ⟨p, vs, rfl, t, r⟩ := r
    exact ⟨p, vs, rfl, .inl t.sq, r⟩
  · obtain ⟨p, rfl, hp⟩ := r
    obtain ⟨vs, h1, h2⟩ := rs.obj hp e
    exact ⟨p, vs, rfl, .inl (SqL.of h1), h2⟩
theorem RD.lstAt {g : G} {w : W} {S : List D} {d : D} {v : V} {xs : List D} (rs : RS g w S) (r : RD g w d v) (h : lstOf S d = some xs) : ∃ p vs, v = .ref p ∧ w.H p = some (.lst vs) ∧ RDs g w xs vs := by
  rcases lstOf_some h with rfl | ⟨n, rfl, e⟩
  · obtain ⟨p, vs, rfl, t, _, r⟩ := r
    exact ⟨p, vs, rfl, t, r⟩
  · obtain ⟨p, rfl, hp⟩ := r
    obtain ⟨vs, h1, h2⟩ := rs.obj hp e
    exact ⟨p, vs, rfl, h1, h2⟩
theorem RD.dctAt {g : G} {w : W} {S : List D} {d : D} {v : V} {ks : List Ky} {xs : List D} (rs : RS g w S) (r : RD g w d v) (h : dctOf S d = some (ks, xs)) : ∃ p vs, v = .ref p ∧ Rd w.H p (.dK (ks.zip vs)) ∧ ks.length = vs.length ∧ RDs g w xs vs := by
  rcases dctOf_some h with rfl | ⟨n, rfl, e⟩
  · obtain ⟨p, vs, rfl, t, l, _, r⟩ := r
    exact ⟨p, vs, rfl, t, l, r⟩
  · obtain ⟨p, rfl, hp⟩ := r
    obtain ⟨vs, h1, l, h2⟩ := rs.obj hp e
    exact ⟨p, vs, rfl, .inl h1, l, h2⟩
theorem RDs.isE {g : G} {w : W} {xs : List D} {vs : List V} (r : RDs g w xs vs) : vs.isEmpty = xs.isEmpty := by
  have := r.length
  cases xs <;> cases vs <;> simp_all
theorem zip_isE {α β : Type} {ks : List α} {vs : List β} (l : ks.length = vs.length) : (ks.zip vs).isEmpty = ks.isEmpty := by
  cases ks <;> cases vs <;> simp_all
def TruW (K : PySem.W.Frag) (x : V) (H : Hp) (k : Bool) : Prop := TruV K x H k ∨ ∃ p kvs, x = .ref p ∧ Rd H p (.dK kvs) ∧ k = !kvs.isEmpty
theorem tru_w {X : Cx} : TruR X (fun x H Q => ∃ k, TruW X.K x H k ∧ Q k H) := by
  intro pins s σ H x v Q I rx h
  obtain ⟨k, e | ⟨p, kvs, rfl, hx, rfl⟩, q⟩ := h
  · exact tru_ok pins s σ H x v Q I rx ⟨k, e, q⟩
  · cases rx
    have hs : sizeLine = 16777216 := sizeLine_eq
    obtain ⟨hz, hS, vs, r, m⟩ := dk_rd I.hok hx
    have hlen : kvs.length = vs.length := PySem.Paired.length r
    exact wpAny_truthy_dict hS m (by omega) ⟨H, I.tok _, by rw [isEmpty_kv r]; exact q⟩
theorem pt_truthW {X : Cx} {a : Expr} {ta : TE} (ha : PE X a ta) (he : ∀ whole, isTrue a X.env whole = (do let v ← whole; standAt a.pos; holding [v] (truthy v))) :
    PT X a (fun σ H Q => ta σ H fun x H' => ∃ k, TruW X.K x H' k ∧ Q k H') := by
  refine ⟨fun pins s σ H Q I h => ?_⟩
  exact isTrue_plain (thn (ha.run pins s σ H _ I h) fun v s1 ⟨x, H1, I1, r1, q1⟩ => tru_w pins s1 σ H1 x v Q I1 r1 q1) (he _)
theorem RD.truthV {g : G} {w : W} {S : List D} {d : D} {v : V} {k : Bool} (rs : RS g w S) (r : RD g w d v) (h : truth S d = some k) : TruW g.K v w.H k := by
  have sq : ∀ xs, seqOf S d = some xs → k = !xs.isEmpty → TruW g.K v w.H k := fun xs e e2 => by
    obtain ⟨p, vs, rfl, t, r2⟩ := RD.seq rs r e
    rw [e2]
    rcases t with t | t
    · exact .inl (.inl ⟨vs, t, by rw [r2.isE]⟩)
    · exact .inl (.inr (.inl ⟨vs, t, by rw [r2.isE]⟩))
  have dc : ∀ ks xs, dctOf S d = some (ks, xs) → k = !ks.isEmpty → TruW g.K v w.H k := fun ks xs e e2 => by
    obtain ⟨p, vs, rfl, t, l, r2⟩ := RD.dctAt rs r e
    rw [e2]
    exact .inr ⟨p, _, rfl, t, by rw [zip_isE l]⟩
  unfold truth at h
  split at h
  · cases h; cases r; exact .inl rfl
  · cases h; cases r; exact .inl rfl
  · cases h; cases r; exact .inl rfl
  · cases h; exact dc _ _ rfl rfl
  · cases h; exact sq _ rfl rfl
  · cases h; exact sq _ rfl rfl
  · cases h; exact sq _ rfl rfl
  · split at h
    · rename_i e
      cases h; exact sq _ (by simp only [seqOf, e]) rfl
    · rename_i e
      cases h; exact dc _ _ (by simp only [dctOf, e]; rfl) rfl
    · cases h
  · cases h
theorem dt_truth (h : PE X a (TEof X.g Wx ma)) (he : ∀ whole, isTrue a X.env whole = (do let v ← whole; standAt a.pos; holding [v] (truthy v)) := by intro _; rfl) : PT X a (TTof X.g Wx (tTr ma)) := by
  refine ptImp (pt_truthW h he) fun σ H Q ⟨w, E, S, a, p⟩ => ?_
  refine ⟨w, E, S, a, PR.imp (PR.bind a.good a.env p) fun x H1 ⟨w1, d, S1, a1, x1, r1, p1⟩ => ?_⟩
  split at p1
  · rename_i k e
    have := p1 k w1 (Ext.refl w1) a1.good rfl a1.sto
    rw [a1.hp] at this
    exact ⟨k, by rw [← a1.hp]; exact r1.truthV a1.sto e, this⟩
  · exact p1.elim
theorem dt_not (h : PT X a (TTof X.g Wx ta)) : PT X (.UnaryOp .Not a pos) (TTof X.g Wx (J.tNot ta)) := by
  refine ptImp (pt_not h) fun σ H Q ⟨w, E, S, a, p⟩ => ?_
  refine ⟨w, E, S, a, PR.imp (PR.bind a.good a.env p) fun x H1 ⟨w1, d, S1, a1, x1, r1, p1⟩ => ?_⟩
  obtain rfl : d = x := r1
  have := p1 (!d) w1 (Ext.refl w1) a1.good rfl a1.sto
  rw [a1.hp] at this
  exact this
theorem dw_and1 (h : PT X a (TTof X.g Wx ta)) : PW X (.BoolOp .And [a] pos) (TTof X.g Wx ta) := pw_and1 h
theorem dw_or1 (h : PT X a (TTof X.g Wx ta)) : PW X (.BoolOp .Or [a] pos) (TTof X.g Wx ta) := pw_or1 h
theorem dw_and {rest : List Expr} (h : PT X a (TTof X.g Wx ta)) (hb : PW X (.BoolOp .And (b :: rest) pos) (TTof X.g Wx tb)) : PW X (.BoolOp .And (a :: b :: rest) pos) (TTof X.g Wx (J.tAnd ta tb)) := by
  refine pwImp (pw_and h hb) fun σ H Q ⟨w, E, S, a, p⟩ => ?_
  refine ⟨w, E, S, a, PR.imp (PR.bind a.good a.env p) fun x H1 ⟨w1, d, S1, a1, x1, r1, p1⟩ => ?_⟩
  obtain rfl : d = x := r1
  cases d
  · rw [if_neg Bool.false_ne_true] at p1 ⊢
    have := p1 false w1 (Ext.refl w1) a1.good rfl a1.sto
    rw [a1.hp] at this
    exact this
  · rw [if_pos rfl] at p1 ⊢
    exact ⟨w1, E, S1, a1, p1⟩
theorem dw_or {rest : List Expr} (h : PT X a (TTof X.g Wx ta)) (hb : PW X (.BoolOp .Or (b :: rest) pos) (TTof X.g Wx tb)) : PW X (.BoolOp .Or (a :: b :: rest) pos) (TTof X.g Wx (J.tOr ta tb)) := by
  refine pwImp (pw_or h hb) fun σ H Q ⟨w, E, S, a, p⟩ => ?_
  refine ⟨w, E, S, a, PR.imp (PR.bind a.good a.env p) fun x H1 ⟨w1, d, S1, a1, x1, r1, p1⟩ => ?_⟩
  obtain rfl : d = x := r1
  cases d
  · rw [if_neg Bool.false_ne_true] at p1 ⊢
    exact ⟨w1, E, S1, a1, p1⟩
  · rw [if_pos rfl] at p1 ⊢
    have := p1 true w1 (Ext.refl w1) a1.good rfl a1.sto
    rw [a1.hp] at this
    exact this
/-! values by tests -/
theorem de_if (hc : PT X c (TTof X.g Wx tc)) (ha : PE X a (TEof X.g Wx ma)) (hb : PE X b (TEof X.g Wx mb)) : PE X (.IfExp c a b pos) (TEof X.g Wx (eIf tc ma mb)) := by
  refine peImp (pe_ifExp hc ha hb) fun σ H Q ⟨w, E, S, a, p⟩ => ?_
  refine ⟨w, E, S, a, PR.imp (PR.bind a.good a.env p) fun x H1 ⟨w1, d, S1, a1, x1, r1, p1⟩ => ?_⟩
  obtain rfl : d = x := r1
  cases d
  · rw [if_neg Bool.false_ne_true] at p1 ⊢
    exact ⟨w1, E, S1, a1, p1⟩
  · rw [if_pos rfl] at p1 ⊢
    exact ⟨w1, E, S1, a1, p1⟩
theorem de_one {op} (h : PE X a (TEof X.g Wx ma)) : PE X (.BoolOp op [a] pos) (TEof X.g Wx ma) := pe_one h
theorem blUse {σ : L2.St} {H : Hp} {E : Env} {k : Bool → List D → R D} {Q Q' : VK} {w1 : W} {d : D} {S1 : List D} {x : V} (a1 : At X.g w1 E σ H S1) (r1 : RD X.g w1 d x)
    (p : PR X.g Wx σ w1 (RD X.g) Q (onBl d fun c => k c S1)) : ∃ c, x = .bl c ∧ d = .bl c ∧ PR X.g Wx σ w1 (RD X.g) Q (k c S1) := by
  cases d <;> try exact p.elim
  cases r1
  exact ⟨_, rfl, rfl, p⟩
theorem de_and {rest : List Expr} (h : PE X a (TEof X.g Wx ma)) (hb : PE X (.BoolOp .And (b :: rest) pos) (TEof X.g Wx mb)) : PE X (.BoolOp .And (a :: b :: rest) pos) (TEof X.g Wx (eAnd ma mb)) := by
  refine peImp (pe_and h hb) fun σ H Q ⟨w, E, S, a, p⟩ => ?_
  refine ⟨w, E, S, a, PR.imp (PR.bind a.good a.env p) fun x H1 ⟨w1, d, S1, a1, x1, r1, p1⟩ => ?_⟩
  obtain ⟨c, rfl, rfl, q⟩ := blUse (k := fun c S1 => if c = true then mb E S1 else .ok (.bl false) S1) (Q' := Q) a1 r1 p1
  refine ⟨c, rfl, ?_⟩
  cases c
  · rw [if_neg Bool.false_ne_true] at q ⊢
    have := q (.bl false) w1 (Ext.refl w1) a1.good rfl a1.sto
    rw [a1.hp] at this
    exact this
  · rw [if_pos rfl] at q ⊢
    exact ⟨w1, E, S1, a1, q⟩
theorem de_or {rest : List Expr} (h : PE X a (TEof X.g Wx ma)) (hb : PE X (.BoolOp .Or (b :: rest) pos) (TEof X.g Wx mb)) : PE X (.BoolOp .Or (a :: b :: rest) pos) (TEof X.g Wx (eOr ma mb)) := by
  refine peImp (pe_or h hb) fun σ H Q ⟨w, E, S, a, p⟩ => ?_
  refine ⟨w, E, S, a, PR.imp (PR.bind a.good a.env p) fun x H1 ⟨w1, d, S1, a1, x1, r1, p1⟩ => ?_⟩
  obtain ⟨c, rfl, rfl, q⟩ := blUse (k := fun c S1 => if c = true then .ok (.bl true) S1 else mb E S1) (Q' := Q) a1 r1 p1
  refine ⟨c, rfl, ?_⟩
  cases c
  · rw [if_neg Bool.false_ne_true] at q ⊢
    exact ⟨w1, E, S1, a1, q⟩
  · rw [if_pos rfl] at q ⊢
    have := q (.bl true) w1 (Ext.refl w1) a1.good rfl a1.sto
    rw [a1.hp] at this
    exact this
theorem de_not (h : PE X a (TEof X.g Wx ma)) : PE X (.UnaryOp .Not a pos) (TEof X.g Wx (eNot ma)) := by
  refine peImp (pe_not h) fun σ H Q ⟨w, E, S, a, p⟩ => ?_
  refine ⟨w, E, S, a, PR.imp (PR.bind a.good a.env p) fun x H1 ⟨w1, d, S1, a1, x1, r1, p1⟩ => ?_⟩
  obtain ⟨c, rfl, rfl, q⟩ := blUse (k := fun c S1 => .ok (.bl (!c)) S1) (Q' := Q) a1 r1 p1
  have := q (.bl (!c)) w1 (Ext.refl w1) a1.good rfl a1.sto
  rw [a1.hp] at this
  exact ⟨c, rfl, this⟩
theorem chainUse {m m' : D → D → List D → R D} : ∀ (σ : L2.St) H Q, TEof X.g Wx (eChain m m' ma mb mc) σ H Q → tChain (opOf X.g m) (opOf X.g m') (TEof X.g Wx ma) (TEof X.g Wx mb) (TEof X.g Wx mc) σ H Q := fun σ H Q ⟨w, E, S, a, p⟩ => by
  refine ⟨w, E, S, a, PR.imp (PR.bind a.good a.env p) fun x H1 ⟨w1, d, S1, a1, x1, r1, p1⟩ => ?_⟩
  refine ⟨w1, E, S1, a1, PR.imp (PR.bind a1.good a1.env p1) fun y H2 ⟨w2, e, S2, a2, x2, r2, p2⟩ => ?_⟩
  refine ⟨Wx, σ, w2, S2, d, e, a2.hp, a2.good, a2.sto, RD.mono a1.good x2 d x r1, r2, ?_⟩
  refine PR.imp (PR.bind a2.good a2.env p2) fun z H3 ⟨w3, f, S3, a3, x3, r3, p3⟩ => ?_
  obtain ⟨c, rfl, rfl, q⟩ := blUse (k := fun k S3 => if k = true then (mc E S3).bind fun z S4 => m' e z S4 else .ok (.bl false) S3) (Q' := Q) a3 r3 p3
  refine ⟨c, rfl, ?_⟩
  cases c
  · rw [if_neg Bool.false_ne_true] at q ⊢
    have := q (.bl false) w3 (Ext.refl w3) a3.good rfl a3.sto
    rw [a3.hp] at this
    exact this
  · rw [if_pos rfl] at q ⊢
    refine ⟨w3, E, S3, a3, PR.imp (PR.bind a3.good a3.env q) fun u H4 ⟨w4, f, S4, a4, x4, r4, p4⟩ => ?_⟩
    exact ⟨Wx, σ, w4, S4, e, f, a4.hp, a4.good, a4.sto, RD.mono a2.good (x3.trans x4) e y r2, r4, p4⟩
theorem de_chain {op op' : CmpOp} {m m' : D → D → List D → R D} (ho : OpR X (compareOp op) (opOf X.g m)) (ho' : OpR X (compareOp op') (opOf X.g m')) (ha : PE X a (TEof X.g Wx ma)) (hb : PE X b (TEof X.g Wx mb)) (hc : PE X c (TEof X.g Wx mc))
    (hm : lastMarks [op, op'] [b, c] = false := by with_unfolding_all rfl) : PE X (.Compare a [op, op'] [b, c] pos) (TEof X.g Wx (eChain m m' ma mb mc)) := peImp (pe_chain ho ho' ha hb hc hm) chainUse
end

/-! ### operators -/
section
variable {X : Cx}
theorem opI {f : Value → Value → Sem Value} {m : D → D → List D → R D} {C : Int → Int → Prop} {k : Int → Int → V} (ho : OpR X f (rI C k))
    (hm : ∀ d e S, (∃ i j, d = .int i ∧ e = .int j ∧ C i j ∧ ∃ z, m d e S = .ok z S ∧ ∀ w, RD X.g w z (k i j)) ∨ m d e S = .bad) : OpR X f (opOf X.g m) := by
  intro pins s σ H x y v u Q I rx ry ⟨Wx, σ', w, S, d, e, hH, G, rs, r1, r2, p⟩
  rcases hm d e S with ⟨i, j, rfl, rfl, c, z, ez, rz⟩ | eb
  · cases r1
    cases r2
    rw [ez] at p
    have := p _ w (Ext.refl w) G (rz w) rs
    rw [hH] at this
    exact ho pins s σ H _ _ v u Q I rx ry ⟨i, j, rfl, rfl, c, this⟩
  · rw [eb] at p
    exact p.elim
theorem opI0 {f : Value → Value → Sem Value} {m : D → D → List D → R D} {k : Int → Int → V} (ho : OpR X f (rI0 k))
    (hm : ∀ d e S, (∃ i j, d = .int i ∧ e = .int j ∧ ∃ z, m d e S = .ok z S ∧ ∀ w, RD X.g w z (k i j)) ∨ m d e S = .bad) : OpR X f (opOf X.g m) := by
  intro pins s σ H x y v u Q I rx ry ⟨Wx, σ', w, S, d, e, hH, G, rs, r1, r2, p⟩
  rcases hm d e S with ⟨i, j, rfl, rfl, z, ez, rz⟩ | eb
  · cases r1
    cases r2
    rw [ez] at p
    have := p _ w (Ext.refl w) G (rz w) rs
    rw [hH] at this
    exact ho pins s σ H _ _ v u Q I rx ry ⟨i, j, rfl, rfl, this⟩
  · rw [eb] at p
    exact p.elim
end
end J
set_option Elab.async false
set_option linter.all false
set_option maxRecDepth 100000
set_option maxHeartbeats 1000000
namespace J
open PySem PySem.Spec PyProof.Rows L2
section
variable {X : Cx}
theorem putSame {Wx : WX} {σ : L2.St} {w : W} {rel : W → D → V → Prop} {Q : VK} {d : D} {v : V} {S : List D} (p : PR X.g Wx σ w rel Q (.ok d S)) (G : Good w) (rs : RS X.g w S) (r : rel w d v) : Q v w.H :=
  p v w (Ext.refl w) G r rs
/-! ints -/
theorem jo_sub : OpR X (binaryOp .Sub) (opOf X.g oSub) := opI0 op_sub fun d e S => by
  unfold oSub; split
  · exact .inl ⟨_, _, rfl, rfl, _, rfl, fun _ => rfl⟩
  · exact .inr rfl
theorem jo_div : OpR X (binaryOp .FloorDiv) (opOf X.g oDiv) := opI op_fdivN fun d e S => by
  unfold oDiv; split
  · split
    · rename_i h
      exact .inl ⟨_, _, rfl, rfl, h, _, rfl, fun _ => rfl⟩
    · exact .inr rfl
  · exact .inr rfl
theorem jo_mod : OpR X (binaryOp .Mod) (opOf X.g oMod) := opI op_modN fun d e S => by
  unfold oMod; split
  · split
    · rename_i h
      exact .inl ⟨_, _, rfl, rfl, h, _, rfl, fun _ => rfl⟩
    · exact .inr rfl
  · exact .inr rfl
theorem jo_pow : OpR X (binaryOp .Pow) (opOf X.g oPow) := opI op_pow fun d e S => by
  unfold oPow; split
  · split
    · rename_i h
      exact .inl ⟨_, _, rfl, rfl, h, _, rfl, fun _ => rfl⟩
    · exact .inr rfl
  · exact .inr rfl
theorem jo_lt : OpR X (compareOp .Lt) (opOf X.g oLt) := opI0 op_lt fun d e S => by
  unfold oLt; split
  · exact .inl ⟨_, _, rfl, rfl, _, rfl, fun _ => rfl⟩
  · exact .inr rfl
theorem jo_le : OpR X (compareOp .LtE) (opOf X.g oLe) := opI0 op_le fun d e S => by
  unfold oLe; split
  · exact .inl ⟨_, _, rfl, rfl, _, rfl, fun _ => rfl⟩
  · exact .inr rfl
theorem jo_gt : OpR X (compareOp .Gt) (opOf X.g oGt) := opI0 op_gt fun d e S => by
  unfold oGt; split
  · exact .inl ⟨_, _, rfl, rfl, _, rfl, fun _ => rfl⟩
  · exact .inr rfl
theorem jo_ge : OpR X (compareOp .GtE) (opOf X.g oGe) := opI0 op_ge fun d e S => by
  unfold oGe; split
  · exact .inl ⟨_, _, rfl, rfl, _, rfl, fun _ => rfl⟩
  · exact .inr rfl
theorem ju_neg : UnR X (unaryOp .USub) (unOf X.g oNeg) := by
  intro pins s σ H x v Q I rx ⟨Wx, σ', w, S, d, hH, G, rs, r1, p⟩
  unfold oNeg at p
  split at p
  · cases r1
    have := putSame p G rs rfl
    rw [hH] at this
    exact un_neg pins s σ H _ v Q I rx ⟨_, rfl, this⟩
  · exact p.elim
theorem jo_add : OpR X (binaryOp .Add) (opOf X.g oAdd) := by
  intro pins s σ H x y v u Q I rx ry ⟨Wx, σ', w, S, d, e, hH, G, rs, r1, r2, p⟩
  subst hH
  unfold oAdd at p
  split at p
  · cases r1
    cases r2
    exact op_add pins s σ _ _ _ v u Q I rx ry ⟨_, _, rfl, rfl, putSame p G rs rfl⟩
  · split at p
    · rename_i xs ys hl
      obtain ⟨a, vs, rfl, ta, ra⟩ := id r1
      obtain ⟨b, us, rfl, tb, rb⟩ := id r2
      refine op_catA pins s σ _ _ _ v u Q I rx ry ⟨a, b, vs, us, rfl, rfl, ta.sq, tb.sq, by rw [ra.length, rb.length, ← sl_eq]; exact hl, fun z => ?_, fun _ z => ?_, fun _ _ => new_tup p G rs (ra.append rb)⟩
      · have l := ra.length
        rw [z] at l
        have z2 : xs = [] := List.eq_nil_of_length_eq_zero l.symm
        subst z2
        exact putSame p G rs r2
      · have l := rb.length
        rw [z] at l
        have z2 : ys = [] := List.eq_nil_of_length_eq_zero l.symm
        subst z2
        rw [List.append_nil] at p
        exact putSame p G rs r1
    · exact p.elim
  · split at p
    · rename_i xs ys e1 e2
      split at p
      · rename_i hl
        obtain ⟨a, vs, rfl, ta, ra⟩ := r1.lstAt rs e1
        obtain ⟨b, us, rfl, tb, rb⟩ := r2.lstAt rs e2
        exact op_cat pins s σ _ _ _ v u Q I rx ry ⟨a, b, vs, us, rfl, rfl, ta, tb, by rw [ra.length, rb.length, ← sl_eq]; exact hl, new_lst p G rs (ra.append rb)⟩
      · exact p.elim
    · exact p.elim
theorem smallI_iff {i : Int} : smallI i = true ↔ -(2 ^ 64) < i ∧ i < 2 ^ 64 := by
  unfold smallI
  rw [Bool.and_eq_true, decide_eq_true_eq, decide_eq_true_eq]
  exact Iff.rfl
theorem tuple_mulW1 (l : Addr) (items : Array Value) (n : Nat) (dd : Option Addr) (sl : Array (Option Value)) (u : Tok) :
    Meets (Builtin.«tuple.__mul__» ⟨[.ref l, .int 1 u], []⟩) (fun _ R s => s.heap.get? l = some { cls := .type "tuple", dict := dd, data := .seq items n, slots := sl } ∧ R (.ok (.ret (Value.ref l))) s) :=
  .of_wp fun prog w A R s h => by
    obtain ⟨hp, g, d, tk, os⟩ := s
    obtain ⟨hl, h⟩ := h
    have f1 := AutoSeq1.idx_int
    have c0 : (decide ((1 : Int) < -(2 ^ 63)) || decide ((1 : Int) ≥ 2 ^ 63)) = false := by decide
    have c1 : (items.isEmpty || (1 : Int) == 1) = true := by simp
    wp_walk using wpAny_loadPart' hl
    repeat (first
      | (refine wpAny_ite_false (decide_eq_false (by rw [c0]; exact Bool.false_ne_true)) ?_; wp_walk using wpAny_loadPart' hl)
      | (refine wpAny_ite_true (decide_eq_true (by rw [c1])) ?_; wp_walk using wpAny_loadPart' hl))
    exact ⟨_, rfl, h⟩
theorem op_repT1 {X : Cx} : OpR X (binaryOp .Mult) (fun x y H Q => ∃ l xs, x = .ref l ∧ y = .int 1 ∧ SqT X.K H l xs ∧ Q (.ref l) H) := by
  intro pins s σ H x y v u Q I rx ry h
  obtain ⟨l, xs, rfl, rfl, hT, q⟩ := h
  cases rx
  obtain ⟨t, rfl⟩ := ry
  obtain ⟨its, r, ⟨⟨cls, dd, data, sl⟩, ho, hc, n, hd⟩, hs⟩ := I.tuple hT
  simp only at hc hd
  subst hc hd
  refine wpAny_binaryOp_repeat_ref (T := "tuple") (U := "int") (by decide) ⟨_, ho, rfl⟩ (fun s' => typeIs_int s' 1 t) noFill_tuple_mul F.fills_int_mul F.slot_int_rmul repeat_tuple F.slot_int_index.lookup
    (call_meets F.slot_int_rmul (typeIs_int s 1 t) F.entry_int_rmul (F.args_int_rmul_2 _ _) (int_rmul_tuple 1 t l its.toArray n dd sl)
      ⟨ho, rfl, ⟨_, ho, rfl⟩, call_meets F.slot_tuple_mul ⟨_, ho, rfl⟩ F.entry_tuple_mul (F.args_tuple_mul_2 _ _) (tuple_mulW1 l its.toArray n dd sl t) ⟨ho, ?_⟩⟩)
  exact ⟨.ref l, H, I, rfl, q⟩
theorem jo_mul : OpR X (binaryOp .Mult) (opOf X.g oMul) := by
  intro pins s σ H x y v u Q I rx ry ⟨Wx, σ', w, S, d, e, hH, G, rs, r1, r2, p⟩
  subst hH
  unfold oMul at p
  split at p
  · split at p
    · rename_i h
      cases r1
      cases r2
      exact op_mul pins s σ _ _ _ v u Q I rx ry ⟨_, _, rfl, rfl, h.imp smallI_iff.mp smallI_iff.mp, putSame p G rs rfl⟩
    · exact p.elim
  · split at p
    · rename_i xs k h
      obtain ⟨h1, h2, h3, h4⟩ := h
      cases r2
      obtain ⟨a, vs, rfl, ta, ra⟩ := id r1
      by_cases hk : k = 1
      · subst hk
        refine op_repT1 pins s σ _ _ _ v u Q I rx ry ⟨a, vs, rfl, rfl, ta.sq, putSame p G rs ?_⟩
        have e1 : (List.replicate (Int.toNat 1) xs).flatten = xs := by simp [List.replicate]
        rw [e1]
        exact r1
      · refine op_repT pins s σ _ _ _ v u Q I rx ry ⟨a, _, vs, rfl, rfl, ta.sq, ?_, by omega, h3, by rw [ra.length]; exact h4, new_tup p G rs (ra.rep _)⟩
        intro z
        apply h1
        have := ra.length
        rw [z] at this
        exact List.eq_nil_of_length_eq_zero this.symm
    · exact p.elim
  · split at p
    · rename_i xs e1
      split at p
      · rename_i h
        cases r2
        obtain ⟨a, vs, rfl, ta, ra⟩ := r1.lstAt rs e1
        exact op_rep pins s σ _ _ _ v u Q I rx ry ⟨a, _, vs, rfl, rfl, ta, h.1, h.2.1, by rw [ra.length, ← sl_eq]; exact h.2.2, new_lst p G rs (ra.rep _)⟩
      · exact p.elim
    · exact p.elim
  · exact p.elim
/-! == : a value as data -/
mutual
def D.py : D → PyData
  | .non => .none
  | .bl b => .bool b
  | .int i => .int i
  | .str x => .str x
  | .tup ds => .tuple (D.pys ds)
  | .lst ds => .list (D.pys ds)
  | .rdl ds => .list (D.pys ds)
  | _ => .none
def D.pys : List D → List PyData
  | [] => []
  | d :: ds => d.py :: D.pys ds
end
mutual
theorem py_lay : ∀ d : D, d.cmpb = true → d.py.canLay0 = true
  | .non, _ => rfl
  | .bl _, _ => rfl
  | .int _, _ => rfl
  | .str x, h => h
  | .tup ds, h => pys_lay ds h
  | .lst ds, h => pys_lay ds h
  | .rdl ds, h => pys_lay ds h
theorem pys_lay : ∀ ds : List D, D.cmpbs ds = true → PyData.canLayAll0 (D.pys ds) = true
  | [], _ => rfl
  | d :: ds, h => by
    simp only [D.cmpbs, Bool.and_eq_true] at h
    simp only [D.pys, PyData.canLayAll0, Bool.and_eq_true]
    exact ⟨py_lay d h.1, pys_lay ds h.2⟩
end
mutual
theorem py_depth : ∀ d : D, d.cmpb = true → d.py.depth = d.depth
  | .non, _ => rfl
  | .bl _, _ => rfl
  | .int _, _ => rfl
  | .str x, h => rfl
  | .tup ds, h => by show PyData.depthAll _ + 1 = D.depths _ + 1; rw [pys_depth ds h]
  | .lst ds, h => by show PyData.depthAll _ + 1 = D.depths _ + 1; rw [pys_depth ds h]
  | .rdl ds, h => by show PyData.depthAll _ + 1 = D.depths _ + 1; rw [pys_depth ds h]
theorem pys_depth : ∀ ds : List D, D.cmpbs ds = true → PyData.depthAll (D.pys ds) = D.depths ds
  | [], _ => rfl
  | d :: ds, h => by
    simp only [D.cmpbs, Bool.and_eq_true] at h
    show max _ _ = max _ _
    rw [py_depth d h.1, pys_depth ds h.2]
end
theorem py_shaped {d : D} (h : cmpOk d = true) : SeqAt.shaped d.py = true := by
  unfold cmpOk at h
  simp only [Bool.and_eq_true, decide_eq_true_eq] at h
  unfold SeqAt.shaped
  simp only [Bool.and_eq_true, decide_eq_true_eq]
  exact ⟨py_lay d h.1, by rw [py_depth d h.1]; exact h.2⟩
mutual
theorem py_eqv : ∀ d e : D, d.cmpb = true → e.cmpb = true → PyData.eqv d.py e.py = d.eqB e
  | .non, e, _, h => by cases e <;> first | rfl | exact absurd h (by simp [D.cmpb])
  | .bl _, e, _, h => by cases e <;> first | rfl | exact absurd h (by simp [D.cmpb])
  | .int _, e, _, h => by cases e <;> first | rfl | exact absurd h (by simp [D.cmpb])
  | .str _, e, _, h => by cases e <;> first | rfl | exact absurd h (by simp [D.cmpb])
  | .tup xs, e, h1, h => by cases e <;> first | rfl | exact pys_eqv xs _ h1 h | exact absurd h (by simp [D.cmpb])
  | .lst xs, e, h1, h => by cases e <;> first | rfl | exact pys_eqv xs _ h1 h | exact absurd h (by simp [D.cmpb])
  | .rdl xs, e, h1, h => by cases e <;> first | rfl | exact pys_eqv xs _ h1 h | exact absurd h (by simp [D.cmpb])
theorem pys_eqv : ∀ ds es : List D, D.cmpbs ds = true → D.cmpbs es = true → PyData.eqvAll (D.pys ds) (D.pys es) = D.eqBs ds es
  | [], [], _, _ => rfl
  | [], _ :: _, _, _ => rfl
  | _ :: _, [], _, _ => rfl
  | d :: ds, e :: es, h, k => by
    simp only [D.cmpbs, Bool.and_eq_true] at h k
    show (PyData.eqv _ _ && PyData.eqvAll _ _) = (_ && _)
    rw [py_eqv d e h.1 k.1, pys_eqv ds es h.2 k.2]
end
mutual
theorem py_dp {g : G} {w : W} : ∀ (d : D) (v : V), d.cmpb = true → RD g w d v → Dp g.K w.H v d.py
  | .non, _, _, r => by cases r; exact .non
  | .bl _, _, _, r => by cases r; exact .bl _
  | .int _, _, _, r => by cases r; exact .int _
  | .str _, _, _, r => by cases r; exact .str _
  | .tup ds, _, h, r => by
    obtain ⟨a, vs, rfl, t, r⟩ := r
    exact .tup t.sq (pys_dp ds vs h r)
  | .lst ds, _, h, r => by
    obtain ⟨a, vs, rfl, t, _, r⟩ := r
    exact .lst (SqL.of t) (pys_dp ds vs h r)
  | .rdl ds, _, h, r => by
    obtain ⟨a, vs, rfl, t, r⟩ := r
    exact .lst t.sq (pys_dp ds vs h r)
theorem pys_dp {g : G} {w : W} : ∀ (ds : List D) (vs : List V), D.cmpbs ds = true → RDs g w ds vs → DpAll g.K w.H vs (D.pys ds)
  | [], _, _, r => by cases r; exact .nil
  | d :: ds, _, h, r => by
    obtain ⟨v, vs, rfl, r1, r2⟩ := r
    simp only [D.cmpbs, Bool.and_eq_true] at h
    exact .cons (py_dp d v h.1 r1) (pys_dp ds vs h.2 r2)
end
theorem cmpOk_b {d : D} (h : cmpOk d = true) : d.cmpb = true := by
  unfold cmpOk at h
  exact (Bool.and_eq_true_iff.mp h).1
theorem seen_dp {g : G} {w : W} {S : List D} {d : D} {v : V} (rs : RS g w S) (r : RD g w d v) (h : cmpOk (seen S d) = true) : Dp g.K w.H v (seen S d).py := by
  have hc : (seen S d).cmpb = true := cmpOk_b h
  cases d with
  | loc n =>
    cases e : S[n]? with
    | none =>
      simp only [seen, e] at hc
      exact absurd hc (by simp [D.cmpb])
    | some o =>
      cases o with
      | lst ds =>
        simp only [seen, e] at hc ⊢
        obtain ⟨p, rfl, hp⟩ := r
        obtain ⟨vs, h1, h2⟩ := rs.obj hp e
        exact .lst (SqL.of h1) (pys_dp ds vs hc h2)
      | _ =>
        simp only [seen, e] at hc
        exact absurd hc (by simp [D.cmpb])
  | _ => exact py_dp _ _ hc r
theorem jo_eq (hu : X.A.units + 64 < cLine) : OpR X (compareOp .Eq) (opOf X.g oEq) := by
  intro pins s σ H x y v u Q I rx ry ⟨Wx, σ', w, S, d, e, hH, G, rs, r1, r2, p⟩
  subst hH
  unfold oEq at p
  split at p
  · rename_i h
    refine op_eqD hu pins s σ _ _ _ v u Q I rx ry ⟨_, _, seen_dp rs r1 h.1, seen_dp rs r2 h.2, py_shaped h.1, py_shaped h.2, ?_⟩
    rw [py_eqv _ _ (cmpOk_b h.1) (cmpOk_b h.2)]
    exact putSame p G rs rfl
  · exact p.elim
theorem jo_ne (hu : X.A.units + 64 < cLine) : OpR X (compareOp .NotEq) (opOf X.g oNe) := by
  intro pins s σ H x y v u Q I rx ry ⟨Wx, σ', w, S, d, e, hH, G, rs, r1, r2, p⟩
  subst hH
  unfold oNe at p
  split at p
  · rename_i h
    refine op_neD hu pins s σ _ _ _ v u Q I rx ry ⟨_, _, seen_dp rs r1 h.1, seen_dp rs r2 h.2, py_shaped h.1, py_shaped h.2, ?_⟩
    rw [py_eqv _ _ (cmpOk_b h.1) (cmpOk_b h.2)]
    exact putSame p G rs rfl
  · exact p.elim
/-! is None -/
theorem isNon_of {g : G} {w : W} {d : D} {x : V} (r1 : RD g w d x) : decide (x = .non) = d.isNon := by
  cases d with
  | non => cases r1; rfl
  | bl b => cases r1; rfl
  | int b => cases r1; rfl
  | str b => cases r1; rfl
  | ty b => cases r1; rfl
  | tup b => obtain ⟨_, _, rfl, _⟩ := r1; rfl
  | lst b => obtain ⟨_, _, rfl, _⟩ := r1; rfl
  | rdl b => obtain ⟨_, _, rfl, _⟩ := r1; rfl
  | dct b => obtain ⟨_, _, rfl, _⟩ := r1; rfl
  | dcT b => obtain ⟨_, _, rfl, _⟩ := r1; rfl
  | tuk b => obtain ⟨_, _, _, rfl, _⟩ := r1; rfl
  | loc b => obtain ⟨_, rfl, _⟩ := r1; rfl
end
end J
set_option Elab.async false
set_option linter.all false
set_option maxRecDepth 100000
set_option maxHeartbeats 1000000
namespace J
open PySem PySem.Spec PyProof.Rows L2
section
variable {X : Cx} {Wx : WX}
theorem ky_of {g : G} {w : W} {d : D} {v : V} {k : Ky} (r : RD g w d v) (h : keyOf d = some k) : v = kV k := by
  cases d <;> first
    | (simp only [keyOf, Option.some.injEq] at h; subst h; exact r)
    | exact absurd h (by simp [keyOf])
theorem kys_of {g : G} {w : W} : ∀ {ds : List D} {vs : List V} {ks : List Ky}, RDs g w ds vs → keysOf ds = some ks → vs = ks.map kV
  | [], _, _, r, h => by cases h; exact r
  | d :: ds, _, _, r, h => by
    obtain ⟨v, vs, rfl, r1, r2⟩ := r
    unfold keysOf at h
    split at h
    · rename_i k ks h1 h2
      cases h
      rw [List.map_cons, ky_of r1 h1, kys_of r2 h2]
    · cases h
theorem kyT_of {g : G} {w : W} {d : D} {v : V} {ks : List Ky} (r : RD g w d v) (h : keyT d = some ks) : ∃ b, v = .ref b ∧ w.H b = some (.tup (ks.map kV)) ∧ ¬ w.thA b := by
  cases d with
  | tup ds =>
    obtain ⟨b, vs, rfl, t, r⟩ := r
    have := kys_of r h
    subst this
    exact ⟨b, rfl, t.1, t.2⟩
  | _ => simp [keyT] at h
/-! dicts by zip -/
theorem valV_zip {g : G} {w : W} : ∀ {ks : List Ky} {ds : List D} {vs : List V} (k : Ky), ks.length = vs.length → RDs g w ds vs → (∀ d, getK ks ds k = some d → ∃ v, valV (ks.zip vs) k = some v ∧ RD g w d v)
  | [], _, _, k, _, _, d, h => by simp [getK] at h
  | q :: ks, [], _, k, _, r, d, h => by simp [getK] at h
  | q :: ks, e :: ds, _, k, l, r, d, h => by
    obtain ⟨v, vs, rfl, r1, r2⟩ := r
    simp only [getK] at h
    rw [List.zip_cons_cons]
    split at h
    · rename_i hq
      cases h
      exact ⟨v, valV_pos hq, r1⟩
    · rename_i hq
      rw [valV_neg hq]
      exact valV_zip k (by simpa using l) r2 d h
theorem valV_some : ∀ {ks : List Ky} {vs : List V} (k : Ky), ks.length = vs.length → (valV (ks.zip vs) k).isSome = keyIn ks k
  | [], _, k, _ => by simp [keyIn, valV]
  | q :: ks, [], k, l => by simp at l
  | q :: ks, v :: vs, k, l => by
    rw [List.zip_cons_cons]
    show _ = (decide (q = k) || keyIn ks k)
    by_cases h : q = k
    · rw [valV_pos h, decide_eq_true h]; rfl
    · rw [valV_neg h, decide_eq_false h, Bool.false_or]
      exact valV_some k (by simpa using l)
theorem valV_someG {κ : Type} [DecidableEq κ] : ∀ {ks : List κ} {vs : List V} (k : κ), ks.length = vs.length → (valV (ks.zip vs) k).isSome = ks.any fun q => decide (q = k)
  | [], _, k, _ => by simp [valV]
  | q :: ks, [], k, l => by simp at l
  | q :: ks, v :: vs, k, l => by
    rw [List.zip_cons_cons]
    show _ = (decide (q = k) || ks.any fun q => decide (q = k))
    by_cases h : q = k
    · rw [valV_pos h, decide_eq_true h]; rfl
    · rw [valV_neg h, decide_eq_false h, Bool.false_or]
      exact valV_someG k (by simpa using l)
/-! x in xs -/
theorem pys_any : ∀ (x : D) (xs : List D), x.cmpb = true → xs.all cmpOk = true → ((D.pys xs).any fun z => PyData.eqv z x.py) = inD x xs
  | _, [], _, _ => rfl
  | x, y :: ys, h, k => by
    simp only [List.all_cons, Bool.and_eq_true] at k
    show (PyData.eqv _ _ || List.any _ _) = (D.eqB _ _ || inD _ _)
    rw [py_eqv _ _ (cmpOk_b k.1) h, pys_any x ys h k.2]
theorem all_cmpbs : ∀ {xs : List D}, xs.all cmpOk = true → D.cmpbs xs = true ∧ D.depths xs ≤ 64
  | [], _ => ⟨rfl, Nat.zero_le _⟩
  | x :: xs, h => by
    simp only [List.all_cons, Bool.and_eq_true] at h
    obtain ⟨h1, h2⟩ := all_cmpbs h.2
    have hx := h.1
    unfold cmpOk at hx
    simp only [Bool.and_eq_true, decide_eq_true_eq] at hx
    refine ⟨by simp only [D.cmpbs, Bool.and_eq_true]; exact ⟨hx.1, h1⟩, ?_⟩
    show max _ _ ≤ 64
    omega
theorem seq_dp {g : G} {w : W} {S : List D} {d : D} {v : V} {xs : List D} (rs : RS g w S) (r : RD g w d v) (h : seqOf S d = some xs) (k : xs.all cmpOk = true) : Dp g.K w.H v (.list (D.pys xs)) ∨ Dp g.K w.H v (.tuple (D.pys xs)) := by
  obtain ⟨p, vs, rfl, t, r2⟩ := r.seq rs h
  have c := (all_cmpbs k).1
  rcases t with t | t
  · exact .inl (.lst t (pys_dp xs vs c r2))
  · exact .inr (.tup t (pys_dp xs vs c r2))
theorem room_in {A : Around} {xs : List D} {d : D} (hd : cmpOk d = true) (hu : A.units + 65 < cLine) : A.units + 1 + min (PyData.depthAll (D.pys xs)) d.py.depth < cLine := by
  have := SeqAt.depth_of_shaped (py_shaped hd)
  have := Nat.min_le_right (PyData.depthAll (D.pys xs)) d.py.depth
  omega
theorem jo_in (hu : X.A.units + 65 < cLine) : OpR X (compareOp .In) (opOf X.g oIn) := by
  intro pins s σ H x y v u Q I rx ry ⟨Wx, σ', w, S, d, e, hH, G, rs, r1, r2, p⟩
  subst hH
  unfold oIn at p
  split at p
  · rename_i xs e1
    split at p
    · rename_i h
      have q := putSame p G rs rfl
      obtain ⟨as, q1⟩ := Dp.reads I _ _ v (seen_dp rs r1 h.1) rx
      rw [← pys_any _ _ (cmpOk_b h.1) h.2] at q
      have hl := pys_lay _ (all_cmpbs h.2).1
      rcases seq_dp rs r2 e1 h.2 with t | t
      · obtain ⟨bs, q2⟩ := Dp.reads I _ _ u t ry
        exact SeqAt.in_list_reads q2 q1 hl (py_lay _ (cmpOk_b h.1)) (room_in h.1 hu) ⟨.bl _, _, I, rfl, q⟩
      · obtain ⟨bs, q2⟩ := Dp.reads I _ _ u t ry
        exact SeqAt.in_tuple_reads q2 q1 hl (py_lay _ (cmpOk_b h.1)) (room_in h.1 hu) ⟨.bl _, _, I, rfl, q⟩
    · exact p.elim
  · split at p
    · rename_i ks vs k e1 e2
      obtain ⟨a, us, rfl, t, l, r3⟩ := r2.dctAt rs e1
      cases ry
      have := ky_of r1 e2
      subst this
      have q := putSame p G rs rfl
      refine d_in (by omega) I (.inl ⟨_, k, t, rfl, rfl⟩) rx fun s' I' => ⟨.bl _, _, I', rfl, ?_⟩
      rw [valV_some k l]
      exact q
    · exact p.elim
theorem jo_nin (hu : X.A.units + 65 < cLine) : OpR X (compareOp .NotIn) (opOf X.g oNin) := by
  intro pins s σ H x y v u Q I rx ry ⟨Wx, σ', w, S, d, e, hH, G, rs, r1, r2, p⟩
  subst hH
  unfold oNin at p
  split at p
  · rename_i xs e1
    split at p
    · rename_i h
      have q := putSame p G rs rfl
      obtain ⟨as, q1⟩ := Dp.reads I _ _ v (seen_dp rs r1 h.1) rx
      rw [← pys_any _ _ (cmpOk_b h.1) h.2] at q
      have hl := pys_lay _ (all_cmpbs h.2).1
      rcases seq_dp rs r2 e1 h.2 with t | t
      · obtain ⟨bs, q2⟩ := Dp.reads I _ _ u t ry
        exact SeqAt.notIn_list_reads q2 q1 hl (py_lay _ (cmpOk_b h.1)) (room_in h.1 hu) ⟨.bl _, _, I, rfl, q⟩
      · obtain ⟨bs, q2⟩ := Dp.reads I _ _ u t ry
        exact SeqAt.notIn_tuple_reads q2 q1 hl (py_lay _ (cmpOk_b h.1)) (room_in h.1 hu) ⟨.bl _, _, I, rfl, q⟩
    · exact p.elim
  · split at p
    · rename_i ks vs k e1 e2
      obtain ⟨a, us, rfl, t, l, r3⟩ := r2.dctAt rs e1
      cases ry
      have := ky_of r1 e2
      subst this
      have q := putSame p G rs rfl
      refine d_notIn (by omega) I (.inl ⟨_, k, t, rfl, rfl⟩) rx fun s' I' => ⟨.bl _, _, I', rfl, ?_⟩
      rw [valV_some k l]
      exact q
    · exact p.elim
/-! x[i] -/
theorem ixOf_eq (n : Nat) (i : Int) : ixOf n i = ixN n i := rfl
theorem atOf_of {g : G} {w : W} {ds : List D} {vs : List V} {i : Int} {d : D} (r : RDs g w ds vs) (h : atOf ds i = some d) : ∃ v, atI vs i = some v ∧ RD g w d v := by
  unfold atOf at h
  unfold atI
  rw [r.length, ← ixOf_eq]
  cases e : ixOf ds.length i with
  | none => rw [e] at h; cases h
  | some j =>
    rw [e] at h
    exact r.get h
theorem ixUse {w : W} {S : List D} {d e : D} {x y : V} {Q : VK} {Wx : WX} {σ : L2.St} (G : Good w) (rs : RS X.g w S) (r1 : RD X.g w d x) (r2 : RD X.g w e y) (p : PR X.g Wx σ w (RD X.g) Q (oIx d e S)) :
    (rIxL X.K x y w.H Q ∨ rIxT X.K x y w.H Q) ∨ ∃ a v, x = .ref a ∧ DGet w.H a y (some v) ∧ Q v w.H := by
  unfold oIx at p
  split at p
  · rename_i xs k e1
    split at p
    · rename_i z e2
      cases r2
      obtain ⟨a, vs, rfl, t, r3⟩ := r1.seq rs e1
      obtain ⟨v, e3, r4⟩ := atOf_of r3 e2
      have q := putSame p G rs r4
      rcases t with t | t
      · exact .inl (.inl ⟨a, vs, k, v, rfl, rfl, t, e3, q⟩)
      · exact .inl (.inr ⟨a, vs, k, v, rfl, rfl, t, e3, q⟩)
    · exact p.elim
  · split at p
    · rename_i ks ds k e1 e2
      split at p
      · rename_i z e3
        obtain ⟨a, us, rfl, t, l, r3⟩ := r1.dctAt rs e1
        have := ky_of r2 e2
        subst this
        obtain ⟨v, e4, r4⟩ := valV_zip k l r3 z e3
        exact .inr ⟨a, v, rfl, by rw [← e4]; exact .inl ⟨_, k, t, rfl, rfl⟩, putSame p G rs r4⟩
      · exact p.elim
    · exact p.elim
theorem jo_ix (hu : X.A.units + 1 < cLine) : IxR X (opOf X.g oIx) := by
  intro value slice pins s σ H x y v u Q I rx ry ⟨Wx, σ', w, S, d, e, hH, G, rs, r1, r2, p⟩ hs
  subst hH
  rcases ixUse G rs r1 r2 p with (h | h) | ⟨a, z, rfl, h, q⟩
  · exact ix_list value slice pins s σ _ x y v u Q I rx ry h hs
  · exact ix_tup value slice pins s σ _ x y v u Q I rx ry h hs
  · cases rx
    exact tail_any (dict_typeIs I h) PySem.F.slot_dict_getitem.lookup (d_getItem hu I h ry fun w' s' I' r' => ⟨z, _, I', r', q⟩) hs
theorem jg_ix (hu : X.A.units + 1 < cLine) : PGet X (opOf X.g oIx) := by
  intro pins s σ H x y v u Q I rx ry ⟨Wx, σ', w, S, d, e, hH, G, rs, r1, r2, p⟩
  subst hH
  rcases ixUse G rs r1 r2 p with (h | h) | ⟨a, z, rfl, h, q⟩
  · obtain ⟨p, xs, i, z, rfl, rfl, hq, he, q⟩ := h
    cases rx
    obtain ⟨t, rfl⟩ := ry
    obtain ⟨its, r, pl, hz⟩ := I.list hq
    obtain ⟨j, h1, h2, h3, h4, h5⟩ := atI_get he
    obtain ⟨w', ew, rw'⟩ := r.get h2
    have hl := r.length
    have hn := line63
    have fin : EP X pins σ Q w' s := ⟨z, w.H, I, rw', q⟩
    by_cases h0 : 0 ≤ i
    · have hj : i.toNat = j := by
        rw [seqIndex_of h0 h5] at h1
        exact Option.some.inj h1
      exact wpAny_getItem_list pl.isList h0 (by omega) (by rw [hj]; simpa using ew) fin
    · have hj : (i + (its.toArray.size : Int)).toNat = j := by
        rw [seqIndex_neg (by omega) h4] at h1
        rw [List.size_toArray, ← hl]
        exact Option.some.inj h1
      exact wpAny_getItem_list_neg pl.isList (by omega) (by rw [List.size_toArray] <;> omega) (by omega) (by rw [hj]; simpa using ew) fin
  · obtain ⟨p, xs, i, z, rfl, rfl, hq, he, q⟩ := h
    cases rx
    obtain ⟨t, rfl⟩ := ry
    obtain ⟨its, r, pl, hz⟩ := I.tuple hq
    obtain ⟨j, h1, h2, h3, h4, h5⟩ := atI_get he
    obtain ⟨w', ew, rw'⟩ := r.get h2
    have hl := r.length
    have hn := line63
    exact PyProof.Rows.getItem_tuple pl (by omega) (by omega) (by rw [List.size_toArray, ← hl]; exact h1) (by simpa using ew) ⟨z, w.H, I, rw', q⟩
  · cases rx
    exact d_getItem hu I h ry fun w' s' I' r' => ⟨z, _, I', r', q⟩
end
end J
set_option Elab.async false
set_option linter.all false
set_option maxRecDepth 100000
set_option maxHeartbeats 1000000
namespace J
open PySem PySem.Spec PyProof.Rows L2
section
variable {X : Cx} {Wx : WX} {a : Expr} {ma : ME} {pos : Pos}
/-! slices -/
theorem cut_eq {g : G} {w : W} {ds : List D} {vs : List V} (r : RDs g w ds vs) (lo hi : Option Int) : RDs g w (cutOf ds lo hi) (cutV vs lo hi) := by
  unfold cutOf cutV
  rw [r.length]
  exact (r.drop _).take _
theorem cut_whole {ds : List D} {lo hi : Option Int} (h : sIxOf ds.length 0 lo = 0 ∧ sIxOf ds.length ds.length hi = ds.length) : cutOf ds lo hi = ds := by
  unfold cutOf
  rw [h.1, h.2]
  simp
def slOf (g : G) : V → Option Int → Option Int → Hp → VK → Prop := fun x lo hi H Q => ∃ Wx σ w S d, w.H = H ∧ Good w ∧ RS g w S ∧ RD g w d x ∧ PR g Wx σ w (RD g) Q (oSl d lo hi S)
theorem jo_sl : SlR X (slOf X.g) := by
  intro pins s σ H x v vl vu lo hi sl Q I rx hs pl pu ⟨Wx, σ', w, S, d, hH, G, rs, r1, p⟩
  subst hH
  unfold oSl at p
  split at p
  · rename_i xs
    obtain ⟨a, vs, rfl, t, r2⟩ := id r1
    have hl := r2.length
    refine sl_tupA pins s σ _ _ v vl vu lo hi sl Q I rx hs pl pu ⟨a, vs, rfl, t.sq, fun hw => ?_, fun _ => new_tup p G rs (cut_eq r2 lo hi)⟩
    rw [hl] at hw
    rw [cut_whole hw] at p
    exact putSame p G rs r1
  · split at p
    · rename_i xs e1
      obtain ⟨a, vs, rfl, t, r2⟩ := r1.seq rs e1
      rcases t with t | t
      · exact sl_list pins s σ _ _ v vl vu lo hi sl Q I rx hs pl pu ⟨a, vs, rfl, t, new_lst p G rs (cut_eq r2 lo hi)⟩
      · rcases seqOf_some e1 with rfl | rfl | rfl | ⟨n, rfl, e⟩
        · rename_i h; exact absurd rfl (h xs)
        · obtain ⟨b, us, z, t2, _, r3⟩ := r1
          cases z
          exact sl_list pins s σ _ _ v vl vu lo hi sl Q I rx hs pl pu ⟨a, us, rfl, SqL.of t2, new_lst p G rs (cut_eq r3 lo hi)⟩
        · obtain ⟨b, us, z, t2, r3⟩ := r1
          cases z
          exact sl_list pins s σ _ _ v vl vu lo hi sl Q I rx hs pl pu ⟨a, us, rfl, t2.sq, new_lst p G rs (cut_eq r3 lo hi)⟩
        · obtain ⟨b, z, hp⟩ := r1
          cases z
          obtain ⟨us, t2, r3⟩ := rs.obj hp e
          exact sl_list pins s σ _ _ v vl vu lo hi sl Q I rx hs pl pu ⟨a, us, rfl, SqL.of t2, new_lst p G rs (cut_eq r3 lo hi)⟩
    · exact p.elim
def TPof (g : G) (Wx : WX) (m : Env → List D → R (Option Int)) : TO := fun σ H Q => ∃ w E S, At g w E σ H S ∧ PR g Wx σ w relO Q (m E S)
theorem dp_none : PO X none (TPof X.g Wx (ePart none)) := ⟨fun pins s σ H Q I h => by
  obtain ⟨w, E, S, a, p⟩ := h
  have := p none w (Ext.refl w) a.good rfl a.sto
  rw [a.hp] at this
  exact po_none.run pins s σ H Q I this⟩
theorem dp_some (h : PE X a (TEof X.g Wx ma)) : PO X (some a) (TPof X.g Wx (ePart (some ma))) := ⟨fun pins s σ H Q I hh => by
  obtain ⟨w, E, S, a, p⟩ := hh
  refine (po_some h).run pins s σ H Q I ⟨w, E, S, a, PR.imp (PR.bind a.good a.env p) fun x H1 ⟨w1, d, S1, a1, x1, r1, p1⟩ => ?_⟩
  cases d <;> try exact p1.elim
  rename_i i
  cases r1
  have := p1 (some i) w1 (Ext.refl w1) a1.good rfl a1.sto
  rw [a1.hp] at this
  exact ⟨i, rfl, this⟩⟩
theorem de_slice {lo hi : Option Expr} {ml mh : Option ME} {p2 : Pos} (he : PE X a (TEof X.g Wx ma)) (hl : PO X lo (TPof X.g Wx (ePart ml))) (hu : PO X hi (TPof X.g Wx (ePart mh))) : PE X (.Subscript a (.Slice lo hi none p2) pos) (TEof X.g Wx (eSl ma ml mh)) := by
  refine peImp (pe_slice jo_sl he hl hu) fun σ H Q ⟨w, E, S, a, p⟩ => ?_
  refine ⟨w, E, S, a, PR.imp (PR.bind a.good a.env p) fun x H1 ⟨w1, d, S1, a1, x1, r1, p1⟩ => ?_⟩
  refine ⟨w1, E, S1, a1, PR.imp (PR.bind a1.good a1.env p1) fun l H2 ⟨w2, l', S2, a2, x2, r2, p2⟩ => ?_⟩
  obtain rfl : l' = l := r2
  refine ⟨w2, E, S2, a2, PR.imp (PR.bind a2.good a2.env p2) fun u H3 ⟨w3, u', S3, a3, x3, r3, p3⟩ => ?_⟩
  obtain rfl : u' = u := r3
  exact ⟨Wx, σ, w3, S3, d, a3.hp, a3.good, a3.sto, RD.mono a1.good (x2.trans x3) d x r1, p3⟩
/-! built-ins -/
theorem RDs.one' {g : G} {w : W} {d : D} {vs : List V} (h : RDs g w [d] vs) : ∃ v, vs = [v] ∧ RD g w d v := by
  obtain ⟨v, r, rfl, h1, h2⟩ := h
  cases h2
  exact ⟨v, rfl, h1⟩
theorem RDs.two' {g : G} {w : W} {d e : D} {vs : List V} (h : RDs g w [d, e] vs) : ∃ v u, vs = [v, u] ∧ RD g w d v ∧ RD g w e u := by
  obtain ⟨v, r, rfl, h1, h2⟩ := h
  obtain ⟨u, rfl, h3⟩ := h2.one'
  exact ⟨v, u, rfl, h1, h3⟩
theorem call_lenR : CallR X (.builtin "len") (fun xs H Q => ∃ a kvs, xs = [V.ref a] ∧ Rd H a (.dK kvs) ∧ Q (.int kvs.length) H) := by
  intro pins s σ H xs us Q I r h
  obtain ⟨a, kvs, rfl, ha, q⟩ := h
  obtain ⟨u, rfl, ru⟩ := vals1 r
  cases ru
  exact d_len I ha fun t s' I' => ⟨.int kvs.length, H, I', ⟨t, rfl⟩, q⟩
theorem jc_len : CallR X (.builtin "len") (argOf X.g bLen) := by
  intro pins s σ H xs us Q I r ⟨Wx, σ', w, S, ds, hH, G, rs, r1, p⟩
  subst hH
  unfold bLen at p
  split at p
  · obtain ⟨v, rfl, r2⟩ := r1.one'
    split at p
    · rename_i xs e
      obtain ⟨a, vs, rfl, t, r3⟩ := r2.seq rs e
      have q := putSame p G rs rfl
      rw [← r3.length] at q
      exact call_len_seq pins s σ _ _ us Q I r ⟨a, vs, rfl, t, q⟩
    · split at p
      · rename_i ks vs e
        obtain ⟨a, us', rfl, t, l, r3⟩ := r2.dctAt rs e
        have q := putSame p G rs rfl
        refine call_lenR pins s σ _ _ us Q I r ⟨a, _, rfl, t, ?_⟩
        rw [List.length_zip, ← l, Nat.min_self]
        exact q
      · exact p.elim
  · exact p.elim
theorem jc_int : CallR X (.type "int") (argOf X.g bInt) := by
  intro pins s σ H xs us Q I r ⟨Wx, σ', w, S, ds, hH, G, rs, r1, p⟩
  subst hH
  unfold bInt at p
  split at p
  · obtain ⟨v, rfl, r2⟩ := r1.one'
    cases r2
    exact call_int1 pins s σ _ _ us Q I r (.inl ⟨_, rfl, putSame p G rs rfl⟩)
  · obtain ⟨v, rfl, r2⟩ := r1.one'
    cases r2
    exact call_int1 pins s σ _ _ us Q I r (.inr ⟨_, rfl, putSame p G rs rfl⟩)
  · exact p.elim
theorem jc_abs : CallR X (.builtin "abs") (argOf X.g bAbs) := by
  intro pins s σ H xs us Q I r ⟨Wx, σ', w, S, ds, hH, G, rs, r1, p⟩
  subst hH
  unfold bAbs at p
  split at p
  · obtain ⟨v, rfl, r2⟩ := r1.one'
    cases r2
    exact call_abs pins s σ _ _ us Q I r ⟨_, rfl, putSame p G rs rfl⟩
  · exact p.elim
theorem jc_min2 (hc : X.calm = true) : CallR X (.builtin "min") (argOf X.g bMin2) := by
  intro pins s σ H xs us Q I r ⟨Wx, σ', w, S, ds, hH, G, rs, r1, p⟩
  subst hH
  unfold bMin2 at p
  split at p
  · obtain ⟨v, u, rfl, r2, r3⟩ := r1.two'
    cases r2
    cases r3
    exact call_min2 hc pins s σ _ _ us Q I r ⟨_, _, rfl, putSame p G rs rfl⟩
  · exact p.elim
theorem ints_vals {g : G} {w : W} : ∀ {ds : List D} {vs : List V} {ns : List Int}, RDs g w ds vs → intsOf ds = some ns → vs = ns.map V.int
  | [], _, ns, r, h => by
    cases r
    simp only [intsOf, Option.some.injEq] at h
    subst h
    rfl
  | d :: ds, _, ns, r, h => by
    obtain ⟨v, vs, rfl, r1, r2⟩ := r
    cases d <;> try (simp only [intsOf, reduceCtorEq] at h)
    rename_i i
    cases e : intsOf ds with
    | none => rw [e] at h; cases h
    | some ms =>
      rw [e] at h
      cases h
      cases r1
      rw [ints_vals r2 e]
      rfl
theorem crT_sum (hc : X.calm = true) : CallR X (.builtin "sum") (fun vs H Q => ∃ (a : Addr) (ns : List Int), vs = [V.ref a] ∧ SqT X.K H a (ns.map V.int) ∧ Q (.int ns.sum) H) := by
  intro pins s σ H vs us Q I r h
  obtain ⟨a, ns, rfl, hs, q⟩ := h
  obtain ⟨its, rv, pl, hz⟩ := I.tuple hs
  rw [Vals.ref1 r]
  have hi := rv.ints
  obtain ⟨xs, e⟩ := hi.allInts.items
  have hn : numsOf (intItems xs).toList = ns := by rw [← e]; exact hi.numsOf
  rw [nums_intItems] at hn
  rw [e] at pl
  refine PySem.W.ktm_sumG (I.ok.hd hc) pl fun h' tk t' hk => ⟨.int _, H, I.kept hk, ⟨_, rfl⟩, ?_⟩
  rw [preSum_eq, List.take_of_length_le (by simp), hn]
  exact q
theorem jc_sum (hc : X.calm = true) : CallR X (.builtin "sum") (argOf X.g bSum) := by
  intro pins s σ H xs us Q I r ⟨Wx, σ', w, S, ds, hH, G, rs, r1, p⟩
  subst hH
  unfold bSum at p
  split at p
  · obtain ⟨v, rfl, r2⟩ := r1.one'
    split at p
    · rename_i xs e
      split at p
      · rename_i ns e2
        obtain ⟨a, vs, rfl, t, r3⟩ := r2.seq rs e
        have := ints_vals r3 e2
        subst this
        rcases t with t | t
        · exact cr_sum hc pins s σ _ _ us Q I r ⟨a, ns, rfl, t, putSame p G rs rfl⟩
        · exact crT_sum hc pins s σ _ _ us Q I r ⟨a, ns, rfl, t, putSame p G rs rfl⟩
      · exact p.elim
    · exact p.elim
  · exact p.elim
theorem jc_tuple : CallR X (.type "tuple") (argOf X.g bTuple) := by
  intro pins s σ H xs us Q I r ⟨Wx, σ', w, S, ds, hH, G, rs, r1, p⟩
  subst hH
  unfold bTuple at p
  split at p
  · obtain ⟨v, rfl, r2⟩ := r1.one'
    split at p
    · rename_i xs e
      have h := seqOf_some e
      rcases h with rfl | h
      · obtain ⟨a, vs, rfl, t, r3⟩ := id r2
        exact call_tuple_of pins s σ _ _ us Q I r ⟨a, vs, rfl, .inr ⟨t.sq, putSame p G rs r2⟩⟩
      · have tl : ∃ a vs, v = .ref a ∧ SqL X.K w.H a vs ∧ RDs X.g w xs vs := by
          rcases h with rfl | rfl | ⟨n, rfl, e2⟩
          · obtain ⟨a, vs, rfl, t, _, r3⟩ := r2
            exact ⟨a, vs, rfl, SqL.of t, r3⟩
          · obtain ⟨a, vs, rfl, t, r3⟩ := r2
            exact ⟨a, vs, rfl, t.sq, r3⟩
          · obtain ⟨a, rfl, hp⟩ := r2
            obtain ⟨vs, t, r3⟩ := rs.obj hp e2
            exact ⟨a, vs, rfl, SqL.of t, r3⟩
        obtain ⟨a, vs, rfl, t, r3⟩ := tl
        exact call_tuple_of pins s σ _ _ us Q I r ⟨a, vs, rfl, .inl ⟨t, new_tup p G rs r3⟩⟩
    · exact p.elim
  · exact p.elim
theorem jc_listL : CallR X (.type "list") (argOf X.g bListL) := by
  intro pins s σ H xs us Q I r ⟨Wx, σ', w, S, ds, hH, G, rs, r1, p⟩
  subst hH
  unfold bListL at p
  split at p
  · obtain ⟨v, rfl, r2⟩ := r1.one'
    split at p
    · rename_i xs e
      obtain ⟨a, vs, rfl, t, r3⟩ := r2.seq rs e
      exact call_list_of pins s σ _ _ us Q I r ⟨a, vs, rfl, t, new_loc p G rs r3⟩
    · exact p.elim
  · exact p.elim
/-! methods -/
theorem mtUse {m : D → List D → List D → R D} {o : ME} {ma : MA} {r : V → List V → Hp → VK → Prop} (hr : ∀ x xs H Q, mtOf X.g m x xs H Q → r x xs H Q) : ∀ (σ : L2.St) H Q, TEof X.g Wx (eMeth m o ma) σ H Q → tBM X.K "list" r (TEof X.g Wx o) (TAof X.g Wx ma) σ H Q := fun σ H Q ⟨w, E, S, a, p⟩ => by
  refine ⟨w, E, S, a, PR.imp (PR.bind a.good a.env p) fun x H1 ⟨w1, d, S1, a1, x1, r1, p1⟩ => ?_⟩
  split at p1
  · rename_i h
    obtain ⟨xs, e⟩ := Option.isSome_iff_exists.mp h
    obtain ⟨b, vs, rfl, t, r3⟩ := r1.lstAt a1.sto e
    refine ⟨.inl ⟨rfl, _, SqL.of (by rw [← a1.hp]; exact t)⟩, w1, E, S1, a1, PR.imp (PR.bind a1.good a1.env p1) fun ys H2 ⟨w2, es, S2, a2, x2, r2, p2⟩ => ?_⟩
    exact hr _ ys H2 Q ⟨Wx, σ, w2, S2, d, es, a2.hp, a2.good, a2.sto, RD.mono a1.good x2 d _ r1, r2, p2⟩
  · exact p1.elim
theorem locUse {w : W} {S : List D} {n : Nat} {xs : List D} {v : V} (rs : RS X.g w S) (r : RD X.g w (.loc n) v) (e : S[n]? = some (.lst xs)) : ∃ a vs, v = .ref a ∧ w.rhA[n]? = some a ∧ w.H a = some (.lst vs) ∧ RDs X.g w xs vs := by
  obtain ⟨a, rfl, hp⟩ := r
  obtain ⟨vs, t, r3⟩ := rs.obj hp e
  exact ⟨a, vs, rfl, hp, t, r3⟩
theorem put_upd {w : W} {a : Addr} {o : HO} (G : Good w) (hno : ∀ xs, o ≠ .tup xs := by intro _ z; cases z) : Good { w with H := upd w.H a o } := ⟨G.nd, G.sub, fun b h => by
  show upd w.H a o b ≠ none
  by_cases e : b = a
  · rw [e, upd_same]; simp
  · rw [upd_ne e]; exact G.al b h, fun b h xs => by
  show upd w.H a o b ≠ some (.tup xs)
  by_cases e : b = a
  · rw [e, upd_same]
    intro z
    exact hno xs (Option.some.inj z)
  · rw [upd_ne e]; exact G.nt b h xs⟩
theorem putLst {w : W} {S : List D} {n : Nat} {a : Addr} {xs : List D} {vs : List V} {Q : VK} {d : D} {v : V} {σ : L2.St} (G : Good w) (rs : RS X.g w S) (hp : w.rhA[n]? = some a) (r : RDs X.g w xs vs) (rd : RD X.g w d v)
    (p : PR X.g Wx σ w (RD X.g) Q (.ok d (S.set n (.lst xs)))) : Q v (upd w.H a (.lst vs)) := by
  have mem := List.mem_of_getElem? hp
  have x := upd_ext (o := .lst vs) mem
  refine p v { w with H := upd w.H a (.lst vs) } x (put_upd G) (rd.mono G x) (upd_store G rs hp ⟨vs, upd_same, r.mono G x⟩)
theorem jm_append : MtR X "list.append" (mtOf X.g mAppend) := by
  intro pins s σ H x xs v us Q I rx rs' ⟨Wx, σ', w, S, d, ds, hH, G, rs, r1, r2, p⟩
  subst hH
  unfold mAppend at p
  split at p
  · rename_i n y
    obtain ⟨z, rfl, r3⟩ := r2.one'
    split at p
    · rename_i ys e
      split at p
      · rename_i hl
        obtain ⟨a, vs, rfl, hp, t, r4⟩ := locUse rs r1 e
        exact mt_append pins s σ _ _ _ v us Q I rx rs' ⟨a, vs, z, rfl, rfl, t, by rw [r4.length, ← sl_eq]; exact hl, putLst (d := .non) (v := .non) G rs hp (r4.append (RDs.one r3)) rfl p⟩
      · exact p.elim
    · exact p.elim
  · exact p.elim
theorem jm_pop : MtR X "list.pop" (mtOf X.g mPop) := by
  intro pins s σ H x xs v us Q I rx rs' ⟨Wx, σ', w, S, d, ds, hH, G, rs, r1, r2, p⟩
  subst hH
  unfold mPop at p
  split at p
  · rename_i n
    cases r2
    split at p
    · rename_i ys e
      split at p
      · rename_i y e2
        obtain ⟨a, vs, rfl, hp, t, r4⟩ := locUse rs r1 e
        have hl := r4.length
        obtain ⟨z, h1, h2⟩ := r4.get e2
        refine mt_pop pins s σ _ _ _ v us Q I rx rs' ⟨a, vs, z, rfl, rfl, t, by rw [hl]; exact h1, putLst G rs hp ?_ h2 p⟩
        rw [List.dropLast_eq_take, List.dropLast_eq_take, hl]
        exact r4.take _
      · exact p.elim
    · exact p.elim
  · exact p.elim
theorem de_meth {o e : Expr} {es : List Expr} {mo : ME} {mr : MA} {name : Str} {apos cpos : Pos} {id : String} {m : D → List D → List D → R D} (slot : Slot "list" name id) (hty : typeOf (.builtin id) = pure (.type "method_descriptor")) (hm : MtR X id (mtOf X.g m)) (ho : PE X o (TEof X.g Wx mo)) (ha : PA X (e :: es) (TAof X.g Wx mr))
    (hbase : attributeBase o name X.env (eval o X.env) = eval o X.env := by rfl)
    (hfew : ((backTo cpos (starEach (e :: es) X.env)).all (fun x => !x.1) && (backToKw cpos (keywordEach [] X.env)).all (fun x => x.1.isSome)
      && decide ((e :: es).length + ([] : List Keyword).length + (if ([] : List Keyword).isEmpty then 0 else 1) < 30)) = true := by rfl)
    (hline : (apos.endLine == cpos.line) = true := by rfl) (hs : starEach (e :: es) X.env = (false, eval e X.env) :: starEach es X.env := by rfl) (hplain : (backTo cpos (starEach es X.env)).any (·.1) = false := by rfl) :
    PE X (.Call (.Attribute o name apos) (e :: es) [] cpos) (TEof X.g Wx (eMeth m mo mr)) :=
  peImp (pe_bm PySem.F.plainAttrs_list slot hty hm ho ha hbase hfew hline hs hplain) (mtUse fun _ _ _ _ h => h)
theorem de_meth0 {o : Expr} {mo : ME} {name : Str} {apos cpos : Pos} {id : String} {m : D → List D → List D → R D} (slot : Slot "list" name id) (hty : typeOf (.builtin id) = pure (.type "method_descriptor")) (hm : MtR X id (mtOf X.g m)) (ho : PE X o (TEof X.g Wx mo))
    (hbase : attributeBase o name X.env (eval o X.env) = eval o X.env := by rfl) (hline : (apos.endLine == cpos.line) = true := by rfl) :
    PE X (.Call (.Attribute o name apos) [] [] cpos) (TEof X.g Wx (eMeth m mo aNil)) := by
  refine peImp (pe_bm0 PySem.F.plainAttrs_list slot hty hm ho hbase hline) fun σ H Q ⟨w, E, S, a, p⟩ => ?_
  refine ⟨w, E, S, a, PR.imp (PR.bind a.good a.env p) fun x H1 ⟨w1, d, S1, a1, x1, r1, p1⟩ => ?_⟩
  split at p1
  · rename_i h
    obtain ⟨xs, e⟩ := Option.isSome_iff_exists.mp h
    obtain ⟨b, vs, rfl, t, r3⟩ := r1.lstAt a1.sto e
    exact ⟨.inl ⟨rfl, _, SqL.of (by rw [← a1.hp]; exact t)⟩, Wx, σ, w1, S1, d, [], a1.hp, a1.good, a1.sto, r1, rfl, p1⟩
  · exact p1.elim
/-! o[i] = v -/
theorem zip_map {κ : Type} [DecidableEq κ] {ks : List κ} (k : κ) (v : V) : ∀ {ks : List κ} {vs : List V}, ks.length = vs.length → (ks.zip vs).map (fun kv => if kv.1 = k then (kv.1, v) else kv) = ks.zip (ks.zipWith (fun q u => if q = k then v else u) vs)
  | [], [], _ => rfl
  | q :: ks, [], l => by simp at l
  | [], _ :: _, l => by simp at l
  | q :: ks, u :: vs, l => by
    rw [List.zip_cons_cons, List.map_cons, List.zipWith_cons_cons, List.zip_cons_cons, zip_map (ks := ks) k v (by simpa using l)]
    by_cases h : q = k
    · simp [h]
    · simp [h]
theorem RDs.zipSet {κ : Type} [DecidableEq κ] {g : G} {w : W} {d : D} {v : V} (k : κ) (rd : RD g w d v) : ∀ {ks : List κ} {ds : List D} {vs : List V}, RDs g w ds vs → RDs g w (ks.zipWith (fun q e => if q = k then d else e) ds) (ks.zipWith (fun q u => if q = k then v else u) vs)
  | [], _, _, r => by simp [RDs]
  | q :: ks, [], _, r => by cases r; simp [RDs]
  | q :: ks, e :: ds, _, r => by
    obtain ⟨u, vs, rfl, r1, r2⟩ := r
    rw [List.zipWith_cons_cons, List.zipWith_cons_cons]
    refine ⟨_, _, rfl, ?_, RDs.zipSet k rd r2⟩
    by_cases h : q = k
    · rw [if_pos h, if_pos h]; exact rd
    · rw [if_neg h, if_neg h]; exact r1
def setOf (g : G) : V → V → V → Hp → (Hp → Prop) → Prop := fun o i v H Q => ∃ w S x k d S', w.H = H ∧ Good w ∧ RS g w S ∧ RD g w x o ∧ RD g w k i ∧ RD g w d v ∧ putAt x k d S = some S' ∧ ∀ w', Ext w w' → Good w' → RS g w' S' → Q w'.H
theorem jp_put (hu : X.A.units + 1 < cLine) : PSet X (setOf X.g) := by
  intro pins s σ H o i v ov iv u Q I ro ri rv ⟨w, S, x, k, d, S', hH, G, rs, r1, r2, r3, hp, q⟩
  subst hH
  unfold putAt at hp
  split at hp
  · rename_i n
    split at hp
    · rename_i xs e
      split at hp
      · rename_i k'
        split at hp
        · rename_i j hj
          cases hp
          cases r2
          obtain ⟨a, vs, rfl, h1, t, r4⟩ := locUse rs r1 e
          have x := upd_ext (o := .lst (vs.set j v)) (List.mem_of_getElem? h1)
          exact set_list pins s σ _ _ _ v ov iv u Q I ro ri rv ⟨a, vs, k', j, rfl, rfl, t, by rw [r4.length]; exact hj, q _ x (put_upd G) (upd_store G rs h1 ⟨_, upd_same, (r4.set j r3).mono G x⟩)⟩
        · cases hp
      · cases hp
    · rename_i ks ds e
      split at hp
      · rename_i k' ek
        split at hp
        · rename_i hl
          cases hp
          obtain ⟨a, rfl, h1⟩ := r1
          obtain ⟨vs, t, l, r4⟩ := rs.obj h1 e
          have := ky_of r2 ek
          subst this
          cases ro
          have hz : (ks.zip vs).length < sizeLine := by rw [List.length_zip, ← l, Nat.min_self, ← sl_eq]; exact hl
          refine d_setItem hu I (DPut.k (k := k') t hz) ri rv fun s4 I4 => ⟨_, I4, ?_⟩
          have mem := List.mem_of_getElem? h1
          have ea : ((ks.zip vs).any fun kv => decide (kv.1 = k')) = keyIn ks k' := by rw [valV_any, valV_some k' l]
          unfold L2.putK
          rw [ea]
          unfold putAt.putK at q
          cases hk : keyIn ks k' with
          | true =>
            rw [if_pos rfl, zip_map (ks := ks) k' v l]
            rw [hk, if_pos rfl] at q
            have x := upd_ext (w := w) (o := .dK (ks.zip (ks.zipWith (fun q u => if q = k' then v else u) vs))) mem
            refine q _ x (put_upd G) (upd_store G rs h1 ⟨_, upd_same, ?_, (RDs.zipSet k' r3 r4).mono G x⟩)
            simp [l]
          | false =>
            rw [if_neg Bool.false_ne_true]
            rw [hk, if_neg Bool.false_ne_true] at q
            have ez : ks.zip vs ++ [(k', v)] = (ks ++ [k']).zip (vs ++ [v]) := by rw [List.zip_append l]; rfl
            rw [ez]
            have x := upd_ext (w := w) (o := .dK ((ks ++ [k']).zip (vs ++ [v]))) mem
            refine q _ x (put_upd G) (upd_store G rs h1 ⟨_, upd_same, ?_, (r4.append (RDs.one r3)).mono G x⟩)
            simp [l]
        · cases hp
      · cases hp
    · rename_i ks ds e
      split at hp
      · rename_i k' ek
        split at hp
        · rename_i hl
          cases hp
          obtain ⟨a, rfl, h1⟩ := r1
          obtain ⟨vs, t, l, r4⟩ := rs.obj h1 e
          obtain ⟨kb, rfl, tb, _⟩ := kyT_of r2 ek
          cases ro
          have hz : (ks.zip vs).length < sizeLine := by rw [List.length_zip, ← l, Nat.min_self, ← sl_eq]; exact hl
          refine d_setItem hu I (DPut.t (k := k') t tb hz) ri rv fun s4 I4 => ⟨_, I4, ?_⟩
          have mem := List.mem_of_getElem? h1
          have ea : ((ks.zip vs).any fun kv => decide (kv.1 = k')) = (ks.any fun q => decide (q = k')) := by rw [valV_any, valV_someG k' l]
          unfold L2.putK
          rw [ea]
          unfold putAt.putT at q
          cases hk : (ks.any fun q => decide (q = k')) with
          | true =>
            rw [if_pos rfl, zip_map (ks := ks) k' v l]
            rw [hk, if_pos rfl] at q
            have x := upd_ext (w := w) (o := .dT (ks.zip (ks.zipWith (fun q u => if q = k' then v else u) vs))) mem
            refine q _ x (put_upd G) (upd_store G rs h1 ⟨_, upd_same, ?_, (RDs.zipSet k' r3 r4).mono G x⟩)
            simp [l]
          | false =>
            rw [if_neg Bool.false_ne_true]
            rw [hk, if_neg Bool.false_ne_true] at q
            have ez : ks.zip vs ++ [(k', v)] = (ks ++ [k']).zip (vs ++ [v]) := by rw [List.zip_append l]; rfl
            rw [ez]
            have x := upd_ext (w := w) (o := .dT ((ks ++ [k']).zip (vs ++ [v]))) mem
            refine q _ x (put_upd G) (upd_store G rs h1 ⟨_, upd_same, ?_, (r4.append (RDs.one r3)).mono G x⟩)
            simp [l]
        · cases hp
      · cases hp
    · cases hp
  · cases hp
end
end J
set_option Elab.async false
set_option linter.all false
set_option maxRecDepth 100000
set_option maxHeartbeats 1000000
namespace J
open PySem PySem.Spec PyProof.Rows L2
/-! ### statements -/
def PO_ (g : G) (Wx : WX) (D : Ends) (w : W) : O → Prop
  | .nx E S => ∀ σ' w', Ext w w' → Good w' → RE g w' E σ' → RS g w' S → D.nx σ' w'.H
  | .rt d S => ∀ v w', Ext w w' → Good w' → RD g w' d v → RS g w' S → D.rt v w'.H
  | .bk E S => ∀ σ' w', Ext w w' → Good w' → RE g w' E σ' → RS g w' S → D.bk σ' w'.H
  | .ct E S => ∀ σ' w', Ext w w' → Good w' → RE g w' E σ' → RS g w' S → D.ct σ' w'.H
  | .exc c fs E S => ∀ cls dx σ' w', Ext w w' → Good w' → RX g w' c fs cls dx → RE g w' E σ' → RS g w' S → Wx cls dx σ' w'.H
  | .bad => False
def TSof (g : G) (Wx : WX) (m : MS) : TS := fun D σ H => ∃ w E S, At g w E σ H S ∧ PO_ g Wx D w (m E S)
theorem PO_.at {g : G} {Wx : WX} {D : Ends} {w w1 : W} {o : O} (h : PO_ g Wx D w o) (x : Ext w w1) : PO_ g Wx D w1 o := by
  cases o with
  | nx E S => exact fun σ w' y => h σ w' (x.trans y)
  | rt d S => exact fun v w' y => h v w' (x.trans y)
  | bk E S => exact fun σ w' y => h σ w' (x.trans y)
  | ct E S => exact fun σ w' y => h σ w' (x.trans y)
  | exc c fs E S => exact fun cls dx σ w' y => h cls dx σ w' (x.trans y)
  | bad => exact h
theorem PO_.bind {g : G} {Wx : WX} {σ : L2.St} {w : W} {E : Env} {D : Ends} {r : R J.D} {k : J.D → List J.D → O} (G : Good w) (he : RE g w E σ)
    (h : PO_ g Wx D w (r.toO E k)) : PR g Wx σ w (RD g) (fun x H1 => ∃ w1 a S1, At g w1 E σ H1 S1 ∧ Ext w w1 ∧ RD g w1 a x ∧ PO_ g Wx D w1 (k a S1)) r := by
  cases r with
  | ok d S => exact fun v w' x G' rl rs => ⟨w', d, S, ⟨rfl, G', he.mono G x, rs⟩, x, rl, PO_.at h x⟩
  | exc c fs S => exact fun cls dx w' x G' rx rs => h cls dx σ w' x G' rx (he.mono G x) rs
  | bad => exact h
theorem PO_.tbind {g : G} {Wx : WX} {σ : L2.St} {w : W} {E : Env} {D : Ends} {r : R Bool} {k : Bool → List J.D → O} (G : Good w) (he : RE g w E σ)
    (h : PO_ g Wx D w (r.tO E k)) : PR g Wx σ w relB (fun x H1 => ∃ w1 S1, At g w1 E σ H1 S1 ∧ Ext w w1 ∧ PO_ g Wx D w1 (k x S1)) r := by
  cases r with
  | ok d S => exact fun v w' x G' rl rs => ⟨w', S, ⟨rfl, G', he.mono G x, rs⟩, x, by cases rl; exact PO_.at h x⟩
  | exc c fs S => exact fun cls dx w' x G' rx rs => h cls dx σ w' x G' rx (he.mono G x) rs
  | bad => exact h
section
variable {X : Cx} {Wx : WX} {e : Expr} {m m1 m2 : MS} {me : ME} {st : Stmt} {rest : List Stmt} {pos : Pos}
theorem ds_nil : PSs X [] (TSof X.g Wx sNext) := by
  refine pssImp pss_nil fun D σ H ⟨w, E, S, a, p⟩ => ?_
  have := p σ w (Ext.refl w) a.good a.env a.sto
  rw [a.hp] at this
  exact this
theorem ds_one (h : PS X st (TSof X.g Wx m)) : PSs X [st] (TSof X.g Wx m) := pss_one h
theorem ds_cons (h1 : PS X st (TSof X.g Wx m1)) (h2 : PSs X rest (TSof X.g Wx m2)) : PSs X (st :: rest) (TSof X.g Wx (sSeq m1 m2)) := by
  refine pssImp (pss_cons h1 h2) fun D σ H ⟨w, E, S, a, p⟩ => ⟨w, E, S, a, ?_⟩
  unfold sSeq at p
  split at p
  · rename_i E1 S1 e1
    rw [e1]
    exact fun σ' w' x G' re rs => ⟨w', E1, S1, ⟨rfl, G', re, rs⟩, p.at x⟩
  · rename_i h
    cases e1 : m1 E S with
    | nx E1 S1 => exact absurd e1 (h E1 S1)
    | rt d S => rw [e1] at p; exact p
    | bk E S => rw [e1] at p; exact p
    | ct E S => rw [e1] at p; exact p
    | exc c fs E S => rw [e1] at p; exact p
    | bad => rw [e1] at p; exact p
theorem ds_continue : PS X (.Continue pos) (TSof X.g Wx sCont) := by
  refine psImp ps_continue fun D σ H ⟨w, E, S, a, p⟩ => ?_
  have := p σ w (Ext.refl w) a.good a.env a.sto
  rw [a.hp] at this
  exact this
theorem ds_never : PS X st (TSof X.g Wx sNever) := psImp ps_never fun D σ H ⟨w, E, S, a, p⟩ => p
theorem ds_expr (he : PE X e (TEof X.g Wx me)) (hs : swapsWith e none pos.line X.env = pure false := by rfl) : PS X (.Expr e pos) (TSof X.g Wx (sExpr me)) := by
  refine psImp (ps_expr he hs) fun D σ H ⟨w, E, S, a, p⟩ => ⟨w, E, S, a, PR.imp (PO_.bind a.good a.env p) fun x H1 ⟨w1, d, S1, a1, x1, r1, p1⟩ => ?_⟩
  have := p1 σ w1 (Ext.refl w1) a1.good a1.env a1.sto
  rw [a1.hp] at this
  exact this
theorem ds_ret (he : PE X e (TEof X.g Wx me)) : PS X (.Return (some e) pos) (TSof X.g Wx (sRet me)) := by
  refine psImp (ps_ret he) fun D σ H ⟨w, E, S, a, p⟩ => ⟨w, E, S, a, PR.imp (PO_.bind a.good a.env p) fun x H1 ⟨w1, d, S1, a1, x1, r1, p1⟩ => ?_⟩
  have := p1 x w1 (Ext.refl w1) a1.good r1 a1.sto
  rw [a1.hp] at this
  exact this
theorem ds_if {c : Expr} {a b : List Stmt} {mt : MT} (hc : PT X c (TTof X.g Wx mt)) (ha : PSs X a (TSof X.g Wx m1)) (hb : PSs X b (TSof X.g Wx m2)) : PS X (.If c a b pos) (TSof X.g Wx (sIf mt m1 m2)) := by
  refine psImp (ps_if hc ha hb) fun D σ H ⟨w, E, S, a, p⟩ => ⟨w, E, S, a, PR.imp (PO_.tbind a.good a.env p) fun x H1 ⟨w1, S1, a1, x1, p1⟩ => ?_⟩
  cases x
  · rw [if_neg Bool.false_ne_true] at p1 ⊢
    exact ⟨w1, E, S1, a1, p1⟩
  · rw [if_pos rfl] at p1 ⊢
    exact ⟨w1, E, S1, a1, p1⟩
/-! targets -/
mutual
def Tg.slots : Tg → List Nat
  | .nm i => [i]
  | .tp ts => Tg.slotss ts
def Tg.slotss : List Tg → List Nat
  | [] => []
  | t :: ts => t.slots ++ Tg.slotss ts
end
theorem RE.set {g : G} {w : W} {E : Env} {σ : L2.St} {i : Nat} {d : D} {v : V} (h : RE g w E σ) (r : RD g w d v) : RE g w (E.set i (some d)) (σ.set i (some v)) := ⟨by simp [h.1], fun j d' e => by
  by_cases hj : j = i
  · subst hj
    by_cases hl : j < E.length
    · rw [List.getElem?_set_self hl] at e
      cases e
      exact ⟨v, List.getElem?_set_self (by rw [← h.1]; exact hl), r⟩
    · rw [List.getElem?_eq_none (by simpa using hl)] at e
      cases e
  · rw [List.getElem?_set_ne (Ne.symm hj)] at e ⊢
    exact h.2 j d' e⟩
def TGof (g : G) (t : Tg) : TG := fun v σ H Q => ∃ w E S d E', At g w E σ H S ∧ RD g w d v ∧ t.bind d E = some E' ∧ ∀ σ', RE g w E' σ' → (∀ i, i ∉ t.slots → σ'[i]? = σ[i]?) → σ'.length = σ.length → Q σ' H
def TGsof (g : G) (ts : List Tg) : TGs := fun vs σ H Q => ∃ w E S ds E', At g w E σ H S ∧ RDs g w ds vs ∧ Tg.binds ts ds E = some E' ∧ ∀ σ', RE g w E' σ' → (∀ i, i ∉ Tg.slotss ts → σ'[i]? = σ[i]?) → σ'.length = σ.length → Q σ' H
theorem pgImp {t t' : TG} (h : PG X e t) (f : ∀ v σ H Q, t' v σ H Q → t v σ H Q) : PG X e t' := ⟨fun pins s σ H v u Q I r hw => h.run pins s σ H v u Q I r (f _ _ _ _ hw)⟩
theorem pgsImp {es : List Expr} {t t' : TGs} (h : PGs X es t) (f : ∀ v σ H Q, t' v σ H Q → t v σ H Q) : PGs X es t' := ⟨fun pins s σ H v u Q I r hw => h.run pins s σ H v u Q I r (f _ _ _ _ hw)⟩
theorem dg_name {i : Nat} (h : PG X e (gName i)) : PG X e (TGof X.g (.nm i)) := pgImp h fun v σ H Q ⟨w, E, S, d, E', a, r, b, q⟩ => by
  cases b
  exact q _ (a.env.set r) (fun j hj => List.getElem?_set_ne fun z => hj (by subst z; exact List.mem_singleton.mpr rfl)) (by simp)
theorem dg_nil : PGs X [] (TGsof X.g []) := pgsImp pgs_nil fun vs σ H Q ⟨w, E, S, ds, E', a, r, b, q⟩ => by
  cases ds with
  | nil =>
    cases b
    cases r
    exact ⟨rfl, q σ a.env (fun _ _ => rfl) rfl⟩
  | cons d ds => cases b
theorem dg_cons {es : List Expr} {t : Tg} {ts : List Tg} (h1 : PG X e (TGof X.g t)) (h2 : PGs X es (TGsof X.g ts))
    (hs : (assignEach (e :: es) X.env).map (·.2) = assign e X.env :: (assignEach es X.env).map (·.2) := by rfl) : PGs X (e :: es) (TGsof X.g (t :: ts)) := pgsImp (pgs_cons h1 h2 hs) fun vs σ H Q ⟨w, E, S, ds, E', a, r, b, q⟩ => by
  cases ds with
  | nil => cases b
  | cons d ds =>
    obtain ⟨v, vr, rfl, r1, r2⟩ := r
    simp only [Tg.binds] at b
    split at b
    · rename_i E1 e1
      refine ⟨v, vr, rfl, w, E, S, d, E1, a, r1, e1, fun σ1 re1 k1 l1 => ?_⟩
      refine ⟨w, E1, S, ds, E', ⟨a.hp, a.good, re1, a.sto⟩, r2, b, fun σ2 re2 k2 l2 => q σ2 re2 (fun i hi => ?_) (l2.trans l1)⟩
      have hi' : i ∉ t.slots ++ Tg.slotss ts := hi
      rw [List.mem_append, not_or] at hi'
      exact (k2 i hi'.2).trans (k1 i hi'.1)
    · cases b
theorem binds_len : ∀ {ts : List Tg} {ds : List D} {E E' : Env}, Tg.binds ts ds E = some E' → ds.length = ts.length
  | [], [], _, _, _ => rfl
  | [], _ :: _, _, _, h => by cases h
  | _ :: _, [], _, _, h => by cases h
  | t :: ts, d :: ds, E, E', h => by
    simp only [Tg.binds] at h
    split at h
    · simp [binds_len h]
    · cases h
theorem tp_bind {ts : List Tg} {d : D} {E E' : Env} (h : (Tg.tp ts).bind d E = some E') : ∃ ds, d = .tup ds ∧ Tg.binds ts ds E = some E' := by
  cases d with
  | tup ds => exact ⟨ds, rfl, h⟩
  | _ => simp [Tg.bind] at h
theorem dg_tup {es : List Expr} {k : Nat} {ts : List Tg} (hc : X.calm = true) (h : PGs X es (TGsof X.g ts))
    (hn : (assignEach es X.env).length = ts.length := by rfl) (hst : (assignEach es X.env).findIdx? (·.1) = none := by rfl) : PG X (.Tuple es k pos) (TGof X.g (.tp ts)) := pgImp (pg_tup hc h hn hst) fun v σ H Q ⟨w, E, S, d, E', a, r, b, q⟩ => by
  obtain ⟨ds, rfl, b'⟩ := tp_bind b
  obtain ⟨p, vs, rfl, t, r2⟩ := r
  refine ⟨p, vs, rfl, ?_, by rw [r2.length, binds_len b'], w, E, S, ds, E', a, r2, b', q⟩
  rw [← a.hp]
  exact t.sq
/-! stores -/
theorem ds_set {i : Nat} {x : Str} {pos' : Pos} (h : ∀ te, PE X e te → PS X (.Assign [.Name x pos'] e pos) (tAsg te (gName i))) (he : PE X e (TEof X.g Wx me)) : PS X (.Assign [.Name x pos'] e pos) (TSof X.g Wx (sSet i me)) := by
  refine psImp (h _ he) fun D σ H ⟨w, E, S, a, p⟩ => ⟨w, E, S, a, PR.imp (PO_.bind a.good a.env p) fun x H1 ⟨w1, d, S1, a1, x1, r1, p1⟩ => ?_⟩
  have := p1 _ w1 (Ext.refl w1) a1.good (a1.env.set r1) a1.sto
  rw [a1.hp] at this
  exact this
theorem ds_asg {tg : Expr} {t : Tg} (he : PE X e (TEof X.g Wx me)) (hg : PG X tg (TGof X.g t)) (hs : swapsWithSole [tg] e pos.line X.env = pure false := by rfl) (hw : swappedStores [tg] e X.env = pure none := by rfl)
    (h1 : (assignEach [tg] X.env).map (·.2) = [assign tg X.env] := by rfl) : PS X (.Assign [tg] e pos) (TSof X.g Wx (sAsg t me)) := by
  refine psImp (ps_asg he hg hs hw h1) fun D σ H ⟨w, E, S, a, p⟩ => ⟨w, E, S, a, PR.imp (PO_.bind a.good a.env p) fun x H1 ⟨w1, d, S1, a1, x1, r1, p1⟩ => ?_⟩
  split at p1
  · rename_i E1 e1
    refine ⟨w1, E, S1, d, E1, a1, r1, e1, fun σ' re _ _ => ?_⟩
    have := p1 σ' w1 (Ext.refl w1) a1.good re a1.sto
    rw [a1.hp] at this
    exact this
  · exact p1.elim
theorem PO_.abind {g : G} {Wx : WX} {σ : L2.St} {w : W} {E : Env} {D : Ends} {r : R (List J.D)} {k : List J.D → List J.D → O} (G : Good w) (he : RE g w E σ)
    (h : PO_ g Wx D w (match r with | .ok ds S1 => k ds S1 | .exc c fs S1 => .exc c fs E S1 | .bad => .bad)) : PR g Wx σ w (RDs g) (fun x H1 => ∃ w1 a S1, At g w1 E σ H1 S1 ∧ Ext w w1 ∧ RDs g w1 a x ∧ PO_ g Wx D w1 (k a S1)) r := by
  cases r with
  | ok d S => exact fun v w' x G' rl rs => ⟨w', d, S, ⟨rfl, G', he.mono G x, rs⟩, x, rl, PO_.at h x⟩
  | exc c fs S => exact fun cls dx w' x G' rx rs => h cls dx σ w' x G' rx (he.mono G x) rs
  | bad => exact h
theorem ds_par {i j : Nat} {ma : MA} {rest' : List Expr} (hd : ∀ t, PA X rest' t → PS X st (tPar i j t)) (ha : PA X rest' (TAof X.g Wx ma)) : PS X st (TSof X.g Wx (sPar [i, j] ma)) := by
  refine psImp (hd _ ha) fun D σ H ⟨w, E, S, a, p⟩ => ⟨w, E, S, a, PR.imp (PO_.abind (k := fun ds S1 => match Tg.binds ([i, j].map .nm) ds E with | some E1 => .nx E1 S1 | none => .bad) a.good a.env p) fun x H1 ⟨w1, ds, S1, a1, x1, r1, p1⟩ => ?_⟩
  match ds, r1, p1 with
  | [d1, d2], r1, p1 =>
    obtain ⟨v, u, rfl, r2, r3⟩ := r1.two'
    have := p1 _ w1 (Ext.refl w1) a1.good ((a1.env.set r2).set r3) a1.sto
    rw [a1.hp] at this
    exact ⟨v, u, rfl, this⟩
  | [], _, p1 => exact p1.elim
  | [_], _, p1 => exact p1.elim
  | _ :: _ :: _ :: _, _, p1 => exact p1.elim
/-! o[i] = e; x op= e; o[i] op= e -/
theorem ds_put {o i : Expr} {mo mi : ME} {pos' : Pos} (ho : PE X o (TEof X.g Wx mo)) (hi : PE X i (TEof X.g Wx mi)) (he : PE X e (TEof X.g Wx me)) (hu : X.A.units + 1 < cLine)
    (ha : ∀ v, assign (.Subscript o i pos') X.env v = (do
      let ov ← holding [v] (eval o X.env)
      let iv ← holding [v, ov] (eval i X.env)
      standAt pos'
      holding [v, ov, iv] (setItem ov iv v)
      release [v, ov, iv] []) := by intro _; rfl)
    (hs : swapsWithSole [.Subscript o i pos'] e pos.line X.env = pure false := by rfl) (hw : swappedStores [.Subscript o i pos'] e X.env = pure none := by rfl)
    (h1 : (assignEach [.Subscript o i pos'] X.env).map (·.2) = [assign (.Subscript o i pos') X.env] := by rfl) : PS X (.Assign [.Subscript o i pos'] e pos) (TSof X.g Wx (sPut mo mi me)) := by
  refine psImp (ps_asg he (pg_sub ho hi (jp_put hu) ha) hs hw h1) fun D σ H ⟨w, E, S, a, p⟩ => ⟨w, E, S, a, PR.imp (PO_.bind a.good a.env p) fun v H1 ⟨w1, d, S1, a1, x1, r1, p1⟩ => ?_⟩
  refine ⟨w1, E, S1, a1, PR.imp (PO_.bind a1.good a1.env p1) fun x H2 ⟨w2, d2, S2, a2, x2, r2, p2⟩ => ?_⟩
  refine ⟨w2, E, S2, a2, PR.imp (PO_.bind a2.good a2.env p2) fun k H3 ⟨w3, d3, S3, a3, x3, r3, p3⟩ => ?_⟩
  split at p3
  · rename_i S4 e4
    exact ⟨w3, S3, d2, d3, d, S4, a3.hp, a3.good, a3.sto, RD.mono a2.good x3 _ _ r2, r3, RD.mono a1.good (x2.trans x3) _ _ r1, e4, fun w' x' G' rs' => p3 σ w' x' G' (a3.env.mono a3.good x') rs'⟩
  · exact p3.elim
def ipOf (g : G) (f : D → D → List D → R D) : TIp := opOf g f
theorem ds_aug {i : Nat} {x : Str} {op : Operator} {f : D → D → List D → R D} {pos' : Pos} (hN : X.N.Nodup) (hi : X.N[i]? = some x) (hx : Loc X.env.scope x) (he : PE X e (TEof X.g Wx me)) (ho : PIp X op (opOf X.g f)) (hf : X.fn x = true ∨ X.env.scope.names.lookup x = some .local) :
    PS X (.AugAssign (.Name x pos') op e pos) (TSof X.g Wx (sAug i f me)) := by
  refine psImp (ps_aug hN hi hx he ho hf) fun D σ H ⟨w, E, S, a, p⟩ => ?_
  unfold sAug at p
  split at p
  · rename_i d e1
    obtain ⟨v, h1, h2⟩ := a.env.2 i d e1
    refine ⟨v, h1, w, E, S, a, PR.imp (PO_.bind a.good a.env p) fun y H1 ⟨w1, d1, S1, a1, x1, r1, p1⟩ => ?_⟩
    refine ⟨Wx, σ, w1, S1, d, d1, a1.hp, a1.good, a1.sto, RD.mono a.good x1 _ _ h2, r1, PR.imp (PO_.bind a1.good a1.env p1) fun z H2 ⟨w2, d2, S2, a2, x2, r2, p2⟩ => ?_⟩
    have := p2 _ w2 (Ext.refl w2) a2.good (a2.env.set r2) a2.sto
    rw [a2.hp] at this
    exact this
  · exact p.elim
theorem ds_putAug {o i : Expr} {mo mi : ME} {op : Operator} {f : D → D → List D → R D} {tpos : Pos} (ho : PE X o (TEof X.g Wx mo)) (hi : PE X i (TEof X.g Wx mi)) (he : PE X e (TEof X.g Wx me)) (hp : PIp X op (opOf X.g f)) (hu : X.A.units + 1 < cLine)
    (ha : ∀ ov iv new, augStore i ov iv new = (do holding [new, ov, iv] (setItem ov iv new); release [new, ov, iv] []; pure .next) := by intros; rfl) : PS X (.AugAssign (.Subscript o i tpos) op e pos) (TSof X.g Wx (sPutAug f mo mi me)) := by
  refine psImp (ps_augS ho hi (jg_ix hu) he hp (jp_put hu) ha) fun D σ H ⟨w, E, S, a, p⟩ => ?_
  refine ⟨w, E, S, a, PR.imp (PO_.bind a.good a.env p) fun x H1 ⟨w1, d1, S1, a1, x1, r1, p1⟩ => ?_⟩
  refine ⟨w1, E, S1, a1, PR.imp (PO_.bind a1.good a1.env p1) fun k H2 ⟨w2, d2, S2, a2, x2, r2, p2⟩ => ?_⟩
  refine ⟨Wx, σ, w2, S2, d1, d2, a2.hp, a2.good, a2.sto, RD.mono a1.good x2 _ _ r1, r2, PR.imp (PO_.bind a2.good a2.env p2) fun y H3 ⟨w3, d3, S3, a3, x3, r3, p3⟩ => ?_⟩
  refine ⟨w3, E, S3, a3, PR.imp (PO_.bind a3.good a3.env p3) fun z H4 ⟨w4, d4, S4, a4, x4, r4, p4⟩ => ?_⟩
  refine ⟨Wx, σ, w4, S4, d3, d4, a4.hp, a4.good, a4.sto, RD.mono a3.good x4 _ _ r3, r4, PR.imp (PO_.bind a4.good a4.env p4) fun v H5 ⟨w5, d5, S5, a5, x5, r5, p5⟩ => ?_⟩
  split at p5
  · rename_i S6 e6
    exact ⟨w5, S5, d1, d2, d5, S6, a5.hp, a5.good, a5.sto, RD.mono a1.good (x2.trans (x3.trans (x4.trans x5))) _ _ r1, RD.mono a2.good (x3.trans (x4.trans x5)) _ _ r2, r5, e6, fun w' x' G' rs' => p5 σ w' x' G' (a5.env.mono a5.good x') rs'⟩
  · exact p5.elim
/-! in-place operators -/
theorem ipI0 {op : Operator} {f : D → D → List D → R D} {k : Int → Int → Int} (ho : PIp X op (ipI k)) (hm : ∀ d e S, (∃ i j, d = .int i ∧ e = .int j ∧ f d e S = .ok (.int (k i j)) S) ∨ f d e S = .bad) : PIp X op (opOf X.g f) := by
  intro pins s σ H x y v u Q I rx ry ⟨Wx, σ', w, S, d, e, hH, G, rs, r1, r2, p⟩
  rcases hm d e S with ⟨i, j, rfl, rfl, ez⟩ | eb
  · cases r1
    cases r2
    rw [ez] at p
    have := putSame p G rs rfl
    rw [hH] at this
    exact ho pins s σ H _ _ v u Q I rx ry ⟨i, j, rfl, rfl, this⟩
  · rw [eb] at p
    exact p.elim
theorem ji_add : PIp X .Add (opOf X.g iAdd) := ipI0 ip_add fun d e S => by
  unfold iAdd; split
  · exact .inl ⟨_, _, rfl, rfl, rfl⟩
  · exact .inr rfl
theorem ji_sub : PIp X .Sub (opOf X.g oSub) := ipI0 ip_sub fun d e S => by
  unfold oSub; split
  · exact .inl ⟨_, _, rfl, rfl, rfl⟩
  · exact .inr rfl
end
end J
set_option Elab.async false
set_option linter.all false
set_option maxRecDepth 100000
set_option maxHeartbeats 2000000
namespace J
open PySem PySem.Spec PyProof.Rows L2
/-! ### enumerate and zip over lists and tuples alike -/
def SeqB (K : PySem.W.Frag) (H : Hp) (b : Bool) (a : Addr) (xs : List V) : Prop := if b = true then SqT K H a xs else SqL K H a xs
def HoldB (b : Bool) (h : Heap) (a : Addr) (items : Array Value) : Prop := if b = true then h.IsTuple a items else h.IsList a items
def IterB (b : Bool) (h : Heap) (it a : Addr) (i : Nat) : Prop := if b = true then h.IsTupleIter it a i else h.IsListIter it a i
section
variable {X : Cx} {pins : List (Addr × Obj)} {σ : L2.St} {H : Hp} {s : Shared}
theorem Inv.seqB (I : Inv X pins σ H s) {b : Bool} {a : Addr} {xs : List V} (h : SeqB X.K H b a xs) : ∃ its : List Value, Vals xs its ∧ HoldB b s.heap a its.toArray ∧ xs.length ≤ sizeLine := by
  cases b with
  | true =>
    obtain ⟨its, r, t, l⟩ := Inv.tuple I (show SqT X.K H a xs from h)
    exact ⟨its, r, t, l⟩
  | false =>
    obtain ⟨its, r, t, l⟩ := Inv.list I (show SqL X.K H a xs from h)
    exact ⟨its, r, t.isList, l⟩
theorem Inv.seqB_inj (I : Inv X pins σ H s) {b : Bool} {a : Addr} {xs ys : List V} (h : SeqB X.K H b a xs) (h' : SeqB X.K H b a ys) : xs = ys := by
  cases b with
  | true => exact I.tuple_inj (show SqT X.K H a xs from h) h'
  | false => exact I.list_inj (show SqL X.K H a xs from h) h'
end
theorem IterB.at {b : Bool} {h h' : Heap} {it a : Addr} {i : Nat} (x : IterB b h it a i) (e : ∀ o, h.get? it = some o → h'.get? it = some o) : IterB b h' it a i := by
  cases b with
  | true => exact Heap.IsTupleIter.at (show h.IsTupleIter it a i from x) e
  | false => exact Heap.IsListIter.at (show h.IsListIter it a i from x) e
theorem IterB.obj {b : Bool} {h : Heap} {it a : Addr} {i : Nat} (x : IterB b h it a i) : ∃ o, h.get? it = some o ∧ (o.cls = .type "tuple_iterator" ∨ o.cls = .type "list_iterator") ∧ ∀ v, o.data ≠ .cell v := by
  cases b with
  | true =>
    obtain ⟨o, ho, hc, hd⟩ := (show h.IsTupleIter it a i from x)
    exact ⟨o, ho, .inl hc, fun v q => by rw [hd] at q; cases q⟩
  | false =>
    obtain ⟨o, ho, hc, hd⟩ := (show h.IsListIter it a i from x)
    exact ⟨o, ho, .inr hc, fun v q => by rw [hd] at q; cases q⟩
theorem HoldB.obj {b : Bool} {h : Heap} {a : Addr} {items : Array Value} (x : HoldB b h a items) : ∃ o, h.get? a = some o ∧ (o.cls = .type "tuple" ∨ o.cls = .type "list") := by
  cases b with
  | true =>
    obtain ⟨o, ho, hc, _⟩ := (show h.IsTuple a items from x)
    exact ⟨o, ho, .inl hc⟩
  | false =>
    obtain ⟨o, ho, hc, _⟩ := (show h.IsList a items from x)
    exact ⟨o, ho, .inr hc⟩
theorem IterB.ne {b c : Bool} {h : Heap} {it a a' : Addr} {i : Nat} {items : Array Value} (x : IterB b h it a i) (y : HoldB c h a' items) : a' ≠ it := fun e => by
  subst e
  obtain ⟨o, ho, hc, _⟩ := x.obj
  obtain ⟨o', ho', hc'⟩ := y.obj
  rw [ho] at ho'
  cases ho'
  rcases hc with hc | hc <;> rcases hc' with hc' | hc' <;> (rw [hc] at hc'; injection hc' with z; exact absurd z (by decide))
theorem drawsB {prog : Program} {w : World} {A : Around} (hh : A.handled = none) (b : Bool) (it l : Addr) (hne : l ≠ it) (items : Array Value) :
    Draws prog w A it [it, l] items.size (fun i v => items[i]? = some v) (fun i h => IterB b h it l i ∧ HoldB b h l items) := by
  cases b with
  | true => exact Draws.tuple hh it l hne items
  | false => exact Draws.list hh it l hne items
def ItEn (K : PySem.W.Frag) (b : Bool) (a : Addr) : It :=
  ⟨fun i H => ∃ (xs : List V) (x : V), SeqB K H b a xs ∧ xs[i]? = some x, fun i H v H' => ∃ T x, v = .ref T ∧ H T = none ∧ H' = upd H T (.tup [.int (i : Nat), x]) ∧ ∀ xs, SeqB K H b a xs → xs[i]? = some x, fun i H => ∃ xs : List V, SeqB K H b a xs ∧ xs.length = i⟩
theorem turn_en {P : Program} {w : World} {K : PySem.W.Frag} {elts : List Expr} {kk : Nat} {tpos : Pos} (b : Bool) (a e it : Addr) :
    Turn P w K (.Tuple elts kk tpos) (ItEn K b a) [e, it] e (fun i h => (∃ old, IsEnum h e it ((i : Nat) : Int) old) ∧ IterB b h it a i ∧ e ≠ it) where
  mem := by simp
  obj := fun i h st c hb => by
    obtain ⟨⟨old, he⟩, hi, _⟩ := st
    obtain ⟨o, ho, _, hd⟩ := hi.obj
    have e' : c = e ∨ c = it := by simpa using hb
    rcases e' with z | z
    · rw [z]; exact ⟨_, he, fun v q => nomatch q⟩
    · rw [z]; exact ⟨o, ho, hd⟩
  keep := fun i h h' st k => let ⟨⟨old, he⟩, hi, hne⟩ := st; ⟨⟨old, k e (by simp) _ he⟩, hi.at fun o q => k it (by simp) o q, hne⟩
  item := by
    intro X hP hw hK hc i pins s σ H E I hf st hg
    subst hP hw hK
    obtain ⟨⟨old, he⟩, hit, hne⟩ := st
    obtain ⟨xs, x, hq, hx⟩ := hg
    obtain ⟨its, rv, p, hz⟩ := Inv.seqB I hq
    obtain ⟨u, hu, ru⟩ := rv.get hx
    have hel : e < s.heap.objs.size := Heap.lt_size he
    have hil : it < s.heap.objs.size := by obtain ⟨_, q, _⟩ := hit.obj; exact Heap.lt_size q
    have hai := hit.ne p
    have hae : e ≠ a := fun z => by
      subst z
      obtain ⟨o', ho', hc'⟩ := p.obj
      rw [he] at ho'
      cases ho'
      rcases hc' with hc' | hc' <;> (injection hc' with z; exact absurd z (by decide))
    have hlt : i < its.toArray.size := by
      have := (List.getElem?_eq_some_iff.mp hu).1
      simpa using this
    refine wpAny_pyNext_enum_itemD (drawsB (by exact I.ok.hd hc) b it a hai its.toArray) he ⟨hit, p⟩ hlt hne (by simp [hne, hae]) fun u' h' tk hu' ho hst' hT hsz hk => ?_
    obtain ⟨hit', _⟩ := hst'
    have eu : u' = u := by
      have : its[i]? = some u' := by simpa using hu'
      rw [hu] at this
      exact (Option.some.inj this).symm
    subst eu
    refine ⟨_, rfl, wpAny_letOwnedTupleGo_enum (s := { s with heap := h', toks := tk + 1 }) ho fun h'' he' sb => ?_⟩
    have hT2 : h''.get? s.heap.objs.size = some { cls := .type "tuple", data := .seq #[.int i tk, u'] } := (sb.2 _ (Nat.ne_of_gt hel)).trans hT
    have new : ObjOk X.prog X.w (upd H s.heap.objs.size (.tup [.int (i : Nat), x])) h'' s.heap.objs.size (.tup [.int (i : Nat), x]) :=
      ⟨by show 2 ≤ sizeLine; decide, [.int i tk, u'], .cons ⟨_, rfl⟩ (.cons ru .nil), ⟨_, hT2, rfl, _, rfl⟩⟩
    have I1 : Inv X pins σ (upd H s.heap.objs.size (.tup [.int (i : Nat), x])) { s with heap := h'', toks := tk + 1 } :=
      I.turnedNew (ch := [e, it]) (fun b ob hb q => (sb.2 b (fun z => hb (by simp [z]))).trans (hk b ob (fun z => hb (by simp [z])) (fun z => hb (by simp [z])) q)) hf (Nat.le_refl _) new
    refine ⟨.ref s.heap.objs.size, _, I1, rfl, ⟨_, x, rfl, I.hok.fresh (Nat.le_refl _), rfl, fun ys hy => by rw [Inv.seqB_inj I hy hq]; exact hx⟩, ⟨⟨u', ?_⟩, hit'.at fun o q => (sb.2 it (Ne.symm hne)).trans q, hne⟩, fun b hb => ?_⟩
    · have e1 : ((i + 1 : Nat) : Int) = (i : Int) + 1 := by omega
      rw [e1]; exact he'
    · have hb' : b < s.heap.objs.size := by
        have e' : b = e ∨ b = it := by simpa using hb
        rcases e' with z | z
        · rw [z]; exact hel
        · rw [z]; exact hil
      rw [upd_ne (Nat.ne_of_lt hb')]
      exact (hf b hb).1
  done := by
    intro X hP hw hK hc i pins s σ H E I hf st hg
    subst hP hw hK
    obtain ⟨⟨old, he⟩, hit, hne⟩ := st
    obtain ⟨xs, hq, hx⟩ := hg
    obtain ⟨its, rv, p, hz⟩ := Inv.seqB I hq
    obtain ⟨f0, f1, f2, f3, f4, f5⟩ := hf it (by simp)
    have hl := rv.length
    have hai := hit.ne p
    have hi : i = its.toArray.size := by rw [List.size_toArray]; omega
    subst hi
    exact wpAny_pyNext_enum_endD (drawsB (by exact I.ok.hd hc) b it a hai its.toArray) he ⟨hit, p⟩ fun h' eb => ⟨rfl, I.turned (t' := s.toks) (fun b o hb q => eb b o hb q) f0 f1 f3 f4 f5⟩
  self := fun A i s Q E st h => let ⟨⟨_, he⟩, _⟩ := st; wpAny_pyIter_enum he h
set_option maxHeartbeats 4000000 in
theorem meets_enumerate_new0 {v : Value} {o : Obj} {H : Heap → Prop} (B : Begins v o H) :
    Meets (Builtin.«enumerate.__new__» ⟨[.type "enumerate", v], []⟩) (fun _ R s => H s.heap ∧
      R (.ok (.ret (.ref (s.heap.push o).objs.size))) { s with heap := (s.heap.push o).push { cls := .type "enumerate", data := .fields #[.none, .bool false, .ref s.heap.objs.size, rawInt 0, .none, .none] } }) :=
  .of_wp fun prog w A R s h => by
    obtain ⟨hp, g, d, tk, os⟩ := s; obtain ⟨h1, h⟩ := h
    have hsub := sub_enumerate
    have q1 : ∀ {A' : Around} {E : Value → Shared → Prop} {Q : Value → Shared → Prop}, Q (.ref hp.objs.size) ⟨hp.push o, g, d, tk, os⟩ → wpAny (model prog w) A' (pyIter v) Q E ⟨hp, g, d, tk, os⟩ :=
      fun q => B.iter prog w _ _ ⟨hp, g, d, tk, os⟩ _ h1 q
    wp_walk using q1
    refine wpAny_stack_any fun st => wpAny_pure ?_
    split
    · rename_i c _ _ _ _ _
      cases (c == Value.type "enumerate")
      · wp_walk using q1
        exact ⟨_, rfl, h⟩
      · wp_walk using q1
        exact ⟨_, rfl, h⟩
    · wp_walk using q1
      exact ⟨_, rfl, h⟩
section
variable {prog : Program} {w : World} {A : Around} {E : Value → Shared → Prop} {s : Shared}
theorem enum_begins0 {v : Value} {o : Obj} {H : Heap → Prop} {Q : Value → Shared → Prop} (B : Begins v o H) (h1 : H s.heap)
    (h : ∀ h', IsEnum h' (s.heap.objs.size + 1) s.heap.objs.size 0 .none → h'.get? s.heap.objs.size = some o → h'.objs.size = s.heap.objs.size + 2 →
      (∀ b o, s.heap.get? b = some o → h'.get? b = some o) → Q (.ref (s.heap.objs.size + 1)) { s with heap := h' }) :
    wpAny (model prog w) A (call (.type "enumerate") [v]) Q E s := by
  refine callType_new F.called_enumerate (by decide) (F.typeCall_enumerate_1 _) (F.newCall_enumerate_1 _) (fun obj => F.args_object_init_2 obj _) F.entry_enumerate_new
    (meets_enumerate_new0 B) ⟨h1, ?_⟩
  have hz : (s.heap.push o).objs.size = s.heap.objs.size + 1 := Heap.size_push ..
  show _ ∧ _
  rw [hz]
  have he : IsEnum ((s.heap.push o).push { cls := .type "enumerate", data := .fields #[.none, .bool false, .ref s.heap.objs.size, rawInt 0, .none, .none] }) (s.heap.objs.size + 1) s.heap.objs.size 0 .none := by
    have := Heap.get?_push_size (s.heap.push o) (o := { cls := .type "enumerate", data := .fields #[.none, .bool false, .ref s.heap.objs.size, rawInt 0, .none, .none] }) rfl
    rw [hz] at this; exact this
  refine ⟨⟨_, he, rfl⟩, h _ he (Heap.get?_push_of_some _ (Heap.get?_push_size _ B.free)) (by rw [Heap.size_push, hz]) fun b o x => Heap.get?_push_of_some _ (Heap.get?_push_of_some _ x)⟩
end
def itObj (b : Bool) (a : Addr) : Obj := if b = true then { cls := .type "tuple_iterator", data := .fields #[.ref a, .int 0 0] } else { cls := .type "list_iterator", data := .fields #[.ref a, .int 0 0] }
theorem beginsB (b : Bool) (a : Addr) (items : Array Value) : Begins (.ref a) (itObj b a) fun h => HoldB b h a items := by
  cases b with
  | true => exact begins_tuple a items
  | false => exact begins_list a items
theorem IterB.new {b : Bool} {h : Heap} {it a : Addr} (e : h.get? it = some (itObj b a)) : IterB b h it a 0 := by
  cases b with
  | true => exact ⟨_, e, rfl, rfl⟩
  | false => exact ⟨_, e, rfl, rfl⟩
def iEn (K : PySem.W.Frag) (ta : TA) : TI := fun σ H R => ta σ H fun vs H1 => ∃ b a xs, vs = [.ref a] ∧ SeqB K H1 b a xs ∧ R (ItEn K b a) H1
theorem pi_en {X : Cx} {e : Expr} {ta : TA} {p pos tpos : Pos} {elts : List Expr} {kk : Nat} (hg : Gl X "enumerate") (hm : X.mg "enumerate" = none) (ha : PA X [e] ta) (hs : starEach [e] X.env = [(false, eval e X.env)] := by rfl) :
    PI X (.Tuple elts kk tpos) (.Call (.Name "enumerate" p) [e] [] pos) (iEn X.K ta) := by
  refine ⟨fun pins s σ H R I h => ?_⟩
  refine Call_ (ld_blt I hg hm boot_enumerate (PyProof.Rows.callWith_type1 (thn (ha.run pos pins s σ H _ I h) fun us s1 ⟨vs, H1, I1, r1, q1⟩ => ?_) hs rfl))
  obtain ⟨b, a, xs, ex, hq, q⟩ := q1
  subst ex
  cases r1 with
  | cons r rr =>
    cases rr
    cases r
    obtain ⟨its, rv, p', hz⟩ := Inv.seqB I1 hq
    refine enum_begins0 (beginsB b a its.toArray) p' fun h' he hit hsz hk => wpAny_pyIter_enum he ?_
    have I2 : Inv X pins σ H1 { s1 with heap := h' } := I1.kept (t' := s1.toks) hk
    refine ⟨s1.heap.objs.size + 1, [s1.heap.objs.size + 1, s1.heap.objs.size], _, _, H1, rfl, I2, turn_en b a (s1.heap.objs.size + 1) s1.heap.objs.size, ⟨⟨.none, he⟩, IterB.new hit, Nat.succ_ne_self _⟩, fun c hb => ?_, q⟩
    have e' : c = s1.heap.objs.size + 1 ∨ c = s1.heap.objs.size := by simpa using hb
    have hle : s1.heap.objs.size ≤ c := by
      rcases e' with z | z
      · rw [z]; exact Nat.le_add_right _ _
      · rw [z]; exact Nat.le_refl _
    exact I1.fpOk hle (I1.hok.fresh hle)
/-! zip -/
def ItZp (K : PySem.W.Frag) (c d : Bool) (a b : Addr) : It :=
  ⟨fun i H => ∃ (xs ys : List V) (x y : V), SeqB K H c a xs ∧ SeqB K H d b ys ∧ xs[i]? = some x ∧ ys[i]? = some y,
    fun i H v H' => ∃ T x y, v = .ref T ∧ H T = none ∧ H' = upd H T (.tup [x, y]) ∧ (∀ xs, SeqB K H c a xs → xs[i]? = some x) ∧ ∀ ys, SeqB K H d b ys → ys[i]? = some y,
    fun i H => ∃ xs ys : List V, SeqB K H c a xs ∧ SeqB K H d b ys ∧ i ≤ xs.length ∧ i ≤ ys.length ∧ (i = xs.length ∨ i = ys.length)⟩
structure ZpApart (z TI TO i1 i2 : Addr) : Prop where
  TIz : TI ≠ z
  TOz : TO ≠ z
  TITO : TI ≠ TO
  TIi1 : TI ≠ i1
  TIi2 : TI ≠ i2
  zi1 : z ≠ i1
  zi2 : z ≠ i2
  TOi1 : TO ≠ i1
  TOi2 : TO ≠ i2
  i12 : i1 ≠ i2
theorem ne_cls {h : Heap} {a c : Addr} {o o' : Obj} {n m : String} (h1 : h.get? a = some o) (h2 : h.get? c = some o') (e1 : o.cls = .type n) (e2 : o'.cls = .type m) (d : n ≠ m) : a ≠ c := fun e => by
  subst e
  rw [h1] at h2
  cases h2
  rw [e1] at e2
  injection e2 with z
  exact d z
theorem HoldB.ne {c : Bool} {h : Heap} {a z : Addr} {items : Array Value} {o : Obj} {n : String} (y : HoldB c h a items) (ho : h.get? z = some o) (hc : o.cls = .type n) (d1 : n ≠ "tuple") (d2 : n ≠ "list") : z ≠ a := by
  obtain ⟨o', ho', hc'⟩ := y.obj
  rcases hc' with hc' | hc'
  · exact ne_cls ho ho' hc hc' d1
  · exact ne_cls ho ho' hc hc' d2
def iZp (K : PySem.W.Frag) (ta : TA) : TI := fun σ H R => ta σ H fun vs H1 => ∃ c d a b xs ys, vs = [.ref a, .ref b] ∧ SeqB K H1 c a xs ∧ SeqB K H1 d b ys ∧ R (ItZp K c d a b) H1
end J
set_option Elab.async false
set_option linter.all false
set_option maxRecDepth 100000
set_option maxHeartbeats 1000000
namespace J
open PySem PySem.Spec PyProof.Rows L2
/-! ### what a loop goes over -/
structure ItOk (g : G) (w0 : W) (J : It) (src : Src) : Prop where
  go : ∀ (i : Nat) w S d, Ext w0 w → RS g w S → src.alive S = true → src.at_ S i = some d → i < src.len → J.go i w.H
  stop : ∀ w S, Ext w0 w → RS g w S → src.alive S = true → J.stop src.len w.H
  yld : ∀ (i : Nat) w S d x H', Ext w0 w → Good w → RS g w S → src.alive S = true → src.at_ S i = some d → i < src.len → J.yld i w.H x H' → ∃ w', w'.H = H' ∧ Ext w w' ∧ Good w' ∧ w'.rhA = w.rhA ∧ w'.thA = w.thA ∧ RD g w' d x ∧ RS g w' S
def TIof (g : G) (Wx : WX) (m : MI) : TI := fun σ H Q => ∃ w E S, At g w E σ H S ∧ PR g Wx σ w (fun w' s J => ItOk g w' J s) Q (m E S)
theorem piOr {X : Cx} {tg e : Expr} {t t' : TI} (h : PI X tg e t) (h' : PI X tg e t') : PI X tg e (fun σ H R => t σ H R ∨ t' σ H R) := ⟨fun pins s σ H R I q => q.elim (h.run pins s σ H R I) (h'.run pins s σ H R I)⟩
theorem piImp {X : Cx} {tg e : Expr} {t t' : TI} (h : PI X tg e t) (f : ∀ σ H R, t' σ H R → t σ H R) : PI X tg e t' := ⟨fun pins s σ H R I q => h.run pins s σ H R I (f _ _ _ q)⟩
theorem srcOf_some {S : List D} {d : D} {s : Src} (h : srcOf S d = some s) : (∃ ds, (d = .tup ds ∨ d = .tuk ds) ∧ s = .its ds) ∨ (∃ ds, (d = .lst ds ∨ d = .rdl ds) ∧ s = .its ds) ∨ ∃ n ds, d = .loc n ∧ S[n]? = some (.lst ds) ∧ s = .live n ds.length := by
  unfold srcOf at h
  split at h
  · cases h; exact .inl ⟨_, .inl rfl, rfl⟩
  · cases h; exact .inl ⟨_, .inr rfl, rfl⟩
  · cases h; exact .inr (.inl ⟨_, .inl rfl, rfl⟩)
  · cases h; exact .inr (.inl ⟨_, .inr rfl, rfl⟩)
  · split at h
    · rename_i e
      cases h; exact .inr (.inr ⟨_, _, rfl, e, rfl⟩)
    · cases h
  · cases h
def D.isTup : D → Bool
  | .tup _ => true
  | .tuk _ => true
  | _ => false
structure Stands (g : G) (w0 : W) (b : Bool) (a : Addr) (src : Src) : Prop where
  st : ∀ w S, Ext w0 w → RS g w S → src.alive S = true → ∃ vs, SeqB g.K w.H b a vs ∧ vs.length = src.len ∧ (∀ (i : Nat) d, src.at_ S i = some d → ∃ v, vs[i]? = some v ∧ RD g w d v)
theorem stands_of {g : G} {w : W} {S : List D} {d : D} {v : V} {s : Src} (G : Good w) (rs : RS g w S) (r : RD g w d v) (h : srcOf S d = some s) : ∃ a b, v = .ref a ∧ b = d.isTup ∧ Stands g w b a s ∧ s.alive S = true := by
  rcases srcOf_some h with ⟨ds, rfl | rfl, rfl⟩ | ⟨ds, rfl | rfl, rfl⟩ | ⟨n, ds, rfl, e, rfl⟩
  · obtain ⟨a, vs, rfl, t, r2⟩ := r
    exact ⟨a, true, rfl, rfl, ⟨fun w' S' x _ _ => ⟨vs, (t.mono G x).sq, r2.length, fun i d e => (r2.mono G x).get e⟩⟩, rfl⟩
  · obtain ⟨a, vs, o, rfl, t, _, n, r2⟩ := r
    exact ⟨a, true, rfl, rfl, ⟨fun w' S' x _ _ => ⟨vs, .inl (.inr ⟨o, x.fz G t n⟩), r2.length, fun i d e => (r2.mono G x).get e⟩⟩, rfl⟩
  · obtain ⟨a, vs, rfl, t, n, r2⟩ := r
    exact ⟨a, false, rfl, rfl, ⟨fun w' S' x _ _ => ⟨vs, SqL.of (x.fz G t n), r2.length, fun i d e => (r2.mono G x).get e⟩⟩, rfl⟩
  · obtain ⟨a, vs, rfl, t, r2⟩ := r
    exact ⟨a, false, rfl, rfl, ⟨fun w' S' x _ _ => ⟨vs, (t.mono G x).sq, r2.length, fun i d e => (r2.mono G x).get e⟩⟩, rfl⟩
  · obtain ⟨a, rfl, hp⟩ := r
    refine ⟨a, false, rfl, rfl, ⟨fun w' S' x rs' al => ?_⟩, by simp [Src.live, e]⟩
    simp only [Src.live] at al
    split at al
    · rename_i ds' e'
      obtain ⟨us, h1, h2⟩ := rs'.obj (x.get hp) e'
      refine ⟨us, SqL.of h1, by rw [h2.length]; exact (show ds'.length = ds.length by simpa using al), fun i d q => ?_⟩
      simp only [Src.live, e'] at q
      exact h2.get q
    · cases al
theorem its_list {g : G} {w : W} {a : Addr} {s : Src} (h : Stands g w false a s) : ItOk g w (Itl g.K a) s where
  go := fun i w' S d x rs al e _ => by
    obtain ⟨vs, sq, _, at_⟩ := h.st w' S x rs al
    obtain ⟨v, h1, _⟩ := at_ i d e
    exact ⟨vs, v, sq, h1⟩
  stop := fun w' S x rs al => by
    obtain ⟨vs, sq, l, _⟩ := h.st w' S x rs al
    exact ⟨vs, sq, Nat.le_of_eq l⟩
  yld := fun i w' S d x H' ex G rs al e _ y => by
    obtain ⟨vs, sq, _, at_⟩ := h.st w' S ex rs al
    obtain ⟨v, h1, h2⟩ := at_ i d e
    obtain ⟨rfl, q⟩ := y
    have := q vs sq
    rw [h1] at this
    cases this
    exact ⟨w', rfl, Ext.refl _, G, rfl, rfl, h2, rs⟩
theorem its_tup {g : G} {w : W} {a : Addr} {s : Src} (h : Stands g w true a s) : ItOk g w (Itt g.K a) s where
  go := fun i w' S d x rs al e _ => by
    obtain ⟨vs, sq, _, at_⟩ := h.st w' S x rs al
    obtain ⟨v, h1, _⟩ := at_ i d e
    exact ⟨vs, v, sq, h1⟩
  stop := fun w' S x rs al => by
    obtain ⟨vs, sq, l, _⟩ := h.st w' S x rs al
    exact ⟨vs, sq, Nat.le_of_eq l⟩
  yld := fun i w' S d x H' ex G rs al e _ y => by
    obtain ⟨vs, sq, _, at_⟩ := h.st w' S ex rs al
    obtain ⟨v, h1, h2⟩ := at_ i d e
    obtain ⟨rfl, q⟩ := y
    have := q vs sq
    rw [h1] at this
    cases this
    exact ⟨w', rfl, Ext.refl _, G, rfl, rfl, h2, rs⟩
theorem pairNew {g : G} {w : W} {S : List D} {T : Addr} {d e : D} {x y : V} (G : Good w) (rs : RS g w S) (hT : w.H T = none) (r1 : RD g w d x) (r2 : RD g w e y) :
    ∃ w', w'.H = upd w.H T (.tup [x, y]) ∧ Ext w w' ∧ Good w' ∧ w'.rhA = w.rhA ∧ w'.thA = w.thA ∧ RD g w' (.tup [d, e]) (.ref T) ∧ RS g w' S := by
  have x' := put_ext (o := .tup [x, y]) hT
  exact ⟨w.put T (.tup [x, y]), rfl, x', put_good G hT, rfl, rfl, ⟨T, _, rfl, ⟨upd_same, put_th (w := w) G hT⟩, RDs.cons (RD.mono G x' _ _ r1) (RDs.one (RD.mono G x' _ _ r2))⟩, put_store G hT rs⟩
theorem its_enum {g : G} {w : W} {b : Bool} {a : Addr} {s : Src} (h : Stands g w b a s) : ItOk g w (ItEn g.K b a) s.enum where
  go := fun i w' S d x rs al e hi => by
    obtain ⟨vs, sq, _, at_⟩ := h.st w' S x rs al
    have e' : (s.at_ S i).map (fun d => D.tup [.int i, d]) = some d := e
    cases q : s.at_ S i with
    | none => rw [q] at e'; cases e'
    | some d0 =>
      obtain ⟨v, h1, _⟩ := at_ i d0 q
      exact ⟨vs, v, sq, h1⟩
  stop := fun w' S x rs al => by
    obtain ⟨vs, sq, l, _⟩ := h.st w' S x rs al
    exact ⟨vs, sq, l⟩
  yld := fun i w' S d x H' ex G rs al e _ y => by
    obtain ⟨vs, sq, _, at_⟩ := h.st w' S ex rs al
    have e' : (s.at_ S i).map (fun d => D.tup [.int i, d]) = some d := e
    cases q : s.at_ S i with
    | none => rw [q] at e'; cases e'
    | some d0 =>
      rw [q] at e'
      cases e'
      obtain ⟨v, h1, h2⟩ := at_ i d0 q
      obtain ⟨T, z, rfl, hT, rfl, k⟩ := y
      have := k vs sq
      rw [h1] at this
      cases this
      exact pairNew G rs hT rfl h2
theorem its_rng {g : G} {w : W} (lo : Int) (n : Nat) : ItOk g w (Itr lo n) (.rng lo n) where
  go := fun i w' S d x rs al e hi => hi
  stop := fun w' S x rs al => Nat.le_refl _
  yld := fun i w' S d x H' ex G rs al e _ y => by
    obtain ⟨rfl, rfl⟩ := y
    have e' : some (D.int (lo + i)) = some d := e
    cases e'
    exact ⟨w', rfl, Ext.refl _, G, rfl, rfl, rfl, rs⟩
section
variable {X : Cx} {Wx : WX} {tg a b : Expr} {ma mb : ME} {pos : Pos}
theorem di_seq (h : PE X a (TEof X.g Wx ma)) : PI X tg a (TIof X.g Wx (iSeq ma)) := by
  refine piImp (piOr (pi_list h) (pi_tup h)) fun σ H Q ⟨w, E, S, a, p⟩ => ?_
  have p1 : PR X.g Wx σ w (fun w' s J => ItOk X.g w' J s) Q ((ma E S).bind fun x S1 => match srcOf S1 x with | some s => .ok s S1 | none => .bad) := p
  cases hm : ma E S with
  | ok d S1 =>
    rw [hm] at p1
    have p2 : PR X.g Wx σ w (fun w' s J => ItOk X.g w' J s) Q (match srcOf S1 d with | some s => .ok s S1 | none => .bad) := p1
    cases hs : srcOf S1 d with
    | none => rw [hs] at p2; exact p2.elim
    | some s =>
      rw [hs] at p2
      cases ht : d.isTup with
      | true =>
        refine .inr ⟨w, E, S, a, ?_⟩
        rw [hm]
        intro v w1 x G r rs
        obtain ⟨q, c, rfl, ec, st, al⟩ := stands_of G rs r hs
        rw [ht] at ec
        subst ec
        obtain ⟨vs, sq, _⟩ := st.st w1 S1 (Ext.refl _) rs al
        exact ⟨q, rfl, ⟨vs, sq⟩, p2 _ w1 x G (its_tup st) rs⟩
      | false =>
        refine .inl ⟨w, E, S, a, ?_⟩
        rw [hm]
        intro v w1 x G r rs
        obtain ⟨q, c, rfl, ec, st, al⟩ := stands_of G rs r hs
        rw [ht] at ec
        subst ec
        obtain ⟨vs, sq, _⟩ := st.st w1 S1 (Ext.refl _) rs al
        exact ⟨q, rfl, ⟨vs, sq⟩, p2 _ w1 x G (its_list st) rs⟩
  | exc c fs S1 =>
    refine .inl ⟨w, E, S, a, ?_⟩
    rw [hm] at p1 ⊢
    exact p1
  | bad => rw [hm] at p1; exact p1.elim
theorem okR_iff {i : Int} : okR i = true ↔ -(2 ^ 62) ≤ i ∧ i < 2 ^ 62 := by
  unfold okR
  rw [Bool.and_eq_true, decide_eq_true_eq, decide_eq_true_eq]
  exact Iff.rfl
theorem di_rng1 {p : Pos} (hg : Gl X "range") (hm : X.mg "range" = none) (ha : PA X [a] (TAof X.g Wx (aCons ma aNil))) (hs : starEach [a] X.env = [(false, eval a X.env)] := by rfl) : PI X tg (.Call (.Name "range" p) [a] [] pos) (TIof X.g Wx (iRng1 ma)) := by
  refine piImp (pi_range1 hg hm ha hs) fun σ H Q ⟨w, E, S, a, p⟩ => ?_
  refine ⟨w, E, S, a, ?_⟩
  unfold iRng1 at p
  unfold aCons aNil
  cases hm : ma E S with
  | ok d S1 =>
    rw [hm] at p
    cases d with
    | int j =>
      simp only [bind_ok] at p ⊢
      split at p
      · rename_i hj
        intro vs w1 x G r rs
        obtain ⟨v, rfl, r1⟩ := r.one'
        cases r1
        have hj' := okR_iff.mp hj
        exact ⟨j, rfl, hj'.1, hj'.2, p _ w1 x G (its_rng 0 j.toNat) rs⟩
      · exact p.elim
    | _ => exact p.elim
  | exc c fs S1 => rw [hm] at p; exact p
  | bad => rw [hm] at p; exact p.elim
theorem di_rng2 {p : Pos} (hg : Gl X "range") (hm : X.mg "range" = none) (ha : PA X [a, b] (TAof X.g Wx (aCons ma (aCons mb aNil)))) (hs : starEach [a, b] X.env = [(false, eval a X.env), (false, eval b X.env)] := by rfl) (hs2 : starEach [b] X.env = [(false, eval b X.env)] := by rfl) : PI X tg (.Call (.Name "range" p) [a, b] [] pos) (TIof X.g Wx (iRng2 ma mb)) := by
  refine piImp (pi_range2 hg hm ha hs hs2) fun σ H Q ⟨w, E, S, a, p⟩ => ?_
  refine ⟨w, E, S, a, ?_⟩
  unfold iRng2 at p
  unfold aCons aNil
  cases hm : ma E S with
  | ok d S1 =>
    rw [hm] at p
    simp only [bind_ok] at p ⊢
    cases hm2 : mb E S1 with
    | ok e S2 =>
      rw [hm2] at p
      simp only [bind_ok] at p ⊢
      cases d with
      | int i =>
        cases e with
        | int j =>
          simp only at p
          split at p
          · rename_i hj
            intro vs w1 x G r rs
            obtain ⟨v, u, rfl, r1, r2⟩ := r.two'
            cases r1
            cases r2
            have h1 := okR_iff.mp hj.1
            have h2 := okR_iff.mp hj.2
            exact ⟨i, j, rfl, ⟨h1.1, h1.2, h2.1, h2.2⟩, p _ w1 x G (its_rng i (j - i).toNat) rs⟩
          · exact p.elim
        | _ => exact p.elim
      | _ => exact p.elim
    | exc c fs S1 => rw [hm2] at p; exact p
    | bad => rw [hm2] at p; exact p.elim
  | exc c fs S1 => rw [hm] at p; exact p
  | bad => rw [hm] at p; exact p.elim
theorem di_enum {p tpos : Pos} {elts : List Expr} {kk : Nat} (hg : Gl X "enumerate") (hm : X.mg "enumerate" = none) (ha : PA X [a] (TAof X.g Wx (aCons ma aNil))) (hs : starEach [a] X.env = [(false, eval a X.env)] := by rfl) : PI X (.Tuple elts kk tpos) (.Call (.Name "enumerate" p) [a] [] pos) (TIof X.g Wx (iEnum ma)) := by
  refine piImp (pi_en hg hm ha hs) fun σ H Q ⟨w, E, S, a, p⟩ => ?_
  refine ⟨w, E, S, a, ?_⟩
  unfold J.iEnum at p
  unfold aCons aNil
  cases hm : ma E S with
  | ok d S1 =>
    rw [hm] at p
    simp only [bind_ok] at p ⊢
    split at p
    · rename_i s hs
      intro vs w1 x G r rs
      obtain ⟨v, rfl, r1⟩ := r.one'
      obtain ⟨q, c, rfl, ec, st, al⟩ := stands_of G rs r1 hs
      obtain ⟨us, sq, _⟩ := st.st w1 S1 (Ext.refl _) rs al
      exact ⟨c, q, us, rfl, sq, p _ w1 x G (its_enum st) rs⟩
    · exact p.elim
  | exc c fs S1 => rw [hm] at p; exact p
  | bad => rw [hm] at p; exact p.elim
end
end J
set_option Elab.async false
set_option linter.all false
set_option maxRecDepth 100000
set_option maxHeartbeats 1000000
namespace J
open PySem PySem.Spec PyProof.Rows L2
/-! ### to another world -/
structure Weak (w w' : W) : Prop where
  H : ∀ a o, w.H a = some o → ¬ w.thA a → w'.H a = some o
  thA : ∀ a o, w.H a = some o → ¬ w.thA a → ¬ w'.thA a
theorem Weak.dk {w w' : W} (k : Weak w w') {a : Addr} {u : HO} (h : Rd w.H a u) (n : ¬ w.thA a) : Rd w'.H a u ∧ ¬ w'.thA a := by
  rcases h with h | ⟨o, h⟩
  · exact ⟨.inl (k.H a _ h n), k.thA a _ h n⟩
  · exact ⟨.inr ⟨o, k.H a _ h n⟩, k.thA a _ h n⟩
theorem Weak.tup {g : G} {w w' : W} (k : Weak w w') {a : Addr} {vs : List V} (h : TupAt g w a vs) : TupAt g w' a vs := ⟨k.H a _ h.1 h.2, k.thA a _ h.1 h.2⟩
theorem Weak.rdl {g : G} {w w' : W} (k : Weak w w') {a : Addr} {vs : List V} (h : RdlAt g w a vs) : RdlAt g w' a vs := by
  rcases h with ⟨h | ⟨o, h⟩, n⟩ | h
  · exact .inl ⟨.inl (k.H a _ h n), k.thA a _ h n⟩
  · exact .inl ⟨.inr ⟨o, k.H a _ h n⟩, k.thA a _ h n⟩
  · exact .inr h
mutual
theorem RD.flatW {g : G} {w w' : W} (k : Weak w w') : ∀ (d : D) (v : V), d.flat = true → RD g w d v → RD g w' d v
  | .non, _, _, h => h
  | .bl _, _, _, h => h
  | .int _, _, _, h => h
  | .str _, _, _, h => h
  | .ty _, _, _, h => h
  | .tup ds, v, f, h => by
    obtain ⟨a, vs, e, t, r⟩ := h
    exact ⟨a, vs, e, k.tup t, RDs.flatW k ds vs f r⟩
  | .lst ds, v, f, h => by
    obtain ⟨a, vs, e, t, n, r⟩ := h
    exact ⟨a, vs, e, k.H a _ t n, k.thA a _ t n, RDs.flatW k ds vs f r⟩
  | .rdl ds, v, f, h => by
    obtain ⟨a, vs, e, t, r⟩ := h
    exact ⟨a, vs, e, k.rdl t, RDs.flatW k ds vs f r⟩
  | .dct ks ds, v, f, h => by
    obtain ⟨a, vs, e, t, l, n, r⟩ := h
    exact ⟨a, vs, e, (k.dk t n).1, l, (k.dk t n).2, RDs.flatW k ds vs f r⟩
  | .dcT ks ds, v, f, h => by
    obtain ⟨a, vs, e, t, l, n, r⟩ := h
    exact ⟨a, vs, e, (k.dk t n).1, l, (k.dk t n).2, RDs.flatW k ds vs f r⟩
  | .tuk ds, v, f, h => by
    obtain ⟨a, vs, o, e, t, l, n, r⟩ := h
    exact ⟨a, vs, o, e, k.H a _ t n, l, k.thA a _ t n, RDs.flatW k ds vs f r⟩
theorem RDs.flatW {g : G} {w w' : W} (k : Weak w w') : ∀ (ds : List D) (vs : List V), D.flats ds = true → RDs g w ds vs → RDs g w' ds vs
  | [], _, _, h => h
  | d :: ds, vs, f, h => by
    obtain ⟨v, r, e, h1, h2⟩ := h
    simp only [D.flats, Bool.and_eq_true] at f
    exact ⟨v, r, e, RD.flatW k d v f.1 h1, RDs.flatW k ds r f.2 h2⟩
end
mutual
theorem RD.weakW {g : G} {w w' : W} (k : Weak w w') (kr : ∀ (n : Nat) a, w.rhA[n]? = some a → w'.rhA[n]? = some a) : ∀ (d : D) (v : V), RD g w d v → RD g w' d v
  | .non, _, h => h
  | .bl _, _, h => h
  | .int _, _, h => h
  | .str _, _, h => h
  | .ty _, _, h => h
  | .tup ds, v, h => by
    obtain ⟨a, vs, e, t, r⟩ := h
    exact ⟨a, vs, e, k.tup t, RDs.weakW k kr ds vs r⟩
  | .lst ds, v, h => by
    obtain ⟨a, vs, e, t, n, r⟩ := h
    exact ⟨a, vs, e, k.H a _ t n, k.thA a _ t n, RDs.weakW k kr ds vs r⟩
  | .rdl ds, v, h => by
    obtain ⟨a, vs, e, t, r⟩ := h
    exact ⟨a, vs, e, k.rdl t, RDs.weakW k kr ds vs r⟩
  | .dct ks ds, v, h => by
    obtain ⟨a, vs, e, t, l, n, r⟩ := h
    exact ⟨a, vs, e, (k.dk t n).1, l, (k.dk t n).2, RDs.weakW k kr ds vs r⟩
  | .dcT ks ds, v, h => by
    obtain ⟨a, vs, e, t, l, n, r⟩ := h
    exact ⟨a, vs, e, (k.dk t n).1, l, (k.dk t n).2, RDs.weakW k kr ds vs r⟩
  | .tuk ds, v, h => by
    obtain ⟨a, vs, o, e, t, l, n, r⟩ := h
    exact ⟨a, vs, o, e, k.H a _ t n, l, k.thA a _ t n, RDs.weakW k kr ds vs r⟩
  | .loc n, v, h => by
    obtain ⟨a, e, t⟩ := h
    exact ⟨a, e, kr n a t⟩
theorem RDs.weakW {g : G} {w w' : W} (k : Weak w w') (kr : ∀ (n : Nat) a, w.rhA[n]? = some a → w'.rhA[n]? = some a) : ∀ (ds : List D) (vs : List V), RDs g w ds vs → RDs g w' ds vs
  | [], _, h => h
  | d :: ds, vs, h => by
    obtain ⟨v, r, e, h1, h2⟩ := h
    exact ⟨v, r, e, RD.weakW k kr d v h1, RDs.weakW k kr ds r h2⟩
end
theorem RO.flatW {g : G} {w w' : W} (k : Weak w w') {d : D} {a : Addr} (f : d.flat = true) (e : w'.H a = w.H a) (h : RO g w d a) : RO g w' d a := by
  cases d with
  | lst ds =>
    obtain ⟨vs, h1, h2⟩ := h
    exact ⟨vs, e.trans h1, RDs.flatW k ds vs f h2⟩
  | dct ks ds =>
    obtain ⟨vs, h1, l, h2⟩ := h
    exact ⟨vs, e.trans h1, l, RDs.flatW k ds vs f h2⟩
  | dcT ks ds =>
    obtain ⟨vs, h1, l, h2⟩ := h
    exact ⟨vs, e.trans h1, l, RDs.flatW k ds vs f h2⟩
  | _ => exact h.elim
theorem allFlat {S : List D} {n : Nat} {d : D} (h : S.all D.flat = true) (e : S[n]? = some d) : d.flat = true := by
  rw [List.all_eq_true] at h
  exact h d (List.mem_of_getElem? e)
theorem weak_take {w w' : W} (hH : w'.H = w.H) (hthA : ∀ a, w'.thA a → w.thA a) : Weak w w' := ⟨fun a o h _ => by rw [hH]; exact h, fun a o _ n z => n (hthA a z)⟩
theorem take_store {g : G} {w w' : W} {S : List D} {n : Nat} (k : Weak w w') (hH : w'.H = w.H) (hr : w'.rhA = w.rhA.take n) (hn : n ≤ S.length) (f : (S.take n).all D.flat = true) (rs : RS g w S) : RS g w' (S.take n) := by
  refine ⟨by rw [hr, List.length_take, List.length_take, rs.1], fun m d e => ?_⟩
  have hm : m < n := by
    have := (List.getElem?_eq_some_iff.mp e).1
    rw [List.length_take] at this
    omega
  have e' : S[m]? = some d := by rwa [List.getElem?_take_of_lt hm] at e
  obtain ⟨a, h1, h2⟩ := rs.2 m d e'
  exact ⟨a, by rw [hr, List.getElem?_take_of_lt hm]; exact h1, h2.flatW k (allFlat f e) (by rw [hH])⟩
theorem gone_some {n : Nat} {d0 d : D} (h : gone n (some d0) = some d) : (d0 = d ∧ d0.flat = true) ∨ ∃ m, d0 = .loc m ∧ d = .loc m ∧ m < n := by
  unfold gone at h
  simp only at h
  split at h
  · rename_i hf
    cases h
    exact .inl ⟨rfl, hf⟩
  · split at h
    · rename_i m _
      split at h
      · rename_i hm
        cases h
        exact .inr ⟨_, rfl, rfl, hm⟩
      · cases h
    · cases h
theorem gc_ok {g : G} {w2 w4 : W} {σ : L2.St} {E3 E4 : Env} {S3 S4 : List D} {n : Nat} (h : gcE n E3 S3 = some (E4, S4)) (G4 : Good w4) (re : RE g w4 E3 σ) (rs : RS g w4 S3) (x : Ext w2 w4) (hn : w2.rhA.length = n) :
    ∃ w5, At g w5 E4 σ w4.H S4 ∧ Ext w2 w5 ∧ S4.length = n := by
  unfold gcE at h
  split at h
  · rename_i hl
    cases h
    exact ⟨w4, ⟨rfl, G4, re, rs⟩, x, hl⟩
  · split at h
    · rename_i hh
      cases h
      obtain ⟨τ, e1, f1⟩ := x.rho
      have et : w4.rhA.take n = w2.rhA := by rw [e1, List.take_append_of_le_length (Nat.le_of_eq hn.symm), List.take_of_length_le (Nat.le_of_eq hn)]
      have k : Weak w4 ⟨w4.thA, w4.rhA.take n, w4.H⟩ := weak_take rfl fun _ z => z
      refine ⟨⟨w4.thA, w4.rhA.take n, w4.H⟩, ⟨rfl, ⟨(List.take_sublist n w4.rhA).nodup G4.nd, fun a ha => G4.sub a (List.mem_of_mem_take ha), G4.al, G4.nt⟩, ⟨by simp [re.1], fun i d e => ?_⟩, take_store k rfl rfl hh.1 hh.2 rs⟩, ⟨⟨[], ?_, by simp⟩, x.th1, x.th2, x.kp, x.al⟩, by rw [List.length_take]; omega⟩
      · rw [List.getElem?_map] at e
        cases q : E3[i]? with
        | none => rw [q] at e; cases e
        | some od =>
          rw [q] at e
          cases od with
          | none => cases e
          | some d0 =>
            have e2 : gone n (some d0) = some d := Option.some.inj e
            obtain ⟨v, h1, h2⟩ := re.2 i d0 q
            refine ⟨v, h1, ?_⟩
            rcases gone_some e2 with ⟨rfl, hf⟩ | ⟨m, rfl, rfl, hm⟩
            · exact RD.flatW k _ _ hf h2
            · obtain ⟨a, ea, ha⟩ := h2
              exact ⟨a, ea, by show (w4.rhA.take n)[m]? = some a; rw [List.getElem?_take_of_lt hm]; exact ha⟩
      · show w4.rhA.take n = w2.rhA ++ []
        rw [et, List.append_nil]
    · cases h
section
variable {X : Cx} {Wx : WX} {pos : Pos}
/-! ### for, while -/
theorem ds_for {tg iter : Expr} {body : List Stmt} {mi : MI} {t : Tg} {mb : MS} (hp : PassesOwn (model X.prog X.w) X.A X.env X.xe) (hc : X.calm = true) (hi : PI X tg iter (TIof X.g Wx mi)) (hg : PG X tg (TGof X.g t)) (hb : PSs X body (TSof X.g Wx mb))
    (hs : ∀ x, foldedSetIterable iter X.env x = pure x := by intro _; rfl) : PS X (.For tg iter body [] pos) (TSof X.g Wx (sFor t mi mb)) := by
  refine psImp (ps_for hp hc hi hg hb hs) fun D σ H ⟨w, E, S, a, p⟩ => ⟨w, E, S, a, ?_⟩
  unfold sFor at p
  cases hm : mi E S with
  | bad => rw [hm] at p; exact p.elim
  | exc c fs S1 =>
    rw [hm] at p
    exact fun cls dx w' x G' rx rs => p cls dx σ w' x G' rx (a.env.mono a.good x) rs
  | ok src S1 =>
    rw [hm] at p
    intro J0 w1 x1 G1 it rs1
    have p1 : PO_ X.g Wx D w1 (forGo src t mb S1.length src.len 0 E S1) := p.at x1
    have hn : w1.rhA.length = S1.length := rs1.1.symm
    refine ⟨fun i k σ H => ∃ w2 E2 S2, At X.g w2 E2 σ H S2 ∧ Ext w1 w2 ∧ i + k = src.len ∧ S2.length = S1.length ∧ PO_ X.g Wx D w2 (forGo src t mb S1.length k i E2 S2),
      ⟨src.len, w1, E, S1, ⟨rfl, G1, a.env.mono a.good x1, rs1⟩, Ext.refl _, by omega, rfl, p1⟩, ?_⟩
    rintro i k σ H ⟨w2, E2, S2, a2, x2, hik, hl2, p2⟩
    have hn2 : w2.rhA.length = S1.length := by rw [← a2.sto.1]; exact hl2
    cases k with
    | zero =>
      simp only [forGo] at p2
      split at p2
      · rename_i al
        have hi : i = src.len := by omega
        subst hi
        refine .inl ⟨?_, ?_⟩
        · rw [← a2.hp]
          exact it.stop w2 S2 x2 a2.sto al
        · have := p2 σ w2 (Ext.refl _) a2.good a2.env a2.sto
          rw [a2.hp] at this
          exact this
      · exact p2.elim
    | succ k =>
      simp only [forGo] at p2
      split at p2
      · rename_i al
        split at p2
        · exact p2.elim
        · rename_i d hd
          split at p2
          · exact p2.elim
          · rename_i E1 hE
            have hlt : i < src.len := by omega
            refine .inr ⟨by rw [← a2.hp]; exact it.go i w2 S2 d x2 a2.sto al hd hlt, fun σ' H' => ∃ w2 E2 S2, At X.g w2 E2 σ' H' S2 ∧ Ext w1 w2 ∧ (i + 1) + k = src.len ∧ S2.length = S1.length ∧ PO_ X.g Wx D w2 (forGo src t mb S1.length k (i + 1) E2 S2), fun σ' H' hN => ⟨k, Nat.lt_succ_self k, hN⟩, fun x H' hy => ?_⟩
            rw [← a2.hp] at hy
            obtain ⟨w3, eH, x3, G3, _, _, r3, rs3⟩ := it.yld i w2 S2 d x H' x2 a2.good a2.sto al hd hlt hy
            refine ⟨w3, E2, S2, d, E1, ⟨eH, G3, a2.env.mono a2.good x3, rs3⟩, r3, hE, fun σ' re _ _ => ⟨w3, E1, S2, ⟨eH, G3, re, rs3⟩, ?_⟩⟩
            have p3 := p2.at x3
            have again : ∀ {E3 : Env} {S3 : List J.D}, PO_ X.g Wx D w3 (match gcE S1.length E3 S3 with | some (E3, S3) => forGo src t mb S1.length k (i + 1) E3 S3 | none => O.bad) → ∀ σ' w4, Ext w3 w4 → Good w4 → RE X.g w4 E3 σ' → RS X.g w4 S3 →
                ∃ w2 E2 S2, At X.g w2 E2 σ' w4.H S2 ∧ Ext w1 w2 ∧ (i + 1) + k = src.len ∧ S2.length = S1.length ∧ PO_ X.g Wx D w2 (forGo src t mb S1.length k (i + 1) E2 S2) := fun {E3 S3} q σ' w4 x4 G4 re4 rs4 => by
              split at q
              · rename_i E4 S4 hgc
                have hn3 : w3.rhA.length = S1.length := by rw [← rs3.1]; exact hl2
                obtain ⟨w5, a5, x5, l5⟩ := gc_ok hgc G4 re4 rs4 x4 hn3
                exact ⟨w5, E4, S4, a5, x2.trans (x3.trans x5), by omega, l5, q.at x5⟩
              · exact q.elim
            cases hbd : mb E1 S2 with
            | nx E3 S3 => rw [hbd] at p3; exact again p3
            | ct E3 S3 => rw [hbd] at p3; exact again p3
            | bk E3 S3 => rw [hbd] at p3; exact p3
            | rt d S3 => rw [hbd] at p3; exact p3
            | exc c fs E3 S3 => rw [hbd] at p3; exact p3
            | bad => rw [hbd] at p3; exact p3
      · exact p2.elim
theorem ds_while {c : Expr} {body : List Stmt} {mt : MT} {mb : MS} {fuel : Nat} (hp : PassesOwn (model X.prog X.w) X.A X.env X.xe) (hc : PT X c (TTof X.g Wx mt)) (hb : PSs X body (TSof X.g Wx mb)) : PS X (.While c body [] pos) (TSof X.g Wx (sWhile fuel mt mb)) := by
  refine psImp (ps_while hp hc hb) fun D σ H ⟨w, E, S, a, p⟩ => ?_
  unfold sWhile at p
  have hn : w.rhA.length = S.length := a.sto.1.symm
  refine ⟨fun k σ H => ∃ w2 E2 S2, At X.g w2 E2 σ H S2 ∧ Ext w w2 ∧ S2.length = S.length ∧ PO_ X.g Wx D w2 (whileGo mt mb S.length k E2 S2), ⟨fuel, w, E, S, a, Ext.refl _, rfl, p⟩, ?_⟩
  rintro k σ H ⟨w2, E2, S2, a2, x2, hl2, p2⟩
  have hn2 : w2.rhA.length = S.length := by rw [← a2.sto.1]; exact hl2
  cases k with
  | zero => exact p2.elim
  | succ k =>
    simp only [whileGo] at p2
    refine ⟨w2, E2, S2, a2, ?_⟩
    cases hmt : mt E2 S2 with
    | bad => rw [hmt] at p2; exact p2.elim
    | exc c fs S1 =>
      rw [hmt] at p2
      exact fun cls dx w' x G' rx rs => p2 cls dx σ w' x G' rx (a2.env.mono a2.good x) rs
    | ok c S3 =>
    rw [hmt] at p2
    simp only [tO_ok] at p2
    intro b w3 x3 G3 rb rs3
    obtain rfl : c = b := rb
    cases c with
    | false =>
      rw [if_neg Bool.false_ne_true] at p2 ⊢
      exact p2 σ w3 x3 G3 (a2.env.mono a2.good x3) rs3
    | true =>
      rw [if_pos rfl] at p2 ⊢
      refine ⟨fun σ' H' => ∃ w2 E2 S2, At X.g w2 E2 σ' H' S2 ∧ Ext w w2 ∧ S2.length = S.length ∧ PO_ X.g Wx D w2 (whileGo mt mb S.length k E2 S2), fun σ' H' hN => ⟨k, Nat.lt_succ_self k, hN⟩, w3, E2, S3, ⟨rfl, G3, a2.env.mono a2.good x3, rs3⟩, ?_⟩
      have again : ∀ {E3 : Env} {S4 : List J.D}, PO_ X.g Wx D w2 (match gcE S.length E3 S4 with | some (E3, S3) => whileGo mt mb S.length k E3 S3 | none => O.bad) → ∀ σ' w4, Ext w3 w4 → Good w4 → RE X.g w4 E3 σ' → RS X.g w4 S4 →
          ∃ w2 E2 S2, At X.g w2 E2 σ' w4.H S2 ∧ Ext w w2 ∧ S2.length = S.length ∧ PO_ X.g Wx D w2 (whileGo mt mb S.length k E2 S2) := fun {E3 S4} q σ' w4 x4 G4 re4 rs4 => by
        split at q
        · rename_i E5 S5 hgc
          obtain ⟨w5, a5, x5, l5⟩ := gc_ok hgc G4 re4 rs4 (x3.trans x4) hn2
          exact ⟨w5, E5, S5, a5, x2.trans x5, l5, q.at x5⟩
        · exact q.elim
      cases hbd : mb E2 S3 with
      | nx E3 S3 => rw [hbd] at p2; exact again p2
      | ct E3 S3 => rw [hbd] at p2; exact again p2
      | bk E3 S3 => rw [hbd] at p2; exact p2.at x3
      | rt d S3 => rw [hbd] at p2; exact p2.at x3
      | exc c fs E3 S3 => rw [hbd] at p2; exact p2.at x3
      | bad => rw [hbd] at p2; exact p2
end
end J
set_option Elab.async false
set_option linter.all false
set_option maxRecDepth 100000
set_option maxHeartbeats 1000000
namespace J
open PySem PySem.Spec PyProof.Rows L2
/-! ### comprehensions -/
abbrev W0 : WX := fun _ _ _ _ => False
theorem wipe_get (σ : L2.St) (i : Nat) : ∀ vs : List Nat, (wipe σ vs)[i]? = if i ∈ vs then (σ[i]?).map (fun _ => none) else σ[i]?
  | [] => by simp [wipe]
  | v :: vs => by
    unfold wipe
    by_cases h : i = v
    · subst h
      rw [if_pos (by simp)]
      by_cases hl : i < σ.length
      · rw [List.getElem?_set_self (by rw [wipe_length]; exact hl), List.getElem?_eq_getElem hl]; rfl
      · rw [List.getElem?_eq_none (by rw [List.length_set, wipe_length]; omega), List.getElem?_eq_none (by omega)]; rfl
    · rw [List.getElem?_set_ne (Ne.symm h), wipe_get σ i vs]
      simp [h]
theorem wipeE_get (σ : Env) (i : Nat) : ∀ vs : List Nat, (wipeE σ vs)[i]? = if i ∈ vs then (σ[i]?).map (fun _ => none) else σ[i]?
  | [] => by simp [wipeE]
  | v :: vs => by
    unfold wipeE
    have hlen : ∀ us : List Nat, (wipeE σ us).length = σ.length := fun us => by
      induction us with
      | nil => rfl
      | cons u us ih => unfold wipeE; rw [List.length_set, ih]
    by_cases h : i = v
    · subst h
      rw [if_pos (by simp)]
      by_cases hl : i < σ.length
      · rw [List.getElem?_set_self (by rw [hlen]; exact hl), List.getElem?_eq_getElem hl]; rfl
      · rw [List.getElem?_eq_none (by rw [List.length_set, hlen]; omega), List.getElem?_eq_none (by omega)]; rfl
    · rw [List.getElem?_set_ne (Ne.symm h), wipeE_get σ i vs]
      simp [h]
theorem wipeE_length (E : Env) : ∀ vs : List Nat, (wipeE E vs).length = E.length
  | [] => rfl
  | v :: vs => by unfold wipeE; rw [List.length_set, wipeE_length E vs]
theorem RE.wipe {g : G} {w : W} {E : Env} {σ : L2.St} (h : RE g w E σ) (vs : List Nat) : RE g w (wipeE E vs) (L2.wipe σ vs) := by
  refine ⟨by rw [wipeE_length, wipe_length]; exact h.1, fun i d e => ?_⟩
  rw [wipeE_get] at e
  rw [wipe_get]
  by_cases hi : i ∈ vs
  · rw [if_pos hi] at e
    cases q : E[i]? <;> (rw [q] at e; cases e)
  · rw [if_neg hi] at e ⊢
    exact h.2 i d e
theorem wipe_eq {σ σ' : L2.St} {vs sl : List Nat} (hs : ∀ i, i ∈ sl → i ∈ vs) (h : ∀ i, i ∉ sl → σ'[i]? = (L2.wipe σ vs)[i]?) (hl : σ'.length = (L2.wipe σ vs).length) : L2.wipe σ' vs = L2.wipe σ vs := by
  apply List.ext_getElem?
  intro i
  rw [wipe_length] at hl
  rw [wipe_get, wipe_get]
  by_cases hi : i ∈ vs
  · rw [if_pos hi, if_pos hi]
    by_cases hlt : i < σ.length
    · rw [List.getElem?_eq_getElem hlt, List.getElem?_eq_getElem (by omega)]; rfl
    · rw [List.getElem?_eq_none (by omega), List.getElem?_eq_none (by omega)]
  · rw [if_neg hi, if_neg hi]
    have := h i fun z => hi (hs i z)
    rw [wipe_get, if_neg hi] at this
    exact this
abbrev W.hide (w : W) (p : Addr) (o : HO) : W := ⟨fun a => w.thA a ∨ a = p, w.rhA, upd w.H p o⟩
theorem hide_ext {w : W} {p : Addr} {o : HO} (hp : w.H p = none) : Ext w (w.hide p o) := by
  have x := add_ext (o := o) hp
  exact ⟨⟨[], by simp, by simp⟩, x.th1, x.th2, x.kp, x.al⟩
theorem hide_good {w : W} {p : Addr} {o : HO} (G : Good w) (hp : w.H p = none) (hno : ∀ xs, o ≠ .tup xs := by intro _ z; cases z) : Good (w.hide p o) := by
  have G' := add_good (o := o) G hp hno
  exact ⟨G.nd, fun a h => .inl (G.sub a h), G'.al, G'.nt⟩
theorem weak_upd {w : W} {p : Addr} {o : HO} (hthA : w.thA p) : Weak w { w with H := upd w.H p o } := ⟨fun a u h n => by
  show upd w.H p o a = some u
  rw [upd_ne fun e => n (by rw [e]; exact hthA)]
  exact h, fun a u _ n => n⟩
theorem RO.weakW {g : G} {w w' : W} (k : Weak w w') (kr : ∀ (n : Nat) a, w.rhA[n]? = some a → w'.rhA[n]? = some a) {d : D} {a : Addr} (e : w'.H a = w.H a) (h : RO g w d a) : RO g w' d a := by
  cases d with
  | lst ds =>
    obtain ⟨vs, h1, h2⟩ := h
    exact ⟨vs, e.trans h1, RDs.weakW k kr ds vs h2⟩
  | dct ks ds =>
    obtain ⟨vs, h1, l, h2⟩ := h
    exact ⟨vs, e.trans h1, l, RDs.weakW k kr ds vs h2⟩
  | dcT ks ds =>
    obtain ⟨vs, h1, l, h2⟩ := h
    exact ⟨vs, e.trans h1, l, RDs.weakW k kr ds vs h2⟩
  | _ => exact h.elim
theorem RS.weakW {g : G} {w w' : W} {S : List D} (k : Weak w w') (hr : w'.rhA = w.rhA) (he : ∀ a, a ∈ w.rhA → w'.H a = w.H a) (h : RS g w S) : RS g w' S := ⟨by rw [hr]; exact h.1, fun n d e => by
  obtain ⟨a, h1, h2⟩ := h.2 n d e
  exact ⟨a, by rw [hr]; exact h1, h2.weakW k (fun n a q => by rw [hr]; exact q) (he a (List.mem_of_getElem? h1))⟩⟩
section
variable {X : Cx} {Wx : WX} {pos : Pos}
theorem dts_nil : PTs X [] (TTof X.g Wx J.tYes) := ⟨fun pins s σ H Q I ⟨w, E, S, a, p⟩ => by
  have := p true w (Ext.refl w) a.good rfl a.sto
  rw [a.hp] at this
  exact pts_nil.run pins s σ H Q I this⟩
theorem dts_one {c : Expr} {mt : MT} (h : PT X c (TTof X.g Wx mt)) : PTs X [c] (TTof X.g Wx mt) := pts_one h
theorem lcUse {own : List Nat} {mi : MI} {t : Tg} {mc : MT} {me m : ME} (hsl : ∀ i, i ∈ t.slots → i ∈ own)
    (hm : (m = eLc own t mi mc me) ∨ (m = eLcL own t mi mc me)) : ∀ (σ : L2.St) H Q, TEof X.g Wx m σ H Q → tLc (TIof X.g Wx mi) (TGof X.g t) (TTof X.g W0 mc) (TEof X.g W0 me) own σ H Q := fun σ H Q ⟨w, E, S, a, p⟩ => by
  -- what is wanted of the whole list
  have p0 : ∃ fin : List D → List D → R D, PR X.g Wx σ w (RD X.g) Q ((lcRun own t mi mc me E S).bind fin) ∧ ∀ (w1 : W) (acc S2 : List D) (vs : List V) (w2 : W) (Dd : Addr), w1.H Dd = none → Good w1 → Good w2 → Ext w1 w2 → Dd ∉ w2.rhA → RS X.g w2 S2 → w2.thA Dd → w2.H Dd = some (.lst vs) → RDs X.g w2 acc vs → PR X.g Wx σ w1 (RD X.g) Q (fin acc S2) → Q (.ref Dd) w2.H := by
    rcases hm with rfl | rfl
    · refine ⟨fun (acc S1 : List D) => (R.ok (D.lst acc) S1 : R D), p, fun w1 acc S2 vs w2 Dd hD G1 G2 x nD rs hthA hDd r q => ?_⟩
      have k : Weak w2 ⟨fun a => w2.thA a ∧ a ≠ Dd, w2.rhA, w2.H⟩ := weak_take rfl fun _ z => z.1
      exact q (.ref Dd) ⟨fun a => w2.thA a ∧ a ≠ Dd, w2.rhA, w2.H⟩ ⟨x.rho, fun a h => ⟨x.th1 a h, fun z => G1.al a h (by rw [z]; exact hD)⟩, fun a h => x.th2 a h.1, x.kp, x.al⟩
        ⟨G2.nd, fun a h => ⟨G2.sub a h, fun z => nD (by rw [← z]; exact h)⟩, fun a h => G2.al a h.1, fun a h => G2.nt a h.1⟩ ⟨Dd, vs, rfl, hDd, fun z => z.2 rfl, RDs.weakW k (fun _ _ h => h) _ _ r⟩ (rs.weakW k rfl fun _ _ => rfl)
    · refine ⟨fun (acc S1 : List D) => (R.ok (D.loc S1.length) (S1 ++ [D.lst acc]) : R D), p, fun w1 acc S2 vs w2 Dd hD G1 G2 x nD rs hthA hDd r q => ?_⟩
      have k : Weak w2 ⟨w2.thA, w2.rhA ++ [Dd], w2.H⟩ := weak_take rfl fun _ z => z
      have kr : ∀ (n : Nat) a, w2.rhA[n]? = some a → (w2.rhA ++ [Dd])[n]? = some a := fun n a h => by
        rw [List.getElem?_append_left (List.getElem?_eq_some_iff.mp h).1]; exact h
      obtain ⟨τ, eτ, fτ⟩ := x.rho
      refine q (.ref Dd) ⟨w2.thA, w2.rhA ++ [Dd], w2.H⟩ ⟨⟨τ ++ [Dd], by show w2.rhA ++ [Dd] = _; rw [eτ, List.append_assoc], fun a h => (List.mem_append.mp h).elim (fτ a) fun h => by rw [List.mem_singleton.mp h]; exact hD⟩, x.th1, x.th2, x.kp, x.al⟩
        ⟨?_, fun a h => ?_, G2.al, G2.nt⟩ ⟨Dd, rfl, by show (w2.rhA ++ [Dd])[S2.length]? = some Dd; rw [rs.1]; simp⟩ ⟨by show (S2 ++ [_]).length = (w2.rhA ++ [Dd]).length; simp [rs.1], fun n d e => ?_⟩
      · show (w2.rhA ++ [Dd]).Nodup
        rw [List.nodup_append]
        refine ⟨G2.nd, by simp, fun a ha b hb e => ?_⟩
        rw [List.mem_singleton.mp hb] at e
        exact nD (by rw [← e]; exact ha)
      · rcases List.mem_append.mp h with h | h
        · exact G2.sub a h
        · rw [List.mem_singleton.mp h]; exact hthA
      · by_cases hn : n < S2.length
        · rw [List.getElem?_append_left hn] at e
          obtain ⟨a, h1, h2⟩ := rs.2 n d e
          exact ⟨a, kr n a h1, h2.weakW k kr rfl⟩
        · have hl : n = S2.length := by
            have := (List.getElem?_eq_some_iff.mp e).1
            simp at this
            omega
          subst hl
          simp at e
          subst e
          exact ⟨Dd, by show (w2.rhA ++ [Dd])[S2.length]? = some Dd; rw [rs.1]; simp, vs, hDd, RDs.weakW k kr _ _ r⟩
  obtain ⟨fin, p, hfin⟩ := p0
  refine ⟨w, E, S, a, ?_⟩
  unfold lcRun at p
  cases hmi : mi E S with
  | bad => rw [hmi] at p; exact p.elim
  | exc c fs S1 => rw [hmi] at p; exact p
  | ok src S1 =>
    rw [hmi] at p
    simp only at p
    split at p
    · rename_i hsz
      intro J0 w1 x1 G1 it rs1 Dd hD
      have p1 := PR.at p x1
      have re1 := a.env.mono a.good x1
      have nD : Dd ∉ w1.rhA := fun z => G1.al Dd (G1.sub Dd z) hD
      refine ⟨fun i k H => ∃ w2 acc vs S2, w2.H = H ∧ Good w2 ∧ RS X.g w2 S2 ∧ Ext w1 w2 ∧ Dd ∉ w2.rhA ∧ S1.length ≤ S2.length ∧ w2.thA Dd ∧ H Dd = some (.lst vs) ∧ RDs X.g w2 acc vs ∧ acc.length ≤ i ∧ i + k = src.len ∧ PR X.g Wx σ w1 (RD X.g) Q ((lcGo src t mc me (wipeE E own) S1.length k i acc S2).bind fin),
        ⟨src.len, w1.hide Dd (.lst []), [], [], S1, rfl, hide_good G1 hD, rs1.keep G1 (hide_ext hD) rfl (fun b hb => upd_ne fun e => nD (by rw [← e]; exact hb)), hide_ext hD, nD, Nat.le_refl _, .inr rfl, upd_same, rfl, Nat.zero_le _, by omega, p1⟩, ?_⟩
      rintro i k H ⟨w2, acc, vs, S2, rfl, G2, rs2, x2, hr2, hl2, hthA2, hD2, r2, hai, hik, p2⟩
      cases k with
      | zero =>
        simp only [lcGo] at p2
        split at p2
        · rename_i al
          have hi : i = src.len := by omega
          subst hi
          exact .inl ⟨it.stop w2 S2 x2 rs2 al, hfin w1 acc S2 vs w2 Dd hD G1 G2 x2 hr2 rs2 hthA2 hD2 r2 p2⟩
        · exact p2.elim
      | succ k =>
        simp only [lcGo] at p2
        split at p2
        · rename_i al
          split at p2
          · exact p2.elim
          · rename_i d hd
            split at p2
            · exact p2.elim
            · rename_i E1 hE
              have hlt : i < src.len := by omega
              refine .inr ⟨it.go i w2 S2 d x2 rs2 al hd hlt, fun H' => ∃ w2 acc vs S2, w2.H = H' ∧ Good w2 ∧ RS X.g w2 S2 ∧ Ext w1 w2 ∧ Dd ∉ w2.rhA ∧ S1.length ≤ S2.length ∧ w2.thA Dd ∧ H' Dd = some (.lst vs) ∧ RDs X.g w2 acc vs ∧ acc.length ≤ i + 1 ∧ (i + 1) + k = src.len ∧ PR X.g Wx σ w1 (RD X.g) Q ((lcGo src t mc me (wipeE E own) S1.length k (i + 1) acc S2).bind fin), fun H' hN => ⟨k, Nat.lt_succ_self k, hN⟩, fun x H' hy => ?_⟩
              obtain ⟨w3, rfl, x3, G3, hr3, hthA3, r3, rs3⟩ := it.yld i w2 S2 d x H' x2 G2 rs2 al hd hlt hy
              have nD2 : Dd ∉ w2.rhA := hr2
              have nD3 : Dd ∉ w3.rhA := by rw [hr3]; exact nD2
              have hthAD3 : w3.thA Dd := x3.th1 Dd hthA2
              have hD3 : w3.H Dd = some (.lst vs) := x3.kpT hD2 nD2 hthA2
              have rw3 : RE X.g w3 (wipeE E own) (L2.wipe σ own) := ((re1.mono G1 x2).mono G2 x3).wipe own
              refine ⟨w3, wipeE E own, S2, d, E1, ⟨rfl, G3, rw3, rs3⟩, r3, hE, fun σ' re hk hl => ⟨wipe_eq hsl hk hl, w3, E1, S2, ⟨rfl, G3, re, rs3⟩, ?_⟩⟩
              cases hc : mc E1 S2 with
              | bad => rw [hc] at p2; exact p2.elim
              | exc c fs S3 => rw [hc] at p2; exact p2.elim
              | ok b S3 =>
                rw [hc] at p2
                simp only at p2
                intro b' w4 x4 G4 rb rs4
                obtain rfl : b = b' := rb
                have rho : ∀ (w5 : W), Ext w3 w5 → Dd ∉ w5.rhA := fun w5 x5 z => by
                  obtain ⟨τ, e5, f5⟩ := x5.rho
                  rw [e5] at z
                  rcases List.mem_append.mp z with z | z
                  · exact nD3 z
                  · have := f5 Dd z
                    rw [hD3] at this
                    cases this
                cases b with
                | false =>
                  rw [if_neg Bool.false_ne_true] at p2 ⊢
                  split at p2
                  · rename_i l3
                    exact ⟨w4, acc, vs, S3, rfl, G4, rs4, x2.trans (x3.trans x4), rho w4 x4, l3, x4.th1 Dd hthAD3, x4.kpT hD3 nD3 hthAD3, (r2.mono G2 (x3.trans x4)), by omega, by omega, p2⟩
                  · exact p2.elim
                | true =>
                  rw [if_pos rfl] at p2 ⊢
                  refine ⟨w4, E1, S3, ⟨rfl, G4, re.mono G3 x4, rs4⟩, ?_⟩
                  cases he : me E1 S3 with
                  | bad => rw [he] at p2; exact p2.elim
                  | exc c fs S3 => rw [he] at p2; exact p2.elim
                  | ok z S4 =>
                    rw [he] at p2
                    simp only at p2
                    split at p2
                    · rename_i l4
                      intro y w5 x5 G5 rz rs5
                      have x35 := x4.trans x5
                      have hr5 := rho w5 x35
                      have hthAD5 : w5.thA Dd := x35.th1 Dd hthAD3
                      have hD5 : w5.H Dd = some (.lst vs) := x35.kpT hD3 nD3 hthAD3
                      have r5 : RDs X.g w5 acc vs := r2.mono G2 (x3.trans x35)
                      have hlen := r5.length
                      refine ⟨vs, hD5, by rw [hlen, ← sl_eq]; omega, ?_⟩
                      have kw : Weak w5 { w5 with H := upd w5.H Dd (.lst (vs ++ [y])) } := weak_upd hthAD5
                      have nD5 : Dd ∉ w5.rhA := hr5
                      have x15 := x2.trans (x3.trans x35)
                      refine ⟨{ w5 with H := upd w5.H Dd (.lst (vs ++ [y])) }, acc ++ [z], vs ++ [y], S4, rfl, put_upd G5, rs5.weakW kw rfl (fun b hb => upd_ne fun e => nD5 (by rw [← e]; exact hb)), ⟨x15.rho, x15.th1, x15.th2, fun b o hb nb => ?_, fun b hb => ?_⟩, hr5, l4, hthAD5, upd_same, RDs.weakW kw (fun _ _ h => h) _ _ (r5.append (RDs.one rz)), by simp; omega, by omega, p2⟩
                      · have hne : b ≠ Dd := fun e => by rw [e, hD] at hb; cases hb
                        rcases x15.kp b o hb nb with q | ⟨nt, od, kvs, eo, q⟩
                        · exact .inl ((upd_ne hne).trans q)
                        · exact .inr ⟨nt, od, kvs, eo, (upd_ne hne).trans q⟩
                      · show upd w5.H Dd _ b ≠ none
                        by_cases e : b = Dd
                        · rw [e, upd_same]; simp
                        · rw [upd_ne e]; exact x15.al b hb
                    · exact p2.elim
        · exact p2.elim
    · exact p.elim
theorem de_lc {elt tg iter : Expr} {ifs : List Expr} {scope : Scope} {own : List (Str × Nat)} {mi : MI} {t : Tg} {mc : MT} {me m : ME} (hsl : ∀ i, i ∈ t.slots → i ∈ own.map (·.2)) (hm : (m = eLc (own.map (·.2)) t mi mc me) ∨ (m = eLcL (own.map (·.2)) t mi mc me))
    (h : PE X (.ListComp elt [⟨tg, iter, ifs, 0⟩] scope pos) (tLc (TIof X.g Wx mi) (TGof X.g t) (TTof X.g W0 mc) (TEof X.g W0 me) (own.map (·.2)))) : PE X (.ListComp elt [⟨tg, iter, ifs, 0⟩] scope pos) (TEof X.g Wx m) := peImp h (lcUse hsl hm)
theorem ds_setT {st : Stmt} {i : Nat} {t0 : TE} {me : ME} (h : PS X st (tAsg t0 (gName i))) (f : ∀ σ H Q, TEof X.g Wx me σ H Q → t0 σ H Q) : PS X st (TSof X.g Wx (sSet i me)) := by
  refine psImp h fun D σ H ⟨w, E, S, a, p⟩ => f σ H _ ⟨w, E, S, a, PR.imp (PO_.bind a.good a.env p) fun x H1 ⟨w1, d, S1, a1, x1, r1, p1⟩ => ?_⟩
  have := p1 _ w1 (Ext.refl w1) a1.good (a1.env.set r1) a1.sto
  rw [a1.hp] at this
  exact this
end
end J
set_option Elab.async false
set_option linter.all false
set_option maxRecDepth 100000
set_option maxHeartbeats 1000000
namespace J
open PySem PySem.Spec PyProof.Rows L2
/-! ### calls -/
def PF (g : G) (w : W) (Q : VK) (E : XK) : R D → Prop
  | .ok d S => ∀ v w', Ext w w' → w'.rhA = w.rhA → Good w' → RD g w' d v → RS g w' S → Q v w'.H
  | .exc c fs S => ∀ cls dx w', Ext w w' → w'.rhA = w.rhA → Good w' → RX g w' c fs cls dx → RS g w' S → E cls dx w'.H
  | .bad => False
def spF (g : G) (np : Nat) (F : MF) : Sp := fun vs H Q E => ∃ w ds S, w.H = H ∧ Good w ∧ RDs g w ds vs ∧ RS g w S ∧ ds.length = np ∧ PF g w Q E (F ds S)
theorem spF_len {g : G} {np : Nat} {F : MF} {ps : List Str} (h : ps.length = np) : ∀ vs H Q E, spF g np F vs H Q E → vs.length = ps.length := fun vs H Q E ⟨w, ds, S, _, _, r, _, l, _⟩ => by rw [r.length, l, h]
theorem byRef_ok {g : G} {w : W} : ∀ {ds ds' : List D} {ns : List Nat} {vs : List V} (k : Nat), byRef ds k = some (ds', ns) → RDs g w ds vs →
    ns.Nodup ∧ (∀ n ∈ ns, n < w.rhA.length) ∧ ds'.length = ds.length ∧ ∀ (rhA : List Addr), (∀ (j n : Nat), ns[j]? = some n → rhA[k + j]? = w.rhA[n]?) → RDs g ⟨w.thA, rhA, w.H⟩ ds' vs
  | [], _, _, _, k, h, r => by
    simp only [byRef, Option.some.injEq, Prod.mk.injEq] at h
    obtain ⟨rfl, rfl⟩ := h
    cases r
    exact ⟨List.nodup_nil, by simp, rfl, fun _ _ => rfl⟩
  | d :: ds, ds', ns, vs, k, h, r => by
    obtain ⟨v, us, rfl, r1, r2⟩ := r
    have flatCase : ∀ (hf : d.flat = true), (byRef ds k).map (fun p => (d :: p.1, p.2)) = some (ds', ns) → ns.Nodup ∧ (∀ n ∈ ns, n < w.rhA.length) ∧ ds'.length = (d :: ds).length ∧ ∀ (rhA : List Addr), (∀ (j n : Nat), ns[j]? = some n → rhA[k + j]? = w.rhA[n]?) → RDs g ⟨w.thA, rhA, w.H⟩ ds' (v :: us) := fun hf h => by
      cases e : byRef ds k with
      | none => rw [e] at h; cases h
      | some p =>
        obtain ⟨ds1, ns1⟩ := p
        rw [e] at h
        simp only [Option.map_some, Option.some.injEq, Prod.mk.injEq] at h
        obtain ⟨rfl, rfl⟩ := h
        obtain ⟨n1, n2, n3, n4⟩ := byRef_ok k e r2
        refine ⟨n1, n2, by simp [n3], fun rhA hrhA => RDs.cons ?_ (n4 rhA hrhA)⟩
        exact RD.flatW (weak_take (w := w) (w' := ⟨w.thA, rhA, w.H⟩) rfl fun _ z => z) _ _ hf r1
    cases d with
    | loc n =>
      simp only [byRef] at h
      cases e : byRef ds (k + 1) with
      | none => rw [e] at h; cases h
      | some p =>
        obtain ⟨ds1, ns1⟩ := p
        rw [e] at h
        simp only [Option.bind_some] at h
        split at h
        · cases h
        · rename_i hc
          simp only [Option.some.injEq, Prod.mk.injEq] at h
          obtain ⟨rfl, rfl⟩ := h
          obtain ⟨n1, n2, n3, n4⟩ := byRef_ok (k + 1) e r2
          obtain ⟨a, rfl, ha⟩ := r1
          refine ⟨List.nodup_cons.mpr ⟨by simpa using hc, n1⟩, fun m hm => ?_, by simp [n3], fun rhA hrhA => RDs.cons ⟨a, rfl, ?_⟩ (n4 rhA fun j m hj => ?_)⟩
          · rcases List.mem_cons.mp hm with rfl | hm
            · exact (List.getElem?_eq_some_iff.mp ha).1
            · exact n2 m hm
          · have := hrhA 0 n (by simp)
            rw [Nat.add_zero] at this
            show rhA[k]? = some a
            rw [this]; exact ha
          · have := hrhA (j + 1) m (by simpa using hj)
            rw [← this]
            congr 1
            omega
    | non => exact flatCase rfl (by simpa only [byRef, D.flat, if_true] using h)
    | bl b => exact flatCase rfl (by simpa only [byRef, D.flat, if_true] using h)
    | int b => exact flatCase rfl (by simpa only [byRef, D.flat, if_true] using h)
    | str b => exact flatCase rfl (by simpa only [byRef, D.flat, if_true] using h)
    | ty b => exact flatCase rfl (by simpa only [byRef, D.flat, if_true] using h)
    | tup b =>
      simp only [byRef] at h
      split at h
      · rename_i hf; exact flatCase hf h
      · cases h
    | lst b =>
      simp only [byRef] at h
      split at h
      · rename_i hf; exact flatCase hf h
      · cases h
    | rdl b =>
      simp only [byRef] at h
      split at h
      · rename_i hf; exact flatCase hf h
      · cases h
    | dct ks b =>
      simp only [byRef] at h
      split at h
      · rename_i hf; exact flatCase hf h
      · cases h
    | dcT ks b =>
      simp only [byRef] at h
      split at h
      · rename_i hf; exact flatCase hf h
      · cases h
    | tuk b =>
      simp only [byRef] at h
      split at h
      · rename_i hf; exact flatCase hf h
      · cases h
theorem mapM_some {α β : Type} {f : α → Option β} : ∀ {l : List α} {r : List β}, l.mapM f = some r → r.length = l.length ∧ ∀ (j : Nat) x, l[j]? = some x → ∃ y, r[j]? = some y ∧ f x = some y
  | [], r, h => by
    simp at h
    subst h
    exact ⟨rfl, by simp⟩
  | x :: l, r, h => by
    rw [List.mapM_cons] at h
    cases e : f x with
    | none => rw [e] at h; cases h
    | some y =>
      rw [e] at h
      cases e2 : l.mapM f with
      | none => rw [e2] at h; cases h
      | some ys =>
        rw [e2] at h
        cases h
        obtain ⟨h1, h2⟩ := mapM_some e2
        refine ⟨by simp [h1], fun j z hj => ?_⟩
        cases j with
        | zero => simp at hj; subst hj; exact ⟨y, rfl, e⟩
        | succ j => exact h2 j z (by simpa using hj)
theorem setAll_len : ∀ (S : List D) (ns : List Nat) (T : List D), (setAll S ns T).length = S.length
  | S, [], _ => by cases ‹List D› <;> rfl
  | S, n :: ns, [] => rfl
  | S, n :: ns, d :: T => by
    show (setAll (S.set n d) ns T).length = _
    rw [setAll_len, List.length_set]
theorem setAll_get : ∀ {S : List D} {ns : List Nat} {T : List D} (m : Nat), ns.Nodup → T.length = ns.length → (∀ n ∈ ns, n < S.length) → (setAll S ns T)[m]? = match ns.idxOf? m with | some j => T[j]? | none => S[m]?
  | S, [], T, m, _, _, _ => by cases T <;> simp [setAll]
  | S, n :: ns, [], m, _, hl, _ => by simp at hl
  | S, n :: ns, d :: T, m, hn, hl, hb => by
    obtain ⟨h1, h2⟩ := List.nodup_cons.mp hn
    show (setAll (S.set n d) ns T)[m]? = _
    rw [setAll_get m h2 (by simpa using hl) (fun k hk => by rw [List.length_set]; exact hb k (List.mem_cons_of_mem _ hk))]
    rw [List.idxOf?_cons]
    by_cases hm : n = m
    · subst hm
      have : ns.idxOf? n = none := by rw [List.idxOf?_eq_none_iff]; exact h1
      rw [this]
      simp only [BEq.rfl, if_true]
      rw [List.getElem?_set_self (hb n List.mem_cons_self)]
      rfl
    · have hb' : (n == m) = false := by simpa using hm
      rw [hb']
      cases e : ns.idxOf? m with
      | none => simp [List.getElem?_set_ne hm]
      | some j => simp
theorem back_ok {g : G} {w1 wc wc' : W} {S1 S' : List D} {ns : List Nat} (G1 : Good w1) (rs : RS g w1 S1) (hn : ns.Nodup) (hb : ∀ n ∈ ns, n < w1.rhA.length) (hH : wc.H = w1.H) (hthA : wc.thA = w1.thA)
    (hrhA : wc.rhA.length = ns.length) (hrhA2 : ∀ (j n : Nat), ns[j]? = some n → wc.rhA[j]? = w1.rhA[n]?) (x : Ext wc wc') (hr : wc'.rhA = wc.rhA) (G' : Good wc') (rs' : RS g wc' S') (hl : S'.length = ns.length) (hf : S'.all D.flat = true) :
    Ext w1 ⟨wc'.thA, w1.rhA, wc'.H⟩ ∧ Good ⟨wc'.thA, w1.rhA, wc'.H⟩ ∧ RS g ⟨wc'.thA, w1.rhA, wc'.H⟩ (setAll S1 ns S') := by
  have sub : ∀ a, a ∈ wc.rhA → a ∈ w1.rhA := fun a ha => by
    obtain ⟨j, hj⟩ := List.mem_iff_getElem?.mp ha
    have hjl : j < ns.length := by rw [← hrhA]; exact (List.getElem?_eq_some_iff.mp hj).1
    have e := hrhA2 j ns[j] (List.getElem?_eq_getElem hjl)
    rw [hj] at e
    exact List.mem_of_getElem? e.symm
  have x1 : Ext w1 ⟨wc'.thA, w1.rhA, wc'.H⟩ := by
    refine ⟨⟨[], by simp, by simp⟩, fun a h => x.th1 a (by rw [hthA]; exact h), fun a h => ?_, fun a o h n => (x.kp a o (by rw [hH]; exact h) fun z => n (sub a z)).imp id (fun ⟨nt, q⟩ => ⟨by rw [← hthA]; exact nt, q⟩), fun a h => x.al a (by rw [hH]; exact h)⟩
    rcases x.th2 a h with z | z
    · rw [hthA] at z; exact .inl z
    · rw [hH] at z; exact .inr z
  have G1' : Good ⟨wc'.thA, w1.rhA, wc'.H⟩ := ⟨G1.nd, fun a h => x.th1 a (by rw [hthA]; exact G1.sub a h), G'.al, G'.nt⟩
  refine ⟨x1, G1', by rw [setAll_len]; exact rs.1, fun m d e => ?_⟩
  rw [setAll_get m hn hl (fun n h => by rw [rs.1]; exact hb n h)] at e
  cases q : ns.idxOf? m with
  | some j =>
    rw [q] at e
    simp only at e
    have hj : ns[j]? = some m := by
      have := List.idxOf?_eq_some_iff.mp q
      obtain ⟨hlt, hq, _⟩ := this
      rw [List.getElem?_eq_getElem hlt]
      simpa using hq
    obtain ⟨a, h1, h2⟩ := rs'.2 j d e
    refine ⟨a, ?_, h2.flatW (weak_take (w := wc') (w' := ⟨wc'.thA, w1.rhA, wc'.H⟩) rfl fun _ z => z) (allFlat hf e) rfl⟩
    show w1.rhA[m]? = some a
    rw [← hrhA2 j m hj, ← hr]
    exact h1
  | none =>
    rw [q] at e
    simp only at e
    have hm : m ∉ ns := by rwa [List.idxOf?_eq_none_iff] at q
    obtain ⟨a, h1, h2⟩ := rs.2 m d e
    refine ⟨a, h1, h2.mono G1 x1 ?_⟩
    have na : a ∉ wc.rhA := fun ha => by
      obtain ⟨j, hj⟩ := List.mem_iff_getElem?.mp ha
      have hjl : j < ns.length := by rw [← hrhA]; exact (List.getElem?_eq_some_iff.mp hj).1
      have e := hrhA2 j ns[j] (List.getElem?_eq_getElem hjl)
      rw [hj] at e
      have := nd_ix G1.nd h1 e.symm
      exact hm (by rw [this]; exact List.getElem_mem hjl)
    show wc'.H a = w1.H a
    rcases none_or (H := w1.H) a with z | ⟨o, z⟩
    · exact absurd z h2.there
    · rw [z]; exact x.kpT (by rw [hH]; exact z) na (by rw [hthA]; exact G1.sub a (List.mem_of_getElem? h1))
structure Fok (P : Program) (wd : World) (g : G) (base : Heap) (k : Nat) (x : Str) (np : Nat) (F : MF) : Prop where
  ex : ∃ (f : Addr) (fd : FuncData) (ps : List Str), FnOk P wd g.K g.mg base (L2.CX P wd) k f fd ps (spF g np F) ∧ g.mg x = some (.ref f) ∧ PySem.W.keepIn g.K (.ref f) = true ∧ Binds g.K fd ps []
theorem Fok.mono {P : Program} {wd : World} {g : G} {base : Heap} {j k : Nat} {x : Str} {np : Nat} {F : MF} (h : Fok P wd g base j x np F) (hk : j ≤ k) : Fok P wd g base k x np F := by
  obtain ⟨f, fd, ps, a, b⟩ := h.ex
  exact ⟨f, fd, ps, a.mono hk, b⟩
section
variable {X : Cx} {Wx : WX} {pos : Pos}
theorem allSnd : ∀ {fs : List (Str × D)}, fs.all (fun p => p.2.flat) = true → D.flats (fs.map (·.2)) = true
  | [], _ => rfl
  | p :: fs, f => by
    rw [List.all_cons, Bool.and_eq_true] at f
    simp only [List.map_cons, D.flats, Bool.and_eq_true]
    exact ⟨f.1, allSnd f.2⟩
theorem RX.flatW {g : G} {w w' : W} (k : Weak w w') {c : Str} {fs : List (Str × D)} {cls : Value} {dx : Option Addr} (f : fs.all (fun p => p.2.flat) = true) (h : RX g w c fs cls dx) : RX g w' c fs cls dx := by
  obtain ⟨C, h1, h2, h3⟩ := h
  refine ⟨C, h1, h2, h3.imp id fun ⟨d, vs, e0, e, hd, n, r⟩ => ⟨d, vs, e0, e, k.H d _ hd n, k.thA d _ hd n, RDs.flatW k _ _ ?_ r⟩⟩
  exact allSnd f
theorem callUse {np : Nat} {F : MF} (hnp : True) : ∀ (σ : L2.St) (w1 : W) (ds S1 : List D) (vs : List V) (Q : VK), Good w1 → RDs X.g w1 ds vs → RS X.g w1 S1 → ds.length = np → PR X.g Wx σ w1 (RD X.g) Q (callF F ds S1) → spF X.g np F vs w1.H Q (WE Wx σ) := fun σ w1 ds S1 vs Q G1 r rs hl p => by
  unfold callF at p
  split at p
  · exact p.elim
  · rename_i ds' ns hb
    obtain ⟨n1, n2, n3, n4⟩ := byRef_ok 0 hb r
    split at p
    · exact p.elim
    · rename_i Sc hm
      obtain ⟨m1, m2⟩ := mapM_some hm
      split at p
      · rename_i hfl
        have hrhA : ∀ (j n : Nat), ns[j]? = some n → (ns.map fun n => w1.rhA.getD n 0)[j]? = w1.rhA[n]? := fun j n hj => by
          have hn := n2 n (List.mem_of_getElem? hj)
          rw [List.getElem?_map, hj, Option.map_some, List.getD_eq_getElem?_getD, List.getElem?_eq_getElem hn]
          rfl
        have r' := n4 (ns.map fun n => w1.rhA.getD n 0) (fun j n hj => by rw [Nat.zero_add]; exact hrhA j n hj)
        have Gc : Good ⟨w1.thA, ns.map fun n => w1.rhA.getD n 0, w1.H⟩ := by
          refine ⟨?_, fun a ha => ?_, G1.al, G1.nt⟩
          · show (ns.map fun n => w1.rhA.getD n 0).Nodup
            refine List.pairwise_map.mpr (List.Pairwise.imp_of_mem (fun {a b} ha hb hab e => hab ?_) n1)
            have b1 := n2 a ha
            have b2 := n2 b hb
            rw [List.getD_eq_getElem?_getD, List.getD_eq_getElem?_getD, List.getElem?_eq_getElem b1, List.getElem?_eq_getElem b2] at e
            exact nd_ix G1.nd (List.getElem?_eq_getElem b1) (by rw [List.getElem?_eq_getElem b2]; exact congrArg some e.symm)
          · obtain ⟨n, hn, rfl⟩ := List.mem_map.mp ha
            have hb := n2 n hn
            apply G1.sub
            rw [List.getD_eq_getElem?_getD, List.getElem?_eq_getElem hb]
            exact List.getElem_mem hb
        have rsc : RS X.g ⟨w1.thA, ns.map fun n => w1.rhA.getD n 0, w1.H⟩ Sc := by
          refine ⟨by rw [m1, List.length_map], fun j d e => ?_⟩
          have hj : j < ns.length := by rw [← m1]; exact (List.getElem?_eq_some_iff.mp e).1
          obtain ⟨y, hy, hy2⟩ := m2 j ns[j] (List.getElem?_eq_getElem hj)
          rw [e] at hy
          cases hy
          obtain ⟨a, h1, h2⟩ := rs.2 ns[j] d hy2
          refine ⟨a, ?_, h2.flatW (weak_take (w := w1) (w' := ⟨w1.thA, ns.map fun n => w1.rhA.getD n 0, w1.H⟩) rfl fun _ z => z) (allFlat hfl e) rfl⟩
          show (ns.map fun n => w1.rhA.getD n 0)[j]? = some a
          rw [hrhA j ns[j] (List.getElem?_eq_getElem hj)]
          exact h1
        refine ⟨⟨w1.thA, ns.map fun n => w1.rhA.getD n 0, w1.H⟩, ds', Sc, rfl, Gc, r', rsc, by rw [n3]; exact hl, ?_⟩
        cases hF : F ds' Sc with
        | bad => rw [hF] at p; exact p.elim
        | exc c fs S' =>
          rw [hF] at p
          simp only at p
          split at p
          · rename_i hh
            intro cls dx wc' x hr G' rx rs'
            obtain ⟨b1, b2, b3⟩ := back_ok (wc := ⟨w1.thA, ns.map fun n => w1.rhA.getD n 0, w1.H⟩) G1 rs n1 n2 rfl rfl (by show (ns.map _).length = _; rw [List.length_map]) hrhA x hr G' rs' hh.1 hh.2.1
            exact p cls dx ⟨wc'.thA, w1.rhA, wc'.H⟩ b1 b2 (RX.flatW (weak_take (w := wc') (w' := ⟨wc'.thA, w1.rhA, wc'.H⟩) rfl fun _ z => z) hh.2.2 rx) b3
          · exact p.elim
        | ok d S' =>
          rw [hF] at p
          simp only at p
          split at p
          · rename_i hh
            intro v wc' x hr G' rd rs'
            obtain ⟨b1, b2, b3⟩ := back_ok (wc := ⟨w1.thA, ns.map fun n => w1.rhA.getD n 0, w1.H⟩) G1 rs n1 n2 rfl rfl (by show (ns.map _).length = _; rw [List.length_map]) hrhA x hr G' rs' hh.2.1 hh.2.2
            exact p v ⟨wc'.thA, w1.rhA, wc'.H⟩ b1 b2 (RD.flatW (weak_take (w := wc') (w' := ⟨wc'.thA, w1.rhA, wc'.H⟩) rfl fun _ z => z) _ _ hh.1 rd) b3
          · exact p.elim
      · exact p.elim
theorem de_call {x : Str} {k j np : Nat} {F : MF} {p : Pos} {e : Expr} {es : List Expr} {mr : MA} (h : Fok X.prog X.w X.g X.base k x np F) (hk : k ≤ j) (hr : Room j X.A) (tk : Takes X Wx) (hg : Gl X x) (hln : (e :: es).length = np) (ha : PA X (e :: es) (TAof X.g Wx mr))
    (hdb : (x == ("__debug__" : Str)) = false := by decide) (he : starEach (e :: es) X.env = (false, eval e X.env) :: starEach es X.env := by rfl) (hpl : (backTo pos (starEach es X.env)).any (·.1) = false := by rfl)
    (hlen : ∀ E S ds S', mr E S = .ok ds S' → ds.length = np) : PE X (.Call (.Name x p) (e :: es) [] pos) (TEof X.g Wx (eArgs (callF F) mr)) := by
  obtain ⟨f, fd, ps, hF, hm, kp, b⟩ := h.ex
  refine peImp (pe_callS hF (hr.mono hk) hg hm kp b (fun σ => passAt tk σ) ha hdb he hpl) fun σ H Q ⟨w, E, S, a, p⟩ => ?_
  refine ⟨w, E, S, a, ?_⟩
  have p' : PR X.g Wx σ w (RD X.g) Q ((mr E S).bind fun xs S1 => callF F xs S1) := p
  cases hm : mr E S with
  | bad => rw [hm] at p'; exact p'.elim
  | exc c fs S1 => rw [hm] at p'; exact p'
  | ok ds S1 =>
    rw [hm] at p'
    intro vs w1 x1 G1 r rs
    have p2 : PR X.g Wx σ w1 (RD X.g) Q (callF F ds S1) := PR.at p' x1
    exact callUse trivial σ w1 ds S1 vs Q G1 r rs (hlen _ _ _ _ hm) p2
theorem alen_nil : ∀ E S ds S', aNil E S = .ok ds S' → ds.length = 0 := fun E S ds S' h => by cases h; rfl
theorem alen_cons {ma : ME} {mr : MA} {n : Nat} (h : ∀ E S ds S', mr E S = .ok ds S' → ds.length = n) : ∀ E S ds S', aCons ma mr E S = .ok ds S' → ds.length = n + 1 := fun E S ds S' q => by
  unfold aCons at q
  cases e : ma E S with
  | bad => rw [e] at q; cases q
  | exc c fs S1 => rw [e] at q; cases q
  | ok d S1 =>
    rw [e] at q
    simp only [bind_ok] at q
    cases e2 : mr E S1 with
    | bad => rw [e2] at q; cases q
    | exc c fs S2 => rw [e2] at q; cases q
    | ok es S2 =>
      rw [e2] at q
      cases q
      simp [h _ _ _ _ e2]
/-! ### defs -/
theorem fz_ok {g : G} {w w1 : W} (G0 : Good w) (G1 : Good w1) (x : Ext w w1) {S : List D} (rs : RS g w1 S) : ∀ (n : Nat) (d d' : D) (v : V), fz w.rhA.length S n d = some d' → RD g w1 d v → RD g ⟨w.thA, w.rhA, w1.H⟩ d' v
  | 0, _, _, _, h, _ => by cases h
  | n + 1, d, d', v, h, r => by
    have kw : Weak w1 ⟨w.thA, w.rhA, w1.H⟩ := weak_take rfl x.th1
    unfold fz at h
    split at h
    · rename_i hf
      cases h
      exact RD.flatW kw _ _ hf r
    · have many : ∀ (ds ds' : List D) (vs : List V), ds.mapM (fz w.rhA.length S n) = some ds' → RDs g w1 ds vs → RDs g ⟨w.thA, w.rhA, w1.H⟩ ds' vs := fun ds => by
        induction ds with
        | nil =>
          intro ds' vs e r
          simp at e
          subst e
          cases r
          rfl
        | cons d0 ds ih =>
          intro ds' vs e r
          obtain ⟨u, us, rfl, r1, r2⟩ := r
          rw [List.mapM_cons] at e
          cases e1 : fz w.rhA.length S n d0 with
          | none => rw [e1] at e; cases e
          | some d1 =>
            rw [e1] at e
            cases e2 : ds.mapM (fz w.rhA.length S n) with
            | none => rw [e2] at e; cases e
            | some ds1 =>
              rw [e2] at e
              cases e
              exact RDs.cons (fz_ok G0 G1 x rs n d0 d1 u e1 r1) (ih ds1 us e2 r2)
      split at h
      · rename_i m _
        split at h
        · cases h
        · rename_i hm
          obtain ⟨a, rfl, ha⟩ := r
          have nthA : ¬ w.thA a := fun z => by
            obtain ⟨τ, e1, f1⟩ := x.rho
            rw [e1, List.getElem?_append_right (by omega)] at ha
            have := f1 a (List.mem_of_getElem? ha)
            exact G0.al a z this
          split at h
          · rename_i ds e
            cases q : ds.mapM (fz w.rhA.length S n) with
            | none => rw [q] at h; cases h
            | some ds1 =>
              rw [q] at h
              cases h
              obtain ⟨vs, h1, h2⟩ := rs.obj ha e
              exact ⟨a, vs, rfl, h1, nthA, many _ _ _ q h2⟩
          · rename_i ks ds e
            cases q : ds.mapM (fz w.rhA.length S n) with
            | none => rw [q] at h; cases h
            | some ds1 =>
              rw [q] at h
              cases h
              obtain ⟨vs, h1, l, h2⟩ := rs.obj ha e
              exact ⟨a, vs, rfl, .inl h1, l, nthA, many _ _ _ q h2⟩
          · rename_i ks ds e
            cases q : ds.mapM (fz w.rhA.length S n) with
            | none => rw [q] at h; cases h
            | some ds1 =>
              rw [q] at h
              cases h
              obtain ⟨vs, h1, l, h2⟩ := rs.obj ha e
              exact ⟨a, vs, rfl, .inl h1, l, nthA, many _ _ _ q h2⟩
          · cases h
      · rename_i ds _
        cases q : ds.mapM (fz w.rhA.length S n) with
        | none => rw [q] at h; cases h
        | some ds1 =>
          rw [q] at h
          cases h
          obtain ⟨a, vs, rfl, t, r2⟩ := r
          exact ⟨a, vs, rfl, kw.tup t, many _ _ _ q r2⟩
      · rename_i ds _
        cases q : ds.mapM (fz w.rhA.length S n) with
        | none => rw [q] at h; cases h
        | some ds1 =>
          rw [q] at h
          cases h
          obtain ⟨a, vs, rfl, t, nn, r2⟩ := r
          exact ⟨a, vs, rfl, t, fun z => nn (x.th1 a z), many _ _ _ q r2⟩
      · cases h
theorem ret_ext {w w1 : W} (x : Ext w w1) : Ext w ⟨w.thA, w.rhA, w1.H⟩ := ⟨⟨[], by simp, by simp⟩, fun _ h => h, fun _ h => .inl h, x.kp, x.al⟩
theorem ret_good {w w1 : W} (G0 : Good w) (G1 : Good w1) (x : Ext w w1) : Good ⟨w.thA, w.rhA, w1.H⟩ := ⟨G0.nd, G0.sub, fun a h => x.al a (G0.al a h), fun a h => G1.nt a (x.th1 a h)⟩
theorem ret_store {g : G} {w w1 : W} {S1 : List D} (x : Ext w w1) (rs : RS g w1 S1) (hn : w.rhA.length ≤ S1.length) (hf : (S1.take w.rhA.length).all D.flat = true) : RS g ⟨w.thA, w.rhA, w1.H⟩ (S1.take w.rhA.length) := by
  obtain ⟨τ, e1, f1⟩ := x.rho
  refine take_store (w := w1) (weak_take rfl x.th1) rfl ?_ hn hf rs
  show w.rhA = w1.rhA.take w.rhA.length
  rw [e1, List.take_append_of_le_length (Nat.le_refl _), List.take_of_length_le (Nat.le_refl _)]
theorem RE.start {g : G} {w : W} {ds : List D} {vs : List V} (r : RDs g w ds vs) (nn : Nat) : RE g w (ds.map some ++ List.replicate (nn - ds.length) none) (vs.map some ++ List.replicate (nn - vs.length) none) := by
  have hl := r.length
  refine ⟨by simp [hl], fun i d e => ?_⟩
  by_cases hi : i < ds.length
  · rw [List.getElem?_append_left (by simpa using hi), List.getElem?_map, List.getElem?_eq_getElem hi] at e
    simp only [Option.map_some, Option.some.injEq] at e
    obtain ⟨v, h1, h2⟩ := r.get (List.getElem?_eq_getElem hi)
    subst e
    refine ⟨v, ?_, h2⟩
    rw [List.getElem?_append_left (by simpa [hl] using hi), List.getElem?_map, h1]
    rfl
  · rw [List.getElem?_append_right (by simpa using hi), List.getElem?_replicate] at e
    split at e <;> cases e
structure Ctx (X : Cx) (Wx : WX) (k : Nat) : Prop where
  tk : Takes X Wx
  po : PassesOwn (model X.prog X.w) X.A X.env X.xe
  calm : X.calm = true
  hr : Room k X.A
theorem Ctx.u1 {X : Cx} {Wx : WX} {k : Nat} (c : Ctx X Wx k) : X.A.units + 1 < cLine := hu_of c.hr
theorem Ctx.u64 {X : Cx} {Wx : WX} {k : Nat} (c : Ctx X Wx k) : X.A.units + 64 < cLine := c.hr.units
theorem Ctx.blk {X : Cx} {Wx : WX} {k : Nat} (c : Ctx X Wx k) (s : Shared) (H : Hp) (scope : Scope) (ce : PySem.Env) (fp : List Addr) : Ctx (X.blk s H scope ce fp) W0 k := ⟨takes0, PassesOwn.never, c.calm, c.hr⟩
abbrev bodyCx (P : Program) (wd : World) (K : PySem.W.Frag) (mg : Str → Option Value) (base : Heap) (N : List Str) (x : Str) (st : Stmt) (f : Addr) (cdv : Value) (A : Around) (outer : List PySem.Env) (s : Shared) (H : Hp) (E : XK) : Cx := cxOf (L2.CX P wd) P wd K mg base N x (defScope st) f cdv A outer s H E
theorem fn_ok {P : Program} {wd : World} {K : PySem.W.Frag} {mg : Str → Option Value} {base : Heap} {x : Str} {st : Stmt} {f : Addr} {fd : FuncData} {N ps : List Str} {k np nn : Nat} {mb : MS} (F : Fun K x x st f fd) (S : FnScope N ps (defScope st))
    (hbody : ∀ (cdv : Value) (A : Around) (outer : List PySem.Env) (s : Shared) (H : Hp) (E : XK), Ctx (bodyCx P wd K mg base N x st f cdv A outer s H E) (fun cls d _ H => E cls d H) k → PSs (bodyCx P wd K mg base N x st f cdv A outer s H E) (defBody st) (TSof ⟨K, mg⟩ (fun cls d _ H => E cls d H) mb))
    (hnp : ps.length = np := by rfl) (hnn : N.length = nn := by rfl) : FnOk P wd K mg base (L2.CX P wd) (k + 1) f fd ps (spF ⟨K, mg⟩ np (fnF np nn mb)) := by
  subst hnp hnn
  refine F.okX S (spF_len rfl) (fun cdv A outer s H vs Q E hr h => ?_)
  obtain ⟨w, ds, S0, rfl, G0, r, rs, hl, p⟩ := h
  refine ⟨_, hbody cdv A outer s w.H E ⟨takes_of rfl rfl rfl rfl, passes_of rfl, rfl, hr⟩, ?_⟩
  have hn : w.rhA.length = S0.length := rs.1.symm
  refine ⟨w, ds.map some ++ List.replicate (N.length - ds.length) none, S0, ⟨rfl, G0, RE.start r N.length, rs⟩, ?_⟩
  unfold fnF at p
  rw [if_pos hl] at p
  rw [hl]
  cases hb : mb (ds.map some ++ List.replicate (N.length - ps.length) none) S0 with
  | bad => rw [hb] at p; exact p.elim
  | bk E S => rw [hb] at p; exact p.elim
  | ct E S => rw [hb] at p; exact p.elim
  | nx E1 S1 =>
    rw [hb] at p
    simp only [retF] at p
    rw [← hn] at p
    split at p
    · rename_i hh
      split at p
      · rename_i d' hd
        intro σ' w1 x G1 re rs1
        exact p .non ⟨w.thA, w.rhA, w1.H⟩ (ret_ext x) rfl (ret_good G0 G1 x) (fz_ok G0 G1 x rs1 8 .non d' .non hd rfl) (ret_store x rs1 hh.1 hh.2)
      · exact p.elim
    · exact p.elim
  | rt d S1 =>
    rw [hb] at p
    simp only [retF] at p
    rw [← hn] at p
    split at p
    · rename_i hh
      split at p
      · rename_i d' hd
        intro v w1 x G1 rd rs1
        exact p v ⟨w.thA, w.rhA, w1.H⟩ (ret_ext x) rfl (ret_good G0 G1 x) (fz_ok G0 G1 x rs1 8 d d' v hd rd) (ret_store x rs1 hh.1 hh.2)
      · exact p.elim
    · exact p.elim
  | exc c fs E1 S1 =>
    rw [hb] at p
    simp only [excF] at p
    rw [← hn] at p
    split at p
    · rename_i hh
      intro cls dx σ' w1 x G1 rx re rs1
      exact p cls dx ⟨w.thA, w.rhA, w1.H⟩ (ret_ext x) rfl (ret_good G0 G1 x) (RX.flatW (weak_take (w := w1) (w' := ⟨w.thA, w.rhA, w1.H⟩) rfl x.th1) hh.2.2 rx) (ret_store x rs1 hh.1 hh.2.1)
    · exact p.elim
theorem fok_of {P : Program} {wd : World} {K : PySem.W.Frag} {mg : Str → Option Value} {base : Heap} {x : Str} {st : Stmt} {f : Addr} {fd : FuncData} {N ps : List Str} {k np nn : Nat} {mb : MS} (F : Fun K x x st f fd) (S : FnScope N ps (defScope st)) (hm : mg x = some (.ref f)) (b : Binds K fd ps [])
    (hbody : ∀ (cdv : Value) (A : Around) (outer : List PySem.Env) (s : Shared) (H : Hp) (E : XK), Ctx (bodyCx P wd K mg base N x st f cdv A outer s H E) (fun cls d _ H => E cls d H) k → PSs (bodyCx P wd K mg base N x st f cdv A outer s H E) (defBody st) (TSof ⟨K, mg⟩ (fun cls d _ H => E cls d H) mb))
    (hnp : ps.length = np := by rfl) (hnn : N.length = nn := by rfl) : Fok P wd ⟨K, mg⟩ base (k + 1) x np (fnF np nn mb) := ⟨f, fd, ps, fn_ok F S hbody hnp hnn, hm, F.kp, b⟩
end
end J
set_option Elab.async false
set_option linter.all false
set_option maxRecDepth 100000
set_option maxHeartbeats 1000000
namespace J
open PySem PySem.Spec PyProof.Rows L2
section
variable {X : Cx} {Wx : WX} {pos : Pos}
theorem kit_all : ∀ t ∈ ["NoneType", "bool", "int", "str", "tuple", "list", "dict"], ∀ n ∈ isiNames, kitB t n = some (isiB t n) := by decide +kernel
def TyW (K : PySem.W.Frag) (H : Hp) (x : V) (t : Value) : Prop := TyX K H x t ∨ ∃ a kvs, x = .ref a ∧ Rd H a (.dK kvs) ∧ t = .type "dict"
theorem kit_w {pins : List (Addr × Obj)} {σ : L2.St} {H : Hp} {s : Shared} {x : V} {u t : Value} (I : Inv X pins σ H s) (rx : RelV x u) (ty : TyW X.K H x t) : ∃ P : Heap → Prop, PySem.W.KitX X.K u t P ∧ P s.heap ∧ u ≠ .builtin "__main__.__loader__#opaque" := by
  rcases ty with ty | ⟨a, kvs, rfl, ea, rfl⟩
  · exact kit_of I rx ty
  · cases (show u = Value.ref a from rx)
    obtain ⟨_, _, vs, _, p⟩ := dk_rd I.hok ea
    obtain ⟨o, es, ep, h1, h2, _⟩ := p
    exact ⟨_, PySem.W.kitx_dict, ⟨o, h1, h2.1⟩, fun z => nomatch z⟩
theorem call_isiW : CallR X (.builtin "isinstance") (fun xs H Q => ∃ (x c : V) (t u : Value) (b : Bool), xs = [x, c] ∧ ClsV c u ∧ TyW X.K H x t ∧ PySem.W.kitOne X.K t u = some b ∧ Q (.bl b) H) := by
  intro pins s σ H xs us Q I r h
  obtain ⟨x, c, t, u, b, rfl, k, ty, e, q⟩ := h
  obtain ⟨u1, u2, rfl, r1, r2⟩ := vals2 r
  have e2 := k.eq r2
  subst e2
  obtain ⟨P, Z, p, hx⟩ := kit_w I r1 ty
  exact PySem.W.kia_one Z I.kIn p e hx fun tk => ⟨.bl b, H, I.tok tk, rfl, q⟩
theorem call_isiTW : CallR X (.builtin "isinstance") (fun xs H Q => ∃ (x : V) (tp : Addr) (cs : List V) (t : Value) (us : List Value) (b : Bool), xs = [x, .ref tp] ∧ H tp = some (.tup cs) ∧ Paired ClsV cs us ∧ TyW X.K H x t ∧ PySem.W.kitAny X.K t us = some b ∧ Q (.bl b) H) := by
  intro pins s σ H xs us Q I r h
  obtain ⟨x, tp, cs, t, ws, b, rfl, hT, k, ty, e, q⟩ := h
  obtain ⟨u1, u2, rfl, r1, r2⟩ := vals2 r
  cases (show u2 = Value.ref tp from r2)
  obtain ⟨P, Z, p, hx⟩ := kit_w I r1 ty
  obtain ⟨_, its, rv, o, h1, h2, n, h3⟩ := (show ObjOk X.prog X.w H s.heap tp (.tup cs) from I.hok tp _ hT)
  have e3 := ClsV.all k rv
  subst e3
  obtain ⟨oc, od, dt, sl⟩ := o
  simp only at h2 h3
  subst h2 h3
  exact PySem.W.kia_tup Z I.kIn p h1 e hx fun tk => ⟨.bl b, H, I.tok tk, rfl, q⟩
theorem tyX_of {g : G} {w : W} {S : List D} {d : D} {v : V} {t : String} (rs : RS g w S) (r : RD g w d v) (h : tyOf S d = some t) : TyW g.K w.H v (.type t) ∧ t ∈ ["NoneType", "bool", "int", "str", "tuple", "list", "dict"] := by
  cases d with
  | non => cases h; cases r; exact ⟨.inl (.base .non), by decide⟩
  | bl b => cases h; cases r; exact ⟨.inl (.base (.bl b)), by decide⟩
  | int b => cases h; cases r; exact ⟨.inl (.base (.int b)), by decide⟩
  | str b => cases h; cases r; exact ⟨.inl (.base (.str b)), by decide⟩
  | ty b => cases h
  | tup ds =>
    cases h
    obtain ⟨a, vs, rfl, t, r⟩ := r
    exact ⟨.inl (.base (.tup t.1)), by decide⟩
  | lst ds =>
    cases h
    obtain ⟨a, vs, rfl, t, _, r⟩ := r
    exact ⟨.inl (.base (.lst t)), by decide⟩
  | rdl ds =>
    cases h
    obtain ⟨a, vs, rfl, t, r⟩ := r
    rcases t with ⟨t | ⟨o, t⟩, _⟩ | ⟨o, its, n, hk, hc, _⟩
    · exact ⟨.inl (.base (.lst t)), by decide⟩
    · exact ⟨.inl (.base (.frz t)), by decide⟩
    · exact ⟨.inl (.kList hk hc), by decide⟩
  | dct ks ds =>
    cases h
    obtain ⟨a, vs, rfl, t, _, r⟩ := r
    exact ⟨.inr ⟨a, _, rfl, t, rfl⟩, by decide⟩
  | dcT ks ds => cases h
  | tuk ds =>
    cases h
    obtain ⟨a, vs, o, rfl, t, _, _, r⟩ := r
    exact ⟨.inl (.fTuple t), by decide⟩
  | loc n =>
    obtain ⟨a, rfl, ha⟩ := r
    unfold tyOf at h
    simp only at h
    split at h
    · rename_i ds e
      cases h
      obtain ⟨vs, t, _⟩ := rs.obj ha e
      exact ⟨.inl (.base (.lst t)), by decide⟩
    · rename_i ks ds e
      cases h
      obtain ⟨vs, t, _⟩ := rs.obj ha e
      exact ⟨.inl (.base (.dK t)), by decide⟩
    · cases h
theorem jc_isi {n : String} (hn : n ∈ isiNames) {a c : Expr} {ma : ME} {x : Str} {p : Pos} (ha : PE X a (TEof X.g Wx ma)) (hcl : PE X c (tC (.ty n))) (hg : Gl X "isinstance") (hm : X.mg "isinstance" = none)
    (he : starEach [a, c] X.env = (false, eval a X.env) :: starEach [c] X.env := by rfl) (hes : starEach [c] X.env = (false, eval c X.env) :: starEach [] X.env := by rfl) (hpl : (backTo pos (starEach [c] X.env)).any (·.1) = false := by rfl) : PE X (.Call (.Name "isinstance" p) [a, c] [] pos) (TEof X.g Wx (eUn (oIsi [n]) ma)) := by
  refine peImp (pe_callB (call_isiW (X := X)) hg hm (by decide +kernel) (pa_cons ha (pa_cons hcl pa_nil hes) he) (by decide) (by decide) he hpl) fun σ H Q ⟨w, E, S, a, p⟩ => ?_
  refine ⟨w, E, S, a, PR.imp (PR.bind a.good a.env p) fun x H1 ⟨w1, d, S1, a1, x1, r1, p1⟩ => ?_⟩
  unfold oIsi at p1
  split at p1
  · rename_i t e
    obtain ⟨h1, h2⟩ := tyX_of a1.sto r1 e
    have q := putSame p1 a1.good a1.sto rfl
    rw [a1.hp] at q h1
    refine ⟨x, .ty n, .type t, .type n, isiB t n, rfl, .ty n, h1, kit_ty (kit_all t h2 n hn), ?_⟩
    simpa using q
  · exact p1.elim
theorem kitAny_all {K : PySem.W.Frag} {t : String} (ht : t ∈ ["NoneType", "bool", "int", "str", "tuple", "list", "dict"]) : ∀ {ns : List String}, (∀ n ∈ ns, n ∈ isiNames) → PySem.W.kitAny K (.type t) (ns.map Value.type) = some (ns.any (isiB t))
  | [], _ => kitAny_nil
  | n :: ns, h => by
    have h1 := kit_all t ht n (h n List.mem_cons_self)
    have h2 := kitAny_all (K := K) ht (ns := ns) fun m hm => h m (List.mem_cons_of_mem _ hm)
    rw [List.map_cons, List.any_cons]
    cases e : isiB t n with
    | true =>
      rw [e] at h1
      exact kitAny_cons (kit_ty h1) (fun z => by cases z) fun _ => rfl
    | false =>
      rw [e] at h1
      exact kitAny_cons (kit_ty h1) (fun _ => h2) fun z => by cases z
theorem clsV_all : ∀ ns : List String, Paired ClsV (ns.map V.ty) (ns.map Value.type)
  | [] => .nil
  | n :: ns => .cons (.ty n) (clsV_all ns)
theorem jc_isi2 {n m : String} (hn : n ∈ isiNames) (hmm : m ∈ isiNames) {a c d : Expr} {ma : ME} {p p2 : Pos} {k : Nat} (ha : PE X a (TEof X.g Wx ma)) (hc : PE X c (tC (.ty n))) (hd : PE X d (tC (.ty m))) (hg : Gl X "isinstance") (hm : X.mg "isinstance" = none)
    (he : starEach [a, .Tuple [c, d] k p2] X.env = (false, eval a X.env) :: starEach [.Tuple [c, d] k p2] X.env := by rfl) (hes : starEach [.Tuple [c, d] k p2] X.env = (false, eval (.Tuple [c, d] k p2) X.env) :: starEach [] X.env := by rfl)
    (h1 : starEach [c, d] X.env = (false, eval c X.env) :: starEach [d] X.env := by rfl) (h2 : starEach [d] X.env = (false, eval d X.env) :: starEach [] X.env := by rfl)
    (hpl : (backTo pos (starEach [.Tuple [c, d] k p2] X.env)).any (·.1) = false := by rfl) : PE X (.Call (.Name "isinstance" p) [a, .Tuple [c, d] k p2] [] pos) (TEof X.g Wx (eUn (oIsi [n, m]) ma)) := by
  refine peImp (pe_callB (call_isiTW (X := X)) hg hm (by decide +kernel) (pa_cons ha (pa_cons (pe_tup (pa_cons hc (pa_cons hd pa_nil h2) h1)) pa_nil hes) he) (by decide) (by decide) he hpl) fun σ H Q ⟨w, E, S, a, p⟩ => ?_
  refine ⟨w, E, S, a, PR.imp (PR.bind a.good a.env p) fun x H1 ⟨w1, dd, S1, a1, x1, r1, p1⟩ => ?_⟩
  unfold oIsi at p1
  split at p1
  · rename_i t e
    refine ⟨by show 2 ≤ sizeLine; decide, fun q hq => ?_⟩
    rw [← a1.hp] at hq ⊢
    have x2 := put_ext (o := .tup [V.ty n, V.ty m]) hq
    have G2 := put_good (p := q) (o := .tup [V.ty n, V.ty m]) a1.good hq
    have rs2 := put_store (o := .tup [V.ty n, V.ty m]) a1.good hq a1.sto
    obtain ⟨t1, t2⟩ := tyX_of rs2 (RD.mono a1.good x2 _ _ r1) e
    refine ⟨x, q, [V.ty n, V.ty m], .type t, [.type n, .type m], [n, m].any (isiB t), rfl, upd_same, clsV_all [n, m], t1, kitAny_all t2 (ns := [n, m]) (fun z hz => ?_), ?_⟩
    · rcases List.mem_cons.mp hz with rfl | hz
      · exact hn
      · rw [List.mem_singleton.mp hz]; exact hmm
    · exact p1 _ (w1.put q (.tup [V.ty n, V.ty m])) x2 G2 rfl rs2
  · exact p1.elim
/-! a new dict -/
theorem de_dctL : PE X (.Dict [] [] pos) (TEof X.g Wx eDctL) := by
  refine peImp pe_dnewK fun σ H Q ⟨w, E, S, a, p⟩ => fun q hq => ?_
  rw [← a.hp] at hq ⊢
  exact p (.ref q) (w.add q (.dK [])) (add_ext hq) (add_good a.good hq) ⟨q, rfl, by rw [a.sto.1]; simp⟩ (add_store a.good hq a.sto ⟨[], upd_same, rfl, rfl⟩)
/-! three names at once -/
theorem ds_par3 {i j l : Nat} {x y z : Str} {a b c : Expr} {ma : MA} {px py pz pt : Pos} {kt k2 pt2} (hc : X.calm = true) (hN : X.N.Nodup) (hi : X.N[i]? = some x) (hj : X.N[j]? = some y) (hl : X.N[l]? = some z) (hij : i ≠ j) (hil : i ≠ l) (hjl : j ≠ l)
    (hx : X.env.scope.names.lookup x = some .local) (hy : X.env.scope.names.lookup y = some .local) (hz : X.env.scope.names.lookup z = some .local) (ha : PA X [a, b, c] (TAof X.g Wx ma))
    (hw : swappedStores [.Tuple [.Name x px, .Name y py, .Name z pz] kt pt] (.Tuple [a, b, c] k2 pt2) X.env = pure (some [x, y, z]))
    (hs : swapsWithSole [.Tuple [.Name x px, .Name y py, .Name z pz] kt pt] (.Tuple [a, b, c] k2 pt2) pos.line X.env = pure false := by rfl) :
    PS X (.Assign [.Tuple [.Name x px, .Name y py, .Name z pz] kt pt] (.Tuple [a, b, c] k2 pt2) pos) (TSof X.g Wx (sPar [i, j, l] ma)) := by
  refine ⟨fun pins s σ H D I h => ?_⟩
  obtain ⟨w, E, S, at_, p⟩ := h
  rw [exec_Assign_arm]
  refine wpAny_bind (wpAny_standAt ?_)
  rw [hs]
  refine wpAny_bind (wpAny_pure ?_)
  rw [if_neg (by decide)]
  have hA : TAof X.g Wx ma σ H fun xs H1 => ∃ w1 ds S1, At X.g w1 E σ H1 S1 ∧ Ext w w1 ∧ RDs X.g w1 ds xs ∧ PO_ X.g Wx D w1 (match Tg.binds ([i, j, l].map .nm) ds E with | some E1 => .nx E1 S1 | none => .bad) :=
    ⟨w, E, S, at_, PO_.abind (k := fun ds S1 => match Tg.binds ([i, j, l].map .nm) ds E with | some E1 => .nx E1 S1 | none => .bad) at_.good at_.env p⟩
  refine wpAny_bind (Tuple_ (thn (ha.run _ pins s σ H _ I hA) fun us s1 ⟨vs, H1, I1, r1, q1⟩ => ?_))
  obtain ⟨w1, ds, S1, a1, x1, rd, p1⟩ := q1
  match ds, rd, p1 with
  | [d1, d2, d3], rd, p1 =>
    obtain ⟨v1, r, rfl, e1, rd⟩ := rd
    obtain ⟨v2, v3, rfl, e2, e3⟩ := rd.two'
    obtain ⟨u1, u2, u3, rfl, rv1, rv2, rv3⟩ : ∃ u1 u2 u3, us = [u1, u2, u3] ∧ RelV v1 u1 ∧ RelV v2 u2 ∧ RelV v3 u3 := by
      cases r1 with
      | cons p q =>
        cases q with
        | cons p' q' =>
          cases q' with
          | cons p'' q'' =>
            cases q''
            exact ⟨_, _, _, rfl, p, p', p''⟩
    refine wpAny_newObj_type ?_ (by show 3 ≤ sizeLine; decide)
    have I2 : Inv X pins σ H1 { s1 with heap := s1.heap.push { cls := .type "tuple", data := .seq [u1, u2, u3].toArray } } := I1.kept (t' := s1.toks) fun b o e => Heap.get?_push_of_some _ e
    rw [hw]
    refine wpAny_bind (wpAny_pure ?_)
    show wpAny (model X.prog X.w) X.A (do rule "assign.swapped-stores"; let items ← unpackItems (.ref s1.heap.objs.size) 3 none; assignInOrder [fun v => bindName X.env z v, fun v => bindName X.env y v, fun v => bindName X.env x v] items.reverse; pure Flow.next) _ _ _
    refine wpAny_bind (wpAny_rule (wpAny_bind (unpackItems_tuple (items := #[u1, u2, u3]) (I.ok.hd hc) (IsTup.new s1.heap _) fun h' hx' => ?_)))
    have I3 := I2.kept (h' := h') (t' := s1.toks) fun b o e => hx' b o (Nat.ne_of_lt (Heap.lt_size e)) e
    show wpAny _ _ (assignInOrder [fun v => bindName X.env z v, fun v => bindName X.env y v, fun v => bindName X.env x v] [u3, u2, u1] >>= fun _ => pure Flow.next) _ _ _
    refine wpAny_bind (assignInOrder_cons (wpAny_bindName (store_ok I3 hN hl (.inl hz) rv3 (fun s2 I4 => ?_) (.inr hz))))
    refine assignInOrder_cons (wpAny_bindName (store_ok I4 hN hj (.inl hy) rv2 (fun s3 I5 => ?_) (.inr hy)))
    refine assignInOrder_cons (wpAny_bindName (store_ok I5 hN hi (.inl hx) rv1 (fun s4 I6 => assignInOrder_nil (wpAny_pure ?_)) (.inr hx)))
    have es : ((σ.set l (some v3)).set j (some v2)).set i (some v1) = ((σ.set i (some v1)).set j (some v2)).set l (some v3) := by
      rw [List.set_comm _ _ (Ne.symm hij), List.set_comm _ _ (Ne.symm hil), List.set_comm _ _ (Ne.symm hjl)]
    rw [es] at I6
    have := p1 _ w1 (Ext.refl w1) a1.good (((a1.env.set e1).set e2).set e3) a1.sto
    rw [a1.hp] at this
    exact ⟨_, H1, I6, this⟩
  | [], _, p1 => exact p1.elim
  | [_], _, p1 => exact p1.elim
  | [_, _], _, p1 => exact p1.elim
  | _ :: _ :: _ :: _ :: _, _, p1 => exact p1.elim
end
end J
set_option Elab.async false
set_option linter.all false
set_option maxRecDepth 100000
set_option maxHeartbeats 1000000
namespace J
open PySem PySem.Spec PyProof.Rows L2
theorem Ctx.u65 {X : Cx} {Wx : WX} {k : Nat} (c : Ctx X Wx k) : X.A.units + 65 < cLine := by have := c.hr.un; omega
section
variable {X : Cx} {Wx : WX} {pos : Pos}
theorem jo_mulL : OpR X (binaryOp .Mult) (opOf X.g oMulL) := by
  intro pins s σ H x y v u Q I rx ry ⟨Wx, σ', w, S, d, e, hH, G, rs, r1, r2, p⟩
  subst hH
  unfold oMulL oMul at p
  split at p
  · split at p <;> exact p.elim
  · split at p <;> exact p.elim
  · split at p
    · rename_i xs e1
      split at p
      · rename_i h
        cases r2
        obtain ⟨a, vs, rfl, ta, ra⟩ := r1.lstAt rs e1
        exact op_rep pins s σ _ _ _ v u Q I rx ry ⟨a, _, vs, rfl, rfl, ta, h.1, h.2.1, by rw [ra.length, ← sl_eq]; exact h.2.2, new_loc p G rs (ra.rep _)⟩
      · exact p.elim
    · exact p.elim
  · exact p.elim
theorem dt_isN {a : Expr} {ma : ME} {j : Nat} {pos' : Pos} (ha : PE X a (TEof X.g Wx ma)) : PT X (.Compare a [.Is] [.Constant .none j pos'] pos) (TTof X.g Wx (tV (eUn oIsN ma))) := by
  refine ptImp (pt_cmp (pc_isN ha) rfl) fun σ H Q hh => ?_
  obtain ⟨w, E, S, a, p⟩ := tvUse hh
  refine ⟨w, E, S, a, PR.imp (PR.bind a.good a.env p) fun x H1 ⟨w1, d, S1, a1, x1, r1, p1⟩ => ?_⟩
  have q := putSame p1 a1.good a1.sto rfl
  rw [a1.hp] at q
  rw [isNon_of r1]
  exact q
end
end J
set_option Elab.async false
set_option linter.all false
set_option maxRecDepth 100000
set_option maxHeartbeats 1000000
namespace J
open PySem PySem.Spec PyProof.Rows L2
section
variable {X : Cx} {Wx : WX} {pos : Pos}
theorem dss_never {sts : List Stmt} : PSs X sts (TSof X.g Wx sNever) := pssImp pss_never fun D σ H ⟨w, E, S, a, p⟩ => p
/-! max and min of ints -/
theorem foldMin_mem : ∀ (ns : List Int) (n : Int), ns.foldl (fun a y => if y < a then y else a) n ∈ n :: ns
  | [], n => by simp
  | m :: ns, n => by
    rw [List.foldl_cons]
    have := foldMin_mem ns (if m < n then m else n)
    rcases List.mem_cons.mp this with h | h
    · rw [h]; split <;> simp
    · exact List.mem_cons_of_mem _ (List.mem_cons_of_mem _ h)
theorem foldMin_le : ∀ (ns : List Int) (n : Int) (y : Int), y ∈ n :: ns → ns.foldl (fun a y => if y < a then y else a) n ≤ y
  | [], n, y, h => by simp at h; subst h; exact Int.le_refl _
  | m :: ns, n, y, h => by
    rw [List.foldl_cons]
    rcases List.mem_cons.mp h with rfl | h
    · refine Int.le_trans (foldMin_le ns _ _ List.mem_cons_self) ?_
      split <;> omega
    · rcases List.mem_cons.mp h with rfl | h
      · refine Int.le_trans (foldMin_le ns _ _ List.mem_cons_self) ?_
        split <;> omega
      · exact foldMin_le ns _ _ (List.mem_cons_of_mem _ h)
theorem hold_ints {h : Heap} : ∀ {ns : List Int} {us : List Value}, Vals (ns.map V.int) us → PySem.W.HoldAll h us ns
  | [], _, .nil => PySem.W.HoldAll.nil
  | n :: ns, _, .cons r rs => by
    obtain ⟨t, rfl⟩ := r
    exact PySem.W.HoldAll.cons (PySem.W.holds_int n t) (hold_ints rs)
theorem crT_min (hc : X.calm = true) (hu : X.A.units + 1 < cLine) : CallR X (.builtin "min") (fun vs H Q => ∃ (a : Addr) (n : Int) (ns : List Int), vs = [V.ref a] ∧ SqT X.K H a ((n :: ns).map V.int) ∧ Q (.int (ns.foldl (fun a y => if y < a then y else a) n)) H) := by
  intro pins s σ H vs us Q I r h
  obtain ⟨a, n, ns, rfl, hs, q⟩ := h
  obtain ⟨its, rv, pl, hz⟩ := I.tuple hs
  rw [Vals.ref1 r]
  refine PySem.W.min_tuple_datum (α := Int) (x := n) (xs := ns) (I.ok.hd hc) pl (hold_ints rv) (by simpa [PySem.W.Datum.depth] using hu) fun i v h' tk hi hv hk => ?_
  obtain ⟨t, rfl⟩ := PySem.W.int_of_holds hv
  refine ⟨.int _, H, I.kept hk, ⟨t, rfl⟩, ?_⟩
  have e : PySem.W.minOf n ns = ns.foldl (fun a y => if y < a then y else a) n := by
    unfold PySem.W.minOf
    congr 1
    funext a y
    show (if decide (y < a) = true then y else a) = _
    by_cases h : y < a <;> simp [h]
  rw [e]
  exact q
theorem jc_min1 (hc : X.calm = true) (hu : X.A.units + 1 < cLine) : CallR X (.builtin "min") (argOf X.g bMin1) := by
  intro pins s σ H xs us Q I r ⟨Wx, σ', w, S, ds, hH, G, rs, r1, p⟩
  subst hH
  unfold bMin1 at p
  split at p
  · obtain ⟨v, rfl, r2⟩ := r1.one'
    split at p
    · rename_i xs e
      split at p
      · rename_i n ns e2
        obtain ⟨a, vs, rfl, t, r3⟩ := r2.seq rs e
        have := ints_vals r3 e2
        subst this
        rcases t with t | t
        · refine cr_min hc pins s σ _ _ us Q I r ⟨a, n :: ns, rfl, t, by simp, fun m h1 h2 => ?_⟩
          have e3 : m = ns.foldl (fun a y => if y < a then y else a) n := Int.le_antisymm (h2 _ (foldMin_mem ns n)) (foldMin_le ns n m h1)
          subst e3
          exact putSame p G rs rfl
        · exact crT_min hc hu pins s σ _ _ us Q I r ⟨a, n, ns, rfl, t, putSame p G rs rfl⟩
      · exact p.elim
    · exact p.elim
  · exact p.elim
/-! list(range(n)) -/
theorem ints_rg {g : G} {w : W} : ∀ (n : Nat) (f : Nat → Int), RDs g w ((List.range n).map fun i => D.int (f i)) ((List.range n).map fun i => V.int (f i)) := by
  intro n
  induction n with
  | zero => intro f; rfl
  | succ n ih =>
    intro f
    rw [List.range_succ, List.map_append, List.map_append]
    exact (ih f).append (RDs.one rfl)
theorem de_lstRgL {a : Expr} {ma : ME} {p p2 pos2 : Pos} (hc : X.calm = true) (hg : Gl X "list") (hm : X.mg "list" = none) (hg2 : Gl X "range") (hm2 : X.mg "range" = none) (ha : PE X a (TEof X.g Wx ma))
    (na : starEach [a] X.env = (false, eval a X.env) :: starEach [] X.env := by rfl) (na2 : starEach [.Call (.Name "range" p2) [a] [] pos2] X.env = (false, eval (.Call (.Name "range" p2) [a] [] pos2) X.env) :: starEach [] X.env := by rfl) :
    PE X (.Call (.Name "list" p) [.Call (.Name "range" p2) [a] [] pos2] [] pos) (TEof X.g Wx (eLstRgL ma)) := by
  refine peImp (pe_listRg hc hg hm (prg_1 hg2 hm2 ha na) na2) fun σ H Q ⟨w, E, S, a, p⟩ => ?_
  refine ⟨w, E, S, a, PR.imp (PR.bind a.good a.env p) fun x H1 ⟨w1, d, S1, a1, x1, r1, p1⟩ => ?_⟩
  split at p1
  · rename_i n
    split at p1
    · rename_i hn
      cases r1
      refine ⟨n, rfl, ⟨by omega, by omega, by omega, ?_, ?_⟩, fun q hq => ?_⟩
      · have := hn.2; unfold SL at this; omega
      · have := hn.2; unfold SL at this; omega
      · rw [← a1.hp] at hq ⊢
        refine new_loc p1 a1.good a1.sto ?_ q hq
        have := ints_rg (g := X.g) (w := w1) n.toNat fun i => 0 + (i : Int)
        unfold rgV
        rw [Int.sub_zero]
        simpa using this
    · exact p1.elim
  · exact p1.elim
end
end J
set_option Elab.async false
set_option linter.all false
set_option maxRecDepth 100000
set_option maxHeartbeats 1000000
namespace J
open PySem PySem.Spec PyProof.Rows L2
section
variable {X : Cx} {Wx : WX} {pos : Pos}
/-! any and all -/
theorem scals_len : ∀ {ds : List D} {bs : List Bool}, scals ds = some bs → bs.length = ds.length
  | [], bs, h => by cases h; rfl
  | d :: ds, bs, h => by
    simp only [scals, Option.bind_eq_some_iff, Option.map_eq_some_iff] at h
    obtain ⟨b, _, bs', h2, rfl⟩ := h
    simp [scals_len h2]
theorem scals_get {g : G} {w : W} : ∀ {ds : List D} {vs : List V} {us : List Value} {bs : List Bool}, RDs g w ds vs → Vals vs us → scals ds = some bs → ∀ (i : Nat) (u : Value), us[i]? = some u → ∃ b, bs[i]? = some b ∧ ((u = .bool b) ∨ ∃ n t, u = .int n t ∧ b = (n != 0))
  | [], _, us, bs, r, rv, h, i, u, e => by
    cases r
    cases rv
    simp at e
  | d :: ds, vs, us, bs, r, rv, h, i, u, e => by
    obtain ⟨v, vs', rfl, r1, r2⟩ := r
    cases rv with
    | cons q qs =>
      simp only [scals, Option.bind_eq_some_iff, Option.map_eq_some_iff] at h
      obtain ⟨b, h1, bs', h2, rfl⟩ := h
      cases i with
      | zero =>
        simp at e
        subst e
        refine ⟨b, rfl, ?_⟩
        cases d with
        | bl c => cases r1; cases h1; cases q; exact .inl rfl
        | int n =>
          cases r1
          cases h1
          obtain ⟨t, rfl⟩ := q
          exact .inr ⟨n, t, rfl, rfl⟩
        | _ => simp [scal] at h1
      | succ i =>
        obtain ⟨c, h3, h4⟩ := scals_get r2 qs h2 i u (by simpa using e)
        exact ⟨c, by simpa using h3, h4⟩
theorem truth_scals {prog : Program} {w : World} {A : Around} {bs : List Bool} {its : List Value} (e : ∀ (i : Nat) (u : Value), its[i]? = some u → ∃ b, bs[i]? = some b ∧ ((u = .bool b) ∨ ∃ n t, u = .int n t ∧ b = (n != 0))) :
    TruthOf prog w A (fun i v => its.toArray[i]? = some v) (fun i => bs.getD i false) := fun i v s Q E hv hq => by
  have hv' : its[i]? = some v := by simpa using hv
  obtain ⟨b, hb, h⟩ := e i v hv'
  have hg : bs.getD i false = b := by rw [List.getD_eq_getElem?_getD, hb] <;> rfl
  have hq' : Q (bs.getD i false) s := hq
  rw [hg] at hq'
  rcases h with rfl | ⟨n, t, rfl, rfl⟩
  · exact wpAny_truthy_bool hq'
  · exact PySem.P.truthy_int hq'
theorem jc_any (hc : X.calm = true) : CallR X (.builtin "any") (argOf X.g bAny) := by
  intro pins s σ H xs us Q I r ⟨Wx, σ', w, S, ds, hH, G, rs, r1, p⟩
  subst hH
  unfold bAny at p
  split at p
  · obtain ⟨v, rfl, r2⟩ := r1.one'
    split at p
    · rename_i xs e
      split at p
      · rename_i bs e2
        obtain ⟨a, vs, rfl, t, r3⟩ := r2.lstAt rs e
        obtain ⟨its, rv, hl, _⟩ := I.list (SqL.of t)
        rw [Vals.ref1 r]
        have hlen : its.length = bs.length := by rw [← rv.length, r3.length, scals_len e2]
        refine call_any_walk (iter_any hl.isList fun s₂ e2' st hne => ?_)
        subst e2'
        refine ⟨_, _, _, _, _, _, _, rfl, Walks.list (A := X.A.in1) (I.ok.hd hc) _ a hne its.toArray, st, truth_scals (scals_get r3 rv e2), fun h' tk hk => ?_⟩
        refine ⟨.bl (bs.any id), w.H, I.kept fun b o eo => hk b o (fun hmem => ?_) (Heap.get?_push_of_some _ eo), ?_, putSame p G rs rfl⟩
        · rcases List.mem_cons.mp hmem with e1 | hmem
          · exact absurd (e1 ▸ Heap.lt_size eo) (Nat.lt_irrefl _)
          · cases hmem
        · show Value.bool _ = Value.bool _
          rw [← L2.any_range, List.size_toArray, hlen]
      · exact p.elim
    · exact p.elim
  · exact p.elim
/-! {k: v} -/
/-! try: .. (no exception comes), x, o[i] = e -/
end
end J
set_option Elab.async false
set_option linter.all false
set_option maxRecDepth 100000
set_option maxHeartbeats 1000000
namespace J
open PySem PySem.Spec PyProof.Rows L2
/-! xs[::-1] of a list or tuple -/
section
variable {prog : Program} {w : World} {A : Around} {E : Value → Shared → Prop} {s : Shared}
end
section
variable {X : Cx} {Wx : WX} {pos : Pos}
def tRevA (K : PySem.W.Frag) (te : TE) : TE := fun σ H Q => te σ H fun x H1 => ∃ a xs, x = .ref a ∧ ((SqL K H1 a xs ∧ ∀ p, H1 p = none → Q (.ref p) (upd H1 p (.lst xs.reverse))) ∨ (SqT K H1 a xs ∧ ∀ p, H1 p = none → Q (.ref p) (upd H1 p (.tup xs.reverse))))
/-! sorted of ints, of a tuple too -/
end
section
variable {prog : Program} {w : World} {A : Around} {E : Value → Shared → Prop} {s : Shared}
open SrtO in
end
section
variable {X : Cx} {Wx : WX} {pos : Pos}
/-! bool(x) -/
/-! t.count(k), ints -/
/-! t * 0 -/
end
end J
set_option Elab.async false
set_option linter.all false
set_option maxRecDepth 100000
set_option maxHeartbeats 1000000
namespace J
open PySem PySem.Spec PyProof.Rows L2
section
variable {X : Cx} {Wx : WX} {pos : Pos}
/-! min(d) -/
/-! d.get(k, x) -/
/-! is True -/
/-! tuple(range(n)) -/
end
end J
set_option Elab.async false
set_option linter.all false
set_option maxRecDepth 100000
set_option maxHeartbeats 1000000
namespace J
open PySem PySem.Spec PyProof.Rows L2
/-! for .. in d.items() -/
theorem kD_rd {g : G} {w : W} (k : Ky) : RD g w (kD k) (kV k) := by
  cases k <;> rfl
section
variable {X : Cx} {Wx : WX}
def tFz (te : TE) : TE := fun σ H Q => te σ H fun x H1 => ∃ d kvs, x = .ref d ∧ Rd H1 d (.dK kvs) ∧ (∀ o, H1 d = some (.dK kvs) → Q x (upd H1 d (.frz o (.dK kvs)))) ∧ ∀ o, H1 d = some (.frz o (.dK kvs)) → Q x H1
/-! x *= y -/
theorem ji_mul : PIp X .Mult (opOf X.g iMul) := by
  intro pins s σ H x y v u Q I rx ry ⟨Wx, σ', w, S, d, e, hH, G, rs, r1, r2, p⟩
  subst hH
  unfold iMul at p
  split at p
  · split at p
    · rename_i h
      cases r1
      cases r2
      exact iop_mul pins s σ _ _ _ v u Q I rx ry ⟨_, _, rfl, rfl, h.imp smallI_iff.mp smallI_iff.mp, putSame p G rs rfl⟩
    · exact p.elim
  · exact p.elim
/-! gcd, lcm -/
end
end J
set_option Elab.async false
set_option linter.all false
set_option maxRecDepth 100000
set_option maxHeartbeats 1000000
namespace J
open PySem PySem.Spec PyProof.Rows L2
section
variable {X : Cx} {Wx : WX} {pos : Pos}
/-! is not True -/
/-! min(xs, default=None) -/
/-! any(xs), of a tuple too -/
end
end J
set_option Elab.async false
set_option linter.all false
set_option maxRecDepth 100000
set_option maxHeartbeats 1000000
namespace J
open PySem PySem.Spec PyProof.Rows L2
/-! dicts whose keys are tuples -/
theorem dctT_some {S : List D} {d : D} {ks : List (List Ky)} {xs : List D} (h : dctT S d = some (ks, xs)) : d = .dcT ks xs ∨ ∃ n, d = .loc n ∧ S[n]? = some (.dcT ks xs) := by
  unfold dctT at h
  split at h
  · cases h
    exact .inl rfl
  · split at h
    · rename_i n _ _ _ e
      cases h
      exact .inr ⟨_, rfl, e⟩
    · cases h
  · cases h
theorem RD.dctTAt {g : G} {w : W} {S : List D} {d : D} {v : V} {ks : List (List Ky)} {xs : List D} (rs : RS g w S) (r : RD g w d v) (h : dctT S d = some (ks, xs)) : ∃ p vs, v = .ref p ∧ Rd w.H p (.dT (ks.zip vs)) ∧ ks.length = vs.length ∧ RDs g w xs vs := by
  rcases dctT_some h with rfl | ⟨n, rfl, e⟩
  · obtain ⟨p, vs, rfl, t, l, _, r⟩ := r
    exact ⟨p, vs, rfl, t, l, r⟩
  · obtain ⟨p, rfl, hp⟩ := r
    obtain ⟨vs, h1, l, h2⟩ := rs.obj hp e
    exact ⟨p, vs, rfl, .inl h1, l, h2⟩
theorem valT_zip {g : G} {w : W} : ∀ {ks : List (List Ky)} {ds : List D} {vs : List V} (k : List Ky), ks.length = vs.length → RDs g w ds vs →
    (∀ d, getT ks ds k = some d → ∃ v, valV (ks.zip vs) k = some v ∧ RD g w d v) ∧ (getT ks ds k = none → valV (ks.zip vs) k = none)
  | [], ds, vs, k, l, r => ⟨fun d h => by simp [getT] at h, fun h => rfl⟩
  | q :: ks, [], vs, k, l, r => by
    have := r.length
    rw [← l] at this
    simp at this
  | q :: ks, e :: ds, _, k, l, r => by
    obtain ⟨v, vs, rfl, r1, r2⟩ := r
    have ih := valT_zip (ks := ks) (ds := ds) (vs := vs) k (by simpa using l) r2
    simp only [getT]
    rw [List.zip_cons_cons]
    by_cases hq : q = k
    · rw [if_pos hq]
      exact ⟨fun d h => by cases h; exact ⟨v, valV_pos hq, r1⟩, fun h => by cases h⟩
    · rw [if_neg hq, valV_neg hq]
      exact ih
section
variable {X : Cx} {Wx : WX} {pos : Pos}
theorem de_dctTL : PE X (.Dict [] [] pos) (TEof X.g Wx eDctTL) := by
  refine peImp pe_dnewT fun σ H Q ⟨w, E, S, a, p⟩ => fun q hq => ?_
  rw [← a.hp] at hq ⊢
  exact p (.ref q) (w.add q (.dT [])) (add_ext hq) (add_good a.good hq) ⟨q, rfl, by rw [a.sto.1]; simp⟩ (add_store a.good hq a.sto ⟨[], upd_same, rfl, rfl⟩)
/-! {k: v} -/
def tDispT (tk tv : TE) : TE := fun σ H Q => ∀ p, H p = none → tk σ (upd H p (.dT [])) fun x H1 => tv σ H1 fun y H2 => H2 p = some (.dT []) ∧ ∃ (k : List Key) (b : Addr), x = .ref b ∧ H2 b = some (.tup (k.map kV)) ∧ Q (.ref p) (upd H2 p (.dT [(k, y)]))
theorem pe_dispT {k v : Expr} {tk tv : TE} (hu : X.A.units < cLine) (hk : PE X k tk) (hv : PE X v tv) : PE X (.Dict [some k] [v] pos) (tDispT tk tv) := by
  refine ⟨fun pins s σ H Q I q => ?_⟩
  have hn := I.hok.fresh (Nat.le_refl s.heap.objs.size)
  have I1 := I.laid (a := s.heap.objs.size) (o := .dT []) (h' := s.heap.push { cls := .type "dict", data := .dict #[] }) (t' := s.toks) (fun _ _ q => Heap.get?_push_of_some _ q) (Nat.le_refl _) (dt_empty s.heap I.big)
  rw [arm_eval_Dict, zip_pairTrees [some k] [v] X.env pos rfl rfl, dictDisplay_pairs (pairTrees [some k] [v] X.env pos) (by simp [pairTrees]) (by simp [pairTrees])]
  refine wpAny_bind (wpAny_standAt (wpAny_bind ?_))
  unfold subDict
  refine wpAny_bind (wpAny_alloc ?_)
  refine wpAny_bind (wpAny_holding ?_)
  rw [if_pos (by simp [pairTrees])]
  refine wpAny_bind (pairTrees_cons_walk (thn (hk.run pins _ σ _ _ I1 (q _ hn)) fun u s2 ⟨x, H1, I2, rx, q1⟩ => thn (hv.run pins s2 σ H1 _ I2 q1) fun u2 s3 ⟨y, H2, I3, ry, q2⟩ => pairTrees_nil_walk ?_))
  obtain ⟨e, ks, b, rfl, hb, q3⟩ := q2
  cases (show u = Value.ref b from rx)
  refine wpAny_holding ?_
  rw [List.forIn_cons]
  obtain ⟨z, hd, xs, rel, dd⟩ := dt_of I3.hok e
  cases rel
  refine wpAny_bind ?_
  show wpAny _ _ ((dictSet s.heap.objs.size (Value.ref b) u2 >>= fun _ => pure (ForInStep.yield PUnit.unit)) >>= _) _ _ _
  refine wpAny_bind (wpAny_bind (wpAny_dictSet_heap (hsz := by simp) (knd := tupleKind (mixKind X.prog X.w)) hu (key_of I3.hok hb) dd fun h' dd' hs => wpAny_pure ?_))
  simp only [List.forIn_nil]
  refine wpAny_pure (wpAny_pure (wpAny_pure (wpAny_pure ?_)))
  obtain ⟨qo, es, ep, hq, h2, h3, h4, _, h5⟩ := dd'
  have hl : (putK ([] : List (List Key × V)) ks y).length ≤ sizeLine := by rw [sizeLine_eq]; simp [putK]
  refine ⟨.ref s.heap.objs.size, _, d_write (ob := .dT (putK [] ks y)) I3 (by rw [e]; exact True.intro) hs ⟨qo, hq⟩ ⟨hl, hd, _, ((KT.put (H := H2) (kvs := []) (xs := []) .nil ks hb ry).keeps fun c ys ec => ?_), qo, es, ep, hq, h2, h3, h4, h5⟩, rfl, q3⟩
  rw [upd_ne (ne_of ec e (fun z => nomatch z))]
  exact ec
theorem de_dispT {k v : Expr} {mk mv : ME} (hu : X.A.units + 1 < cLine) (hk : PE X k (TEof X.g Wx mk)) (hv : PE X v (TEof X.g Wx mv)) : PE X (.Dict [some k] [v] pos) (TEof X.g Wx (eDispT mk mv)) := by
  refine peImp (pe_dispT (by omega) hk hv) fun σ H Q ⟨w, E, S, a, p⟩ => ?_
  intro q hq
  have hq' : w.H q = none := by rw [a.hp]; exact hq
  have x0 := hide_ext (o := .dT []) hq'
  have G0 := hide_good (o := .dT []) a.good hq'
  have nD : q ∉ w.rhA := fun z => a.good.al q (a.good.sub q z) hq'
  have a0 : At X.g (w.hide q (.dT [])) E σ (upd H q (.dT [])) S := ⟨by rw [← a.hp], G0, a.env.mono a.good x0, a.sto.keep a.good x0 rfl (fun b hb => upd_ne fun e => nD (by rw [← e]; exact hb))⟩
  have p0 : PR X.g Wx σ w (RD X.g) Q ((mk E S).bind fun x S1 => (mv E S1).bind fun y S2 => kDispT x y S2) := p
  refine ⟨w.hide q (.dT []), E, S, a0, ?_⟩
  cases hmk : mk E S with
  | bad => rw [hmk] at p0; exact p0.elim
  | exc c fs S1 => rw [hmk] at p0; exact PR.at p0 x0
  | ok d S1 =>
    rw [hmk] at p0
    intro x w1 x1 G1 r1 rs1
    have a1 : At X.g w1 E σ w1.H S1 := ⟨rfl, G1, a0.env.mono G0 x1, rs1⟩
    refine ⟨w1, E, S1, a1, ?_⟩
    simp only [bind_ok] at p0
    cases hmv : mv E S1 with
    | bad => rw [hmv] at p0; exact p0.elim
    | exc c fs S2 => rw [hmv] at p0; exact PR.at p0 (x0.trans x1)
    | ok d2 S2 =>
      rw [hmv] at p0
      intro y w2 x2 G2 r2 rs2
      simp only [bind_ok, kDispT] at p0
      split at p0
      · rename_i ky hky
        have x12 := x1.trans x2
        have x := x0.trans x12
        have hq2 : w2.H q = some (.dT []) := x12.kpT upd_same nD (.inr rfl)
        have hth : w2.thA q := x12.th1 q (.inr rfl)
        have nD2 : q ∉ w2.rhA := fun z => by
          obtain ⟨τ, e5, f5⟩ := x12.rho
          rw [e5] at z
          rcases List.mem_append.mp z with z | z
          · exact nD z
          · have := f5 q z
            rw [show (w.hide q (.dT [])).H q = some (.dT []) from upd_same] at this
            cases this
        obtain ⟨b, rfl, tb, nb⟩ := kyT_of (r1.mono G1 x2) hky
        refine ⟨hq2, ky, b, rfl, tb, ?_⟩
        have kw : Weak w2 { w2 with H := upd w2.H q (.dT [(ky, y)]) } := weak_upd hth
        have rs2' : RS X.g { w2 with H := upd w2.H q (.dT [(ky, y)]) } S2 := rs2.weakW kw rfl (fun b hb => upd_ne fun e => nD2 (by rw [← e]; exact hb))
        have r2' : RD X.g { w2 with H := upd w2.H q (.dT [(ky, y)]) } d2 y := RD.weakW kw (fun _ _ h => h) _ _ r2
        have k3 : Weak { w2 with H := upd w2.H q (.dT [(ky, y)]) } ⟨fun a => w2.thA a ∧ a ≠ q, w2.rhA, upd w2.H q (.dT [(ky, y)])⟩ := weak_take rfl fun _ z => z.1
        refine p0 (.ref q) ⟨fun a => w2.thA a ∧ a ≠ q, w2.rhA, upd w2.H q (.dT [(ky, y)])⟩ ⟨x.rho, fun c h => ⟨x.th1 c h, fun z => a.good.al c h (by rw [z]; exact hq')⟩, fun c h => x.th2 c h.1, fun b o hb nb => ?_, fun b hb => ?_⟩
          ⟨G2.nd, fun a h => ⟨G2.sub a h, fun z => nD2 (by rw [← z]; exact h)⟩, fun b hb => ?_, fun b hb xs => ?_⟩ ⟨q, [y], rfl, .inl upd_same, rfl, fun z => z.2 rfl, RDs.one (RD.weakW k3 (fun _ _ h => h) _ _ r2')⟩ (rs2'.weakW k3 rfl fun _ _ => rfl)
        · have hne : b ≠ q := fun e => by rw [e, hq'] at hb; cases hb
          rcases x.kp b o hb nb with q' | ⟨nt, od, kvs, eo, q'⟩
          · exact .inl ((upd_ne hne).trans q')
          · exact .inr ⟨nt, od, kvs, eo, (upd_ne hne).trans q'⟩
        · show upd w2.H q _ b ≠ none
          by_cases e : b = q
          · rw [e, upd_same]; simp
          · rw [upd_ne e]; exact x.al b hb
        · show upd w2.H q _ b ≠ none
          by_cases e : b = q
          · rw [e, upd_same]; simp
          · rw [upd_ne e]; exact G2.al b hb.1
        · show upd w2.H q _ b ≠ some (.tup xs)
          rw [upd_ne hb.2]
          exact G2.nt b hb.1 xs
      · exact p0.elim
/-! d.get(k, x) -/
theorem de_get2T {o e f : Expr} {apos cpos : Pos} {mo ma mb : ME} (hu : X.A.units + 1 < cLine) (ho : PE X o (TEof X.g Wx mo)) (he : PE X e (TEof X.g Wx ma)) (hf : PE X f (TEof X.g Wx mb))
    (h1 : attributeBase o "get" X.env (eval o X.env) = eval o X.env := by rfl)
    (h2 : ((backTo cpos (starEach [e, f] X.env)).all (fun x => !x.1) && (backToKw cpos (keywordEach [] X.env)).all (fun x => x.1.isSome)
    && decide (([e, f] : List Expr).length + ([] : List Keyword).length + (if ([] : List Keyword).isEmpty then 0 else 1) < 30)) = true := by rfl)
    (h3 : (apos.endLine == cpos.line) = true := by rfl) (h4 : backTo cpos (starEach [e, f] X.env) = [(false, eval e X.env), (false, eval f X.env)] := by rfl) :
    PE X (.Call (.Attribute o "get" apos) [e, f] [] cpos) (TEof X.g Wx (eGet2T mo ma mb)) := by
  refine peImp (pe_dget2 hu ho he hf ⟨h1, h2, h3, h4⟩) fun σ H Q ⟨w, E, S, a, p⟩ => ?_
  refine ⟨w, E, S, a, PR.imp (PR.bind a.good a.env p) fun x H1 ⟨w1, d, S1, a1, x1, r1, p1⟩ => ?_⟩
  split at p1
  · rename_i hs
    obtain ⟨⟨ks, xs⟩, e0⟩ := Option.isSome_iff_exists.mp hs
    obtain ⟨b, vs, rfl, t, l, r3⟩ := r1.dctTAt a1.sto e0
    refine ⟨b, rfl, .inr ⟨_, by rw [← a1.hp]; exact t⟩, w1, E, S1, a1, PR.imp (PR.bind a1.good a1.env p1) fun y H2 ⟨w2, dy, S2, a2, x2, ry, p2⟩ => ?_⟩
    refine ⟨w2, E, S2, a2, PR.imp (PR.bind a2.good a2.env p2) fun z H3 ⟨w3, dz, S3, a3, x3, rz, p3⟩ => ?_⟩
    split at p3
    · rename_i ks' ds' q e1 e2
      have r1' : RD X.g w3 d (.ref b) := RD.mono a1.good (x2.trans x3) d _ r1
      obtain ⟨b', vs', eb, t', l', r3'⟩ := r1'.dctTAt a3.sto e1
      cases eb
      obtain ⟨kb, rfl, tb, _⟩ := kyT_of (ry.mono a2.good x3) e2
      rw [← a3.hp]
      refine ⟨valV (ks'.zip vs') q, .inr ⟨_, q, kb, t', rfl, tb, rfl⟩, ?_⟩
      obtain ⟨z1, z2⟩ := valT_zip q l' r3'
      cases hg : getT ks' ds' q with
      | some dd =>
        rw [hg] at p3
        obtain ⟨vv, h5, h6⟩ := z1 dd hg
        rw [h5]
        exact putSame p3 a3.good a3.sto h6
      | none =>
        rw [hg] at p3
        rw [z2 hg]
        exact putSame p3 a3.good a3.sto rz
    · exact p3.elim
  · exact p1.elim
end
/-! for k, v in d.items() -/
theorem frzT2 {X : Cx} {pins : List (Addr × Obj)} {σ : L2.St} {H : Hp} {s : Shared} {d : Addr} {o : Obj} {kvs : List (List Key × V)} (I : Inv X pins σ H s) (h : H d = some (.frz o (.dT kvs))) :
    (d == sysModules) = false ∧ s.heap.get? d = some o ∧ o.ExactDict ∧ ∃ (es : Array DictEntry) (ep : Nat), o.data = .dict es ep ∧ es.size = kvs.length ∧
      ∀ (i : Nat) (k : List Key) (v : V), kvs[i]? = some (k, v) → ∃ (en : DictEntry) (q : Addr), es[i]? = some en ∧ en.key = .ref q ∧ H q = some (.tup (k.map kV)) ∧ RelV v en.val := by
  obtain ⟨hd, z, hs, xs, pr, o', es, ep, ho, hx, hdt, he, _⟩ := I.hok d _ h
  rw [hd] at ho
  cases ho
  refine ⟨hs, hd, hx, es, ep, hdt, ?_, fun i k v e => ?_⟩
  · have l1 : es.size = xs.length := size_of_entries he
    have l2 : kvs.length = xs.length := Paired.length pr
    omega
  · obtain ⟨b, hb, e1, e2, e3⟩ := paired_get pr e
    have q := entry_at he i
    rw [hb] at q
    exact ⟨_, b.2.1, q, rfl, e2, e3⟩
def ItiT (d : Addr) (o : Obj) (kvs : List (List Key × V)) : It :=
  ⟨fun i H => H d = some (.frz o (.dT kvs)) ∧ i < kvs.length, fun i H x H' => ∃ T k v q, kvs[i]? = some (k, v) ∧ x = .ref T ∧ H q = some (.tup (k.map kV)) ∧ H T = none ∧ H' = upd H T (.tup [.ref q, v]), fun i H => H d = some (.frz o (.dT kvs)) ∧ kvs.length ≤ i⟩
theorem turn_itemsT {P : Program} {w : World} {K : PySem.W.Frag} {d : Addr} {o : Obj} {es : Array DictEntry} {ep : Nat} {kvs : List (List Key × V)} {elts : List Expr} {kk : Nat} {tpos : Pos} (it : Addr) (hod : o.data = .dict es ep) :
    Turn P w K (.Tuple elts kk tpos) (ItiT d o kvs) [it] it (fun i h => ∃ ok ov, IsItemIter h it d i kvs.length ep ok ov) where
  mem := by simp
  obj := fun i h st b hb => by
    have e : b = it := by simpa using hb
    subst e
    obtain ⟨ok, ov, e⟩ := st
    exact ⟨_, e, fun v z => nomatch z⟩
  keep := fun i h h' st k => let ⟨ok, ov, e⟩ := st; ⟨ok, ov, k it (by simp) _ e⟩
  item := by
    intro X hP hw hK hc i pins s σ H E I hf st hg
    subst hP hw hK
    obtain ⟨hd, hi⟩ := hg
    obtain ⟨hs, hgd, hx, es', ep', hdt', hsz, ent⟩ := frzT2 I hd
    have hdt := hod
    obtain ⟨e1, e2⟩ := dict_ep hod hdt'
    rw [e1] at hsz ent
    obtain ⟨⟨k, v⟩, hkv⟩ : ∃ p, kvs[i]? = some p := ⟨kvs[i], List.getElem?_eq_getElem hi⟩
    obtain ⟨en, q, hen, hkey, hq, hv⟩ := ent i k v hkv
    obtain ⟨ok, ov, he⟩ := st
    have hlt : it < s.heap.objs.size := Heap.lt_size he
    have hi' : i < es.size := by rw [hsz]; exact hi
    have een : es[i] = en := by
      rw [Array.getElem?_eq_getElem hi'] at hen
      exact Option.some.inj hen
    rw [← hsz] at he
    refine DT.nextI (es := es) he ⟨o, hgd, hx, hdt⟩ hi' fun h' ho hT hz hk => ?_
    refine ⟨_, rfl, wpAny_letOwnedTupleGo_items (s := { s with heap := h' }) ho fun h'' he' sb => ?_⟩
    rw [een] at hT he'
    have hT2 : h''.get? s.heap.objs.size = some { cls := .type "tuple", data := .seq #[en.key, en.val] } := (sb.2 _ (Nat.ne_of_gt hlt)).trans hT
    have new : ObjOk X.prog X.w (upd H s.heap.objs.size (.tup [.ref q, v])) h'' s.heap.objs.size (.tup [.ref q, v]) :=
      ⟨by show 2 ≤ sizeLine; decide, [en.key, en.val], .cons hkey (.cons hv .nil), ⟨_, hT2, rfl, _, rfl⟩⟩
    have I1 : Inv X pins σ (upd H s.heap.objs.size (.tup [.ref q, v])) { s with heap := h'' } :=
      I.turnedNew (t' := s.toks) (ch := [it]) (fun b ob hb e => (sb.2 b (by simpa using hb)).trans (hk b ob (by simpa using hb) e)) hf (Nat.le_refl _) new
    refine ⟨.ref s.heap.objs.size, _, I1, rfl, ⟨_, k, v, q, hkv, rfl, hq, I.hok.fresh (Nat.le_refl _), rfl⟩, ⟨en.key, en.val, ?_⟩, fun b hb => ?_⟩
    · rw [← hsz]; exact he'
    · have e : b = it := by simpa using hb
      rw [e, upd_ne (Nat.ne_of_lt hlt)]
      exact (hf it (by simp)).1
  done := by
    intro X hP hw hK hc i pins s σ H E I hf st hg
    subst hP hw hK
    obtain ⟨hd, hi⟩ := hg
    obtain ⟨f0, f1, f2, f3, f4, f5⟩ := hf it (by simp)
    obtain ⟨hs, hgd, hx, es', ep', hdt', hsz, ent⟩ := frzT2 I hd
    have hdt := hod
    obtain ⟨e1, e2⟩ := dict_ep hod hdt'
    rw [e1] at hsz ent
    obtain ⟨ok, ov, he⟩ := st
    rw [← hsz] at he
    exact DT.endI (es := es) (I.ok.hd hc) he ⟨o, hgd, hx, hdt⟩ (by rw [hsz]; exact hi) fun h' eb => ⟨rfl, I.turned (t' := s.toks) (fun b ob hb e => eb b ob hb e) f0 f1 f3 f4 f5⟩
  self := fun A i s Q E st h => let ⟨_, _, e⟩ := st; PySem.W.kcp_self e h
def iItemsT' (td : TE) : TI := fun σ H R => td σ H fun x H1 => ∃ d o kvs, x = .ref d ∧ H1 d = some (.frz o (.dT kvs)) ∧ R (ItiT d o kvs) H1
theorem pi_itemsT {X : Cx} {e : Expr} {td : TE} {apos cpos : Pos} {elts : List Expr} {kk : Nat} {tpos : Pos} (he : PE X e td) (hbase : attributeBase e "items" X.env (eval e X.env) = eval e X.env := by rfl) (hline : (apos.endLine == cpos.line) = true := by rfl) :
    PI X (.Tuple elts kk tpos) (.Call (.Attribute e "items" apos) [] [] cpos) (iItemsT' td) := by
  refine ⟨fun pins s σ H R I h => ?_⟩
  refine wpAny_Call_method (T := "dict") (id := "dict.items") hbase rfl hline F.plainAttrs_dict F.slot_dict_items F.type_dict_items (thn (he.run pins s σ H _ I h) fun u s1 ⟨x, H1, I1, rx, d, o, kvs, ex, hd, q⟩ => ?_)
  subst ex
  obtain rfl : u = Value.ref d := rx
  obtain ⟨hs, hgd, hx, es, ep, hdt, hsz, ent⟩ := frzT2 I1 hd
  refine ⟨⟨o, hgd, hx.1⟩, fun b z => by cases z; exact ⟨o, hgd, hx.2.1⟩, ?_⟩
  have I2 : Inv X pins σ H1 { s1 with heap := s1.heap.push { cls := .type "dict_items", data := .fields #[.ref d] } } := I1.kept (t' := s1.toks) fun b ob q => Heap.get?_push_of_some _ q
  have raw : DT.Raw (s1.heap.push { cls := .type "dict_items", data := .fields #[.ref d] }) d es ep := ⟨o, Heap.get?_push_of_some _ hgd, hx, hdt⟩
  have fin : wpAny (model X.prog X.w) X.A (pyIter (.ref s1.heap.objs.size)) (PIE X pins σ (.Tuple elts kk tpos) R) X.xe { s1 with heap := s1.heap.push { cls := .type "dict_items", data := .fields #[.ref d] } } := by
    refine DT.iterI (d := d) (es := es) (ep := ep) ⟨_, Heap.get?_push_size _ rfl, rfl, rfl⟩ raw (pi_one (tk := s1.toks) I2 _ (turn_itemsT _ hdt) ⟨.none, .none, ?_⟩ q)
    rw [← hsz]
    exact Heap.get?_push_size _ rfl
  show wpAny _ _ (callWith cpos (.builtin "dict.items") [.ref d] [] []) _ X.xe s1
  exact method_meetsIn F.slot_dict_items F.entry_dict_items rfl (PySem.evalArgs_none ⟨rfl, ⟨o, hgd, hx.1⟩, F.args_dict_items_1 _, _, DT.meetsItems (es := es) (ep := ep) hs, ⟨o, hgd, hx, hdt⟩, fin⟩)
def tFzT (te : TE) : TE := fun σ H Q => te σ H fun x H1 => ∃ d kvs, x = .ref d ∧ Rd H1 d (.dT kvs) ∧ (∀ o, H1 d = some (.dT kvs) → Q x (upd H1 d (.frz o (.dT kvs)))) ∧ ∀ o, H1 d = some (.frz o (.dT kvs)) → Q x H1
theorem pe_fzT {X : Cx} {e : Expr} {te : TE} (he : PE X e te) : PE X e (tFzT te) := by
  refine ⟨fun pins s σ H Q I h => ?_⟩
  refine thn (he.run pins s σ H _ I h) fun v s1 ⟨x, H1, I1, rx, d, kvs, ex, hd, q1, q2⟩ => ?_
  rcases hd with hd | ⟨o, hd⟩
  · obtain ⟨od, I2⟩ := I1.lock hd True.intro
    exact ⟨x, _, I2, rx, q1 od hd⟩
  · exact ⟨x, H1, I1, rx, q2 o hd⟩
theorem kDs_rd {g : G} {w : W} : ∀ ks : List Ky, RDs g w (ks.map kD) (ks.map kV)
  | [] => rfl
  | k :: ks => ⟨_, _, rfl, kD_rd k, kDs_rd ks⟩
theorem its_itemsT {g : G} {w : W} {a : Addr} {o : Obj} {ks : List (List Ky)} {ds : List D} {vs : List V} (G0 : Good w) (h : w.H a = some (.frz o (.dT (ks.zip vs)))) (n : ¬ w.thA a) (l : ks.length = vs.length) (r : RDs g w ds vs) :
    ItOk g w (ItiT a o (ks.zip vs)) (Src.its (itemsT ks ds)) := by
  have na : a ∉ w.rhA := fun z => n (G0.sub a z)
  have hl := r.length
  have hlen : (itemsT ks ds).length = (ks.zip vs).length := by simp [itemsT]; omega
  have kp : ∀ w', Ext w w' → w'.H a = some (.frz o (.dT (ks.zip vs))) := fun w' x => x.kpN h na dkt_frz
  refine ⟨fun i w' S d x rs al e hi => ⟨kp w' x, ?_⟩, fun w' S x rs al => ⟨kp w' x, ?_⟩, fun i w' S d x H' ex G rs al e hi y => ?_⟩
  · have : i < (itemsT ks ds).length := hi
    omega
  · show (ks.zip vs).length ≤ (itemsT ks ds).length
    omega
  · obtain ⟨T, k, v, q, hk, rfl, hq, hT, rfl⟩ := y
    have e' : (itemsT ks ds)[i]? = some d := e
    unfold itemsT at e'
    rw [List.getElem?_zipWith] at e'
    have hki : ks[i]? = some k ∧ vs[i]? = some v := by
      rw [List.getElem?_zip_eq_some] at hk
      exact hk
    rw [hki.1] at e'
    cases hd : ds[i]? with
    | none => rw [hd] at e'; simp at e'
    | some d0 =>
      rw [hd] at e'
      simp at e'
      subst e'
      obtain ⟨v', hv', rd⟩ := (r.mono G0 ex).get hd
      rw [hki.2] at hv'
      cases hv'
      exact pairNew G rs hT ⟨q, _, rfl, ⟨hq, fun z => G.nt q z _ hq⟩, kDs_rd k⟩ rd
section
variable {X : Cx} {Wx : WX} {pos : Pos}
theorem di_itemsT {e : Expr} {ma : ME} {elts : List Expr} {kk : Nat} {tpos apos cpos : Pos} (he : PE X e (TEof X.g Wx ma)) (hbase : attributeBase e "items" X.env (eval e X.env) = eval e X.env := by rfl) (hline : (apos.endLine == cpos.line) = true := by rfl) :
    PI X (.Tuple elts kk tpos) (.Call (.Attribute e "items" apos) [] [] cpos) (TIof X.g Wx (iItemsT ma)) := by
  refine piImp (pi_itemsT (pe_fzT he) hbase hline) fun σ H Q ⟨w, E, S, a, p⟩ => ?_
  refine ⟨w, E, S, a, ?_⟩
  have p1 : PR X.g Wx σ w (fun w' s J => ItOk X.g w' J s) Q ((ma E S).bind fun x S1 => match x with
    | .dcT ks ds => .ok (Src.its (itemsT ks ds)) S1
    | _ => .bad) := p
  cases hm : ma E S with
  | bad => rw [hm] at p1; exact p1.elim
  | exc c fs S1 => rw [hm] at p1; exact p1
  | ok x S1 =>
    rw [hm] at p1
    cases x with
    | dcT ks ds =>
      have p2 : PR X.g Wx σ w (fun w' s J => ItOk X.g w' J s) Q (.ok (Src.its (itemsT ks ds)) S1) := p1
      intro v w1 x1 G1 r1 rs1
      obtain ⟨b, vs, rfl, t, l, n, r3⟩ := r1
      refine ⟨b, _, rfl, t, fun o h => ?_, fun o h => ?_⟩
      · have na : b ∉ w1.rhA := fun z => n (G1.sub b z)
        have x2 : Ext w1 { w1 with H := upd w1.H b (.frz o (.dT (ks.zip vs))) } := by
          refine ⟨⟨[], by simp, by simp⟩, fun _ z => z, fun _ z => .inl z, fun c u hc hn => ?_, fun c hc => ?_⟩
          · by_cases ec : c = b
            · subst ec
              rw [h] at hc
              cases hc
              exact .inr ⟨n, o, .inr _, rfl, upd_same⟩
            · exact .inl ((upd_ne ec).trans hc)
          · show upd w1.H b _ c ≠ none
            by_cases ec : c = b
            · rw [ec, upd_same]; simp
            · rw [upd_ne ec]; exact hc
        have G2 : Good { w1 with H := upd w1.H b (.frz o (.dT (ks.zip vs))) } := put_upd G1
        have rs2 := rs1.keep G1 x2 rfl fun c hc => upd_ne fun ec => na (by rw [← ec]; exact hc)
        exact ⟨b, o, _, rfl, upd_same, p2 _ _ (x1.trans x2) G2 (its_itemsT G2 upd_same n l (r3.mono G1 x2)) rs2⟩
      · exact ⟨b, o, _, rfl, h, p2 _ _ x1 G1 (its_itemsT G1 h n l r3) rs1⟩
    | _ => exact p1.elim
end
end J
set_option Elab.async false
set_option linter.all false
set_option maxRecDepth 100000
set_option maxHeartbeats 1000000
namespace J
open PySem PySem.Spec PyProof.Rows L2
structure ExN (g : G) (c : Str) : Prop where
  ex : ∃ C : Addr, g.mg c = some (.ref C) ∧ PySem.W.excIn g.K C [.type "ValueError", .type "Exception", .type "BaseException", .type "object"] "ValueError.__new__" = true ∧ PySem.W.keepIn g.K (.ref C) = true ∧
    PySem.W.subIn g.K (.ref C) (.type "BaseException") = some true ∧ PySem.W.typeIn g.K (.ref C) = some (.type "type")
section
variable {X : Cx} {Wx : WX} {k : Nat}
structure ExT (g : G) (xB xC : Str) (kt : Str → Option Bool) : Prop where
  ex : ∃ B C : Addr, g.mg xB = some (.ref B) ∧ g.mg xC = some (.ref C) ∧ ∀ c b, kt c = some b → ∃ D, g.mg c = some (.ref D) ∧ ExcC g.K D ∧ PySem.W.kitOne g.K (.ref D) (.ref C) = some b ∧ PySem.W.exmOne g.K (.ref D) (.ref B) = some true
end
end J
set_option Elab.async false
set_option linter.all false
set_option maxRecDepth 100000
set_option maxHeartbeats 1000000
namespace J
open PySem PySem.Spec PyProof.Rows L2
section
variable {X : Cx} {Wx : WX} {pos : Pos}
def tBK (r : V → List V → Hp → VK → Prop) (to : TE) (t : TA) : TE := fun σ H Q => to σ H fun x H1 => (∃ a o ys, x = .ref a ∧ H1 a = some (.frz o (.tup ys)) ∧ o.dict = none) ∧ t σ H1 fun xs H2 => r x xs H2 Q
theorem pe_bmK {o e : Expr} {es : List Expr} {to : TE} {t : TA} {name : Str} {apos cpos : Pos} {id : String} {r : V → List V → Hp → VK → Prop} (slot : Slot "tuple" name id) (hty : typeOf (.builtin id) = pure (.type "method_descriptor")) (hm : MtR X id r) (ho : PE X o to) (ha : PA X (e :: es) t)
    (hbase : attributeBase o name X.env (eval o X.env) = eval o X.env := by rfl)
    (hfew : ((backTo cpos (starEach (e :: es) X.env)).all (fun x => !x.1) && (backToKw cpos (keywordEach [] X.env)).all (fun x => x.1.isSome)
      && decide ((e :: es).length + ([] : List Keyword).length + (if ([] : List Keyword).isEmpty then 0 else 1) < 30)) = true := by rfl)
    (hline : (apos.endLine == cpos.line) = true := by rfl) (hs : starEach (e :: es) X.env = (false, eval e X.env) :: starEach es X.env := by rfl) (hplain : (backTo cpos (starEach es X.env)).any (·.1) = false := by rfl) :
    PE X (.Call (.Attribute o name apos) (e :: es) [] cpos) (tBK r to t) := by
  refine ⟨fun pins s σ H Q I h => ?_⟩
  refine wpAny_Call_method_late hbase hfew hline rfl (thn (ho.run pins s σ H _ I h) fun v s1 ⟨x, H1, I1, r1, ⟨a, ob, ys, ex, ht, hd⟩, q1⟩ => ?_)
  subst ex
  have r1' := r1
  obtain rfl : v = Value.ref a := r1
  obtain ⟨e1, hz, its, rv, hT⟩ := I1.hok a _ ht
  obtain ⟨ob2, e2, hc2, hd2⟩ := hT
  have hg : s1.heap.get? a = some ob := e1
  rw [hg] at e2
  cases e2
  refine ⟨"tuple", id, PySem.F.plainAttrs_tuple, slot, hty, ⟨ob, hg, hc2⟩, fun b eb => ?_, ?_⟩
  · cases eb
    exact ⟨ob, hg, hd⟩
  have hA := ha.run cpos pins s1 σ H1 _ I1 q1
  rw [hs] at hA ⊢
  refine Calls.callWith_builtin (by show (false || (backTo cpos (starEach es X.env)).any (·.1)) = false; rw [hplain] <;> rfl) (Calls.evalArgs_plain ?_)
  exact thn hA fun us s2 ⟨vs, H2, I2, r2, q2⟩ => hm pins s2 σ H2 _ vs _ us Q I2 r1' r2 q2
theorem jm_countK (hu : X.A.units + 1 < cLine) : MtR X "tuple.count" (mtOf X.g mCountK) := by
  intro pins s σ H x xs v us Q I rx rs' ⟨Wx, σ', w, S, d, ds, hH, G, rs, r1, r2, p⟩
  subst hH
  unfold mCountK at p
  split at p
  · obtain ⟨z, rfl, r3⟩ := r2.one'
    split at p
    · rename_i ns e
      obtain ⟨a, vs, o, rfl, t, hd, n, r4⟩ := r1
      have := ints_vals r4 e
      subst this
      cases r3
      cases rx
      obtain ⟨u, rfl, tk, rfl⟩ := rs'.one
      obtain ⟨its, rv, pl, hz⟩ := I.tuple (show SqT X.K w.H a _ from .inl (.inr ⟨o, t⟩))
      refine PySem.W.count_tuple_datum (α := Int) (xs := ns) pl (hold_ints rv) (PySem.W.holds_int _ tk) (by simpa [PySem.W.Datum.depth] using hu) ?_
      refine ⟨.int _, w.H, I.tok _, ⟨_, rfl⟩, ?_⟩
      exact putSame p G rs (by
        show V.int _ = V.int _
        congr 1)
    · exact p.elim
  · exact p.elim
theorem de_methK {o e : Expr} {es : List Expr} {mo : ME} {mr : MA} {name : Str} {apos cpos : Pos} {id : String} {m : D → List D → List D → R D} (slot : Slot "tuple" name id) (hty : typeOf (.builtin id) = pure (.type "method_descriptor")) (hm : MtR X id (mtOf X.g m)) (ho : PE X o (TEof X.g Wx mo)) (ha : PA X (e :: es) (TAof X.g Wx mr))
    (hbase : attributeBase o name X.env (eval o X.env) = eval o X.env := by rfl)
    (hfew : ((backTo cpos (starEach (e :: es) X.env)).all (fun x => !x.1) && (backToKw cpos (keywordEach [] X.env)).all (fun x => x.1.isSome)
      && decide ((e :: es).length + ([] : List Keyword).length + (if ([] : List Keyword).isEmpty then 0 else 1) < 30)) = true := by rfl)
    (hline : (apos.endLine == cpos.line) = true := by rfl) (hs : starEach (e :: es) X.env = (false, eval e X.env) :: starEach es X.env := by rfl) (hplain : (backTo cpos (starEach es X.env)).any (·.1) = false := by rfl) :
    PE X (.Call (.Attribute o name apos) (e :: es) [] cpos) (TEof X.g Wx (eMethK m mo mr)) := by
  refine peImp (pe_bmK slot hty hm ho ha hbase hfew hline hs hplain) fun σ H Q ⟨w, E, S, a, p⟩ => ?_
  refine ⟨w, E, S, a, PR.imp (PR.bind a.good a.env p) fun x H1 ⟨w1, d, S1, a1, x1, r1, p1⟩ => ?_⟩
  split at p1
  · rename_i h
    cases d <;> try (cases h; done)
    rename_i xs
    have r1' := r1
    obtain ⟨b, vs, ob, rfl, t, hd, n, r3⟩ := r1
    refine ⟨⟨b, ob, vs, rfl, by rw [← a1.hp]; exact t, hd⟩, w1, E, S1, a1, PR.imp (PR.bind a1.good a1.env p1) fun ys H2 ⟨w2, es, S2, a2, x2, r2, p2⟩ => ?_⟩
    exact ⟨Wx, σ, w2, S2, .tuk xs, es, a2.hp, a2.good, a2.sto, RD.mono a1.good x2 _ _ r1', r2, p2⟩
  · exact p1.elim
end
end J
set_option Elab.async false
set_option linter.all false
set_option maxRecDepth 100000
set_option maxHeartbeats 1000000
namespace J
open PySem PySem.Spec PyProof.Rows L2
section
variable {X : Cx} {Wx : WX} {pos : Pos}
end
end J
set_option Elab.async false
set_option linter.all false
set_option maxRecDepth 100000
set_option maxHeartbeats 1000000
namespace J
open PySem PySem.Spec PyProof.Rows L2
open PySem.W (alike alikeAll dataLt keyToks keyToksAll dataLe EachIs)
mutual
def D.ordB : D → Bool
  | .int _ => true
  | .tup ds => D.ordBs ds
  | _ => false
def D.ordBs : List D → Bool
  | [] => true
  | d :: ds => d.ordB && D.ordBs ds
end
mutual
theorem toks_inj : ∀ (d e : D) (r r' : List (Int ⊕ List Nat)), d.ordB = true → e.ordB = true → alike d.py e.py = true → keyToks d.py ++ r = keyToks e.py ++ r' → d = e ∧ r = r'
  | .int a, e, r, r', _, h, k, q => by
    cases e <;> simp only [D.ordB, Bool.false_eq_true] at h
    · simp only [D.py, keyToks, List.cons_append, List.nil_append, List.cons.injEq, Sum.inl.injEq] at q
      exact ⟨by rw [q.1], q.2⟩
    · simp only [D.py, alike, Bool.false_eq_true] at k
  | .tup xs, e, r, r', g, h, k, q => by
    cases e <;> simp only [D.ordB, Bool.false_eq_true] at h
    · simp only [D.py, alike, Bool.false_eq_true] at k
    · simp only [D.ordB] at g
      simp only [D.py, alike] at k
      simp only [D.py, keyToks] at q
      obtain ⟨e1, e2⟩ := toks_injs xs _ r r' g h k q
      exact ⟨by rw [e1], e2⟩
theorem toks_injs : ∀ (ds es : List D) (r r' : List (Int ⊕ List Nat)), D.ordBs ds = true → D.ordBs es = true → alikeAll (D.pys ds) (D.pys es) = true → keyToksAll (D.pys ds) ++ r = keyToksAll (D.pys es) ++ r' → ds = es ∧ r = r'
  | [], [], r, r', _, _, _, q => by
    simp only [D.pys, keyToksAll, List.cons_append, List.nil_append, List.cons.injEq] at q
    exact ⟨rfl, q.2⟩
  | [], e :: es, r, r', _, _, _, q => by
    simp [D.pys, keyToksAll] at q
  | d :: ds, [], r, r', _, _, _, q => by
    simp [D.pys, keyToksAll] at q
  | d :: ds, e :: es, r, r', g, h, k, q => by
    simp only [D.ordBs, Bool.and_eq_true] at g h
    simp only [D.pys, alikeAll, Bool.and_eq_true] at k
    simp only [D.pys, keyToksAll, List.cons_append, List.append_assoc, List.cons.injEq] at q
    obtain ⟨e1, e2⟩ := toks_inj d e _ _ g.1 h.1 k.1 q.2
    obtain ⟨e3, e4⟩ := toks_injs ds es _ _ g.2 h.2 k.2 e2
    exact ⟨by rw [e1, e3], e4⟩
end
mutual
theorem lt_py : ∀ d e : D, d.ordB = true → e.ordB = true → d.cmpb = true → e.cmpb = true → alike d.py e.py = true → d.lt e = dataLt d.py e.py
  | .int a, e, _, h, _, _, k => by
    cases e <;> simp only [D.ordB, Bool.false_eq_true] at h
    · exact (PySem.W.dataLt_int _ _).symm
    · simp only [D.py, alike, Bool.false_eq_true] at k
  | .tup xs, e, g, h, c, c', k => by
    cases e <;> simp only [D.ordB, Bool.false_eq_true] at h
    · simp only [D.py, alike, Bool.false_eq_true] at k
    · simp only [D.ordB] at g
      simp only [D.py, alike] at k
      show D.lts xs _ = dataLt (.tuple (D.pys xs)) (.tuple (D.pys _))
      rw [PySem.W.dataLt_tuple]
      exact lts_py xs _ g h c c' k
theorem lts_py : ∀ ds es : List D, D.ordBs ds = true → D.ordBs es = true → D.cmpbs ds = true → D.cmpbs es = true → alikeAll (D.pys ds) (D.pys es) = true → D.lts ds es = PyProof.Rows.lexLt itemOrd (keyToksAll (D.pys ds)) (keyToksAll (D.pys es))
  | [], [], _, _, _, _, _ => (lex_irrefl (O := itemOrd) _).symm
  | [], e :: es, _, _, _, _, _ => by
    simp only [D.lts, D.pys, keyToksAll]
    rw [PyProof.Rows.lex_diff (O := itemOrd) (by simp)]
    rfl
  | d :: ds, [], _, _, _, _, _ => by
    simp only [D.lts, D.pys, keyToksAll]
    rw [PyProof.Rows.lex_diff (O := itemOrd) (by simp)]
    rfl
  | d :: ds, e :: es, g, h, c, c', k => by
    simp only [D.ordBs, Bool.and_eq_true] at g h
    simp only [D.cmpbs, Bool.and_eq_true] at c c'
    simp only [D.pys, alikeAll, Bool.and_eq_true] at k
    simp only [D.lts, D.pys]
    rw [PySem.W.dataLt_cons k.1, py_eqv d e c.1 c'.1, lt_py d e g.1 h.1 c.1 c'.1 k.1, lts_py ds es g.2 h.2 c.2 c'.2 k.2]
end
mutual
theorem shp_ord : ∀ d e : D, d.shp e = true → d.ordB = true ∧ e.ordB = true
  | .int _, e, h => by cases e <;> simp only [D.shp, Bool.false_eq_true] at h; exact ⟨rfl, rfl⟩
  | .tup xs, e, h => by
    cases e <;> simp only [D.shp, Bool.false_eq_true] at h
    exact shps_ord xs _ h
  | .non, e, h => by cases e <;> simp [D.shp] at h
  | .bl _, e, h => by cases e <;> simp [D.shp] at h
  | .str _, e, h => by cases e <;> simp [D.shp] at h
  | .ty _, e, h => by cases e <;> simp [D.shp] at h
  | .lst _, e, h => by cases e <;> simp [D.shp] at h
  | .rdl _, e, h => by cases e <;> simp [D.shp] at h
  | .dct _ _, e, h => by cases e <;> simp [D.shp] at h
  | .dcT _ _, e, h => by cases e <;> simp [D.shp] at h
  | .tuk _, e, h => by cases e <;> simp [D.shp] at h
  | .loc _, e, h => by cases e <;> simp [D.shp] at h
theorem shps_ord : ∀ ds es : List D, D.shps ds es = true → D.ordBs ds = true ∧ D.ordBs es = true
  | [], [], _ => ⟨rfl, rfl⟩
  | [], _ :: _, h => by simp [D.shps] at h
  | _ :: _, [], h => by simp [D.shps] at h
  | d :: ds, e :: es, h => by
    simp only [D.shps, Bool.and_eq_true] at h
    obtain ⟨a, b⟩ := shp_ord d e h.1
    obtain ⟨c, f⟩ := shps_ord ds es h.2
    simp only [D.ordBs, Bool.and_eq_true]
    exact ⟨⟨a, c⟩, b, f⟩
end
mutual
theorem shp_alike : ∀ x d e : D, x.shp d = true → x.shp e = true → alike d.py e.py = true
  | .int _, d, e, h, k => by
    cases d <;> simp only [D.shp, Bool.false_eq_true] at h
    cases e <;> simp only [D.shp, Bool.false_eq_true] at k
    rfl
  | .tup xs, d, e, h, k => by
    cases d <;> simp only [D.shp, Bool.false_eq_true] at h
    cases e <;> simp only [D.shp, Bool.false_eq_true] at k
    simp only [D.py, alike]
    exact shps_alike xs _ _ h k
  | .non, d, _, h, _ => by cases d <;> simp [D.shp] at h
  | .bl _, d, _, h, _ => by cases d <;> simp [D.shp] at h
  | .str _, d, _, h, _ => by cases d <;> simp [D.shp] at h
  | .ty _, d, _, h, _ => by cases d <;> simp [D.shp] at h
  | .lst _, d, _, h, _ => by cases d <;> simp [D.shp] at h
  | .rdl _, d, _, h, _ => by cases d <;> simp [D.shp] at h
  | .dct _ _, d, _, h, _ => by cases d <;> simp [D.shp] at h
  | .dcT _ _, d, _, h, _ => by cases d <;> simp [D.shp] at h
  | .tuk _, d, _, h, _ => by cases d <;> simp [D.shp] at h
  | .loc _, d, _, h, _ => by cases d <;> simp [D.shp] at h
theorem shps_alike : ∀ xs ds es : List D, D.shps xs ds = true → D.shps xs es = true → alikeAll (D.pys ds) (D.pys es) = true
  | [], [], [], _, _ => by simp [D.pys, alikeAll]
  | [], _ :: _, _, h, _ => by simp [D.shps] at h
  | [], [], _ :: _, _, k => by simp [D.shps] at k
  | _ :: _, [], _, h, _ => by simp [D.shps] at h
  | _ :: _, _ :: _, [], _, k => by simp [D.shps] at k
  | x :: xs, d :: ds, e :: es, h, k => by
    simp only [D.shps, Bool.and_eq_true] at h k
    simp only [D.pys, alikeAll, Bool.and_eq_true]
    exact ⟨shp_alike x d e h.1 k.1, shps_alike xs ds es h.2 k.2⟩
end
structure SOk (xs : List D) : Prop where
  ord : ∀ d ∈ xs, d.ordB = true
  cmp : ∀ d ∈ xs, d.cmpb = true
  dep : ∀ d ∈ xs, d.depth ≤ 60
  alk : ∀ d ∈ xs, ∀ e ∈ xs, alike d.py e.py = true
  srt : PySem.W.Sortable (xs.map D.py)
/-! the order -/
abbrev leP (a b : D) : Bool := dataLe false D.py a b
section
variable {X : Cx} {Wx : WX} {pos : Pos}
theorem lstAny_lst {g : G} {w : W} {S : List D} {d : D} {v : V} {xs : List D} (rs : RS g w S) (r : RD g w d v) (h : lstAny S d = some xs) : ∃ p vs, v = .ref p ∧ SqL g.K w.H p vs ∧ RDs g w xs vs := by
  unfold lstAny at h
  split at h
  · cases h
    obtain ⟨p, vs, rfl, t, _, r⟩ := r
    exact ⟨p, vs, rfl, .inl (.inl t), r⟩
  · cases h
    obtain ⟨p, vs, rfl, t, r⟩ := r
    exact ⟨p, vs, rfl, t.sq, r⟩
  · rename_i n
    split at h
    · rename_i ds e
      cases h
      obtain ⟨a, rfl, ha⟩ := r
      obtain ⟨vs, h1, h2⟩ := rs.obj ha e
      exact ⟨a, vs, rfl, .inl (.inl h1), h2⟩
    · cases h
  · cases h
def Std (g : G) (w : W) (u : Value) (d : D) : Prop := ∃ x, RD g w d x ∧ RelV x u
theorem RE.drop {g : G} {w : W} {E : Env} {σ : L2.St} (h : RE g w E σ) (ids : List Nat) : RE g w (wipeE E ids) σ := by
  refine ⟨by rw [wipeE_length]; exact h.1, fun i d e => ?_⟩
  rw [wipeE_get] at e
  by_cases hi : i ∈ ids
  · rw [if_pos hi] at e
    cases q : E[i]? <;> (rw [q] at e; cases e)
  · rw [if_neg hi] at e
    exact h.2 i d e
end
end J
set_option Elab.async false
set_option linter.all false
set_option maxRecDepth 100000
set_option maxHeartbeats 1000000
namespace J
open PySem PySem.Spec PyProof.Rows L2
section
variable {X : Cx} {Wx : WX} {k : Nat}
end
abbrev tTx (t : Str) (i : Nat) : TE := fun σ H Q => tJs [tC (.str t), tFmt (tVar i)] Str.empty σ H fun out H1 => Q (.str out) H1
abbrev tIni (K : PySem.W.Frag) (f t : Str) : TS := tSeq (tDrop (tVeI K (tCons (tVar 0) (tCons (tTx t 1) tNil)))) (tOst K f (tVar 0) (tVar 1))
def spInit (K : PySem.W.Frag) (C : Addr) (f : Str) : Sp := fun vs H Q _ => ∃ (a : Addr) (i : Int), vs = [.ref a, .int i] ∧ i.natAbs.log2 < 1920 ∧ OexC K C ∧ PySem.W.findIn K (.ref C) f = some none ∧ H a = some (exo a C none) ∧
  ∀ dx, H dx = none → dx ≠ a → Q .non (upd (upd H dx (exd dx [(f, .int i)])) a (exo a C (some dx)))
structure XIn (P : Program) (wd : World) (g : G) (base : Heap) (k : Nat) (c f : Str) : Prop where
  ex : ∃ (C fI : Addr) (fd : FuncData), g.mg c = some (.ref C) ∧ OexC g.K C ∧ PySem.W.findIn g.K (.ref C) "__init__" = some (some (.ref fI)) ∧ PySem.W.typeIn g.K (.ref fI) = some (.type "function") ∧ PySem.W.findIn g.K (.ref C) f = some none ∧
    FnOk P wd g.K g.mg base CX0 k fI fd ["self", f] (spInit g.K C f) ∧ Binds g.K fd ["self", f] []
section
variable {X : Cx} {Wx : WX} {k : Nat}
def rIsE2 (K : PySem.W.Frag) (D a : Addr) (d : Option Addr) : List V → Hp → VK → Prop := fun xs H Q => ∃ (c : V) (cv : Value) (b : Bool), xs = [.ref a, c] ∧ (∀ u, RelV c u → u = cv) ∧ PySem.W.kitOne K (.ref D) cv = some b ∧ (∀ dd, d = some dd → ∃ fs, H dd = some (.xd fs)) ∧ Q (.bl b) H
structure ExTF (g : G) (xB xC f : Str) (kt : Str → Option Bool) : Prop where
  ex : ∃ B C : Addr, g.mg xB = some (.ref B) ∧ g.mg xC = some (.ref C) ∧ ∀ c b, kt c = some b → ∃ D, g.mg c = some (.ref D) ∧ ExcC g.K D ∧ PySem.W.findIn g.K (.ref D) f = some none ∧ PySem.W.kitOne g.K (.ref D) (.ref C) = some b ∧ PySem.W.exmOne g.K (.ref D) (.ref B) = some true
end
end J
set_option Elab.async false
set_option linter.all false
set_option maxRecDepth 100000
set_option maxHeartbeats 1000000
namespace J
open PySem PySem.Spec PyProof.Rows L2
section
variable {X : Cx} {Wx : WX} {pos : Pos}
theorem jc_lenK : CallR X (.builtin "len") (argOf X.g bLenK) := by
  intro pins s σ H xs us Q I r ⟨Wx, σ', w, S, ds, hH, G, rs, r1, p⟩
  unfold bLenK at p
  split at p
  · subst hH
    obtain ⟨v, rfl, r2⟩ := r1.one'
    obtain ⟨a, vs, o, rfl, t, hd, n, r3⟩ := r2
    have q := putSame p G rs rfl
    rw [← r3.length] at q
    exact call_len_seq pins s σ _ _ us Q I r ⟨a, vs, rfl, .inr (.inl (.inr ⟨o, t⟩)), q⟩
  · exact jc_len pins s σ H xs us Q I r ⟨Wx, σ', w, S, ds, hH, G, rs, r1, p⟩
end
end J
set_option Elab.async false
set_option linter.all false
set_option maxRecDepth 100000
set_option maxHeartbeats 1000000
namespace J
open PySem PySem.Spec PyProof.Rows L2
section
variable {X : Cx} {Wx : WX} {pos : Pos}
end
end J
set_option Elab.async false
set_option linter.all false
set_option maxRecDepth 100000
set_option maxHeartbeats 1000000
namespace J
open PySem PySem.Spec PyProof.Rows L2
open PySem.W (alike alikeAll dataLt keyToks keyToksAll dataLe EachIs)
theorem each_get {α β : Type} {R : α → β → Prop} : ∀ {vs : List α} {ds : List β}, EachIs R vs ds → ∀ (i : Nat) (v : α), vs[i]? = some v → ∃ d, ds[i]? = some d ∧ R v d
  | _, _, .nil, _, _, h => by simp at h
  | _, _, .cons h1 t, 0, v, h => by
    simp at h
    subst h
    exact ⟨_, rfl, h1⟩
  | _, _, .cons h1 t, i + 1, v, h => by
    obtain ⟨d, a, b⟩ := each_get t i v (by simpa using h)
    exact ⟨d, by simpa using a, b⟩
theorem fold_cg {α : Type} {f g : α → α → Bool} {P : α → Prop} (h : ∀ a b, P a → P b → f a b = g a b) : ∀ (xs : List α) (x : α), P x → (∀ y ∈ xs, P y) → xs.foldl (fun a y => if f y a = true then y else a) x = xs.foldl (fun a y => if g y a = true then y else a) x
  | [], _, _, _ => rfl
  | y :: ys, x, hx, hy => by
    rw [List.foldl_cons, List.foldl_cons, h y x (hy y List.mem_cons_self) hx]
    refine fold_cg h ys _ ?_ fun z hz => hy z (List.mem_cons_of_mem _ hz)
    split
    · exact hy y List.mem_cons_self
    · exact hx
section
variable {X : Cx} {Wx : WX} {pos : Pos}
end
end J
set_option Elab.async false
set_option linter.all false
set_option maxRecDepth 100000
set_option maxHeartbeats 1000000
namespace J
open PySem PySem.Spec PyProof.Rows L2
section
variable {X : Cx} {Wx : WX} {k : Nat}
end
end J
set_option Elab.async false
set_option linter.all false
set_option maxRecDepth 100000
set_option maxHeartbeats 1000000
namespace J
open PySem PySem.Spec PyProof.Rows L2
/-! range down -/
section
variable {X : Cx} {Wx : WX} {tg a b c : Expr} {ma mb mc : ME} {pos : Pos}
end
/-! d.setdefault(k, x), k a tuple -/
section
variable {X : Cx} {pins : List (Addr × Obj)} {σ : L2.St} {H : Hp} {s : Shared} {a b : Addr} {r : Value} {d : V} {k : List Key} {A : Around} {E : Value → Shared → Prop}
end
def tSetd2 (td ty tx : TE) : TE := fun σ H Q => td σ H fun x H1 => ∃ a, x = .ref a ∧ IsD H1 a ∧ ty σ H1 fun y H2 => tx σ H2 fun z H3 =>
  (∃ (kvs : List (Key × V)) (k : Key), H3 a = some (.dK kvs) ∧ y = kV k ∧ kvs.length < sizeLine ∧ (∀ v, valV kvs k = some v → Q v H3) ∧ (valV kvs k = none → Q z (upd H3 a (.dK (L2.putK kvs k z))))) ∨
  ∃ (kvs : List (List Key × V)) (k : List Key) (b : Addr), H3 a = some (.dT kvs) ∧ y = .ref b ∧ H3 b = some (.tup (k.map kV)) ∧ kvs.length < sizeLine ∧ (∀ v, valV kvs k = some v → Q v H3) ∧ (valV kvs k = none → Q z (upd H3 a (.dT (L2.putK kvs k z))))
section
variable {X : Cx} {o e f : Expr} {td ty tx : TE} {apos cpos : Pos}
end
section
variable {X : Cx} {Wx : WX}
end
section
variable {X : Cx} {Wx : WX} {pos : Pos}
end
/-! an int times a tuple, a list -/
section
variable {X : Cx}
end
section
variable {X : Cx} {Wx : WX} {pos : Pos}
end
/-! list(d) -/
end J
set_option Elab.async false
set_option linter.all false
set_option maxRecDepth 100000
set_option maxHeartbeats 1000000
namespace J
open PySem PySem.Spec PyProof.Rows L2
section
variable {X : Cx} {Wx : WX} {pos : Pos}
end
end J
set_option Elab.async false
set_option linter.all false
set_option maxRecDepth 100000
set_option maxHeartbeats 1000000
namespace J
open PySem PySem.Spec PyProof.Rows L2
section
variable {X : Cx} {Wx : WX} {pos : Pos}
end
end J
set_option Elab.async false
set_option linter.all false
set_option maxRecDepth 100000
set_option maxHeartbeats 1000000
namespace J
open PySem PySem.Spec PyProof.Rows L2
section
variable {X : Cx} {Wx : WX} {k : Nat}
end
end J
set_option Elab.async false
set_option linter.all false
set_option maxRecDepth 100000
set_option maxHeartbeats 1000000
namespace J
open PySem PySem.Spec PyProof.Rows L2
theorem new_tuk {g : G} {Wx : WX} {σ : L2.St} {w : W} {Q : VK} {ds : List D} {vs : List V} {S : List D} (p : PR g Wx σ w (RD g) Q (.ok (.tuk ds) S)) (G : Good w) (rs : RS g w S) (r : RDs g w ds vs) (q : Addr) (o : Obj) (hd : o.dict = none) (hq : w.H q = none) : Q (.ref q) (upd w.H q (.frz o (.tup vs))) :=
  p (.ref q) (w.put q (.frz o (.tup vs))) (put_ext hq) (put_good G hq) ⟨q, vs, o, rfl, upd_same, hd, put_th (w := w) G hq, r.mono G (put_ext hq)⟩ (put_store G hq rs)
section
variable {X : Cx} {Wx : WX} {pos : Pos} {es : List Expr} {t : TA}
def tTupK (t : TA) : TE := fun σ H Q => t σ H fun xs H1 => xs.length ≤ sizeLine ∧ ∀ p o, o.dict = none → H1 p = none → Q (.ref p) (upd H1 p (.frz o (.tup xs)))
theorem pe_tupK {x1} (h : PA X es t) : PE X (.Tuple es x1 pos) (tTupK t) := by
  refine ⟨fun pins s σ H Q I hq => ?_⟩
  refine wpAny_Tuple_spliced (thn (h.run pos pins s σ H _ I hq) fun us s1 ⟨xs, H1, I1, r, z, q⟩ => ⟨by rw [← r.length]; exact z, ?_⟩)
  have hf : H1 s1.heap.objs.size = none := I1.hok.fresh (Nat.le_refl _)
  let ob : Obj := { cls := .type "tuple", data := .seq us.toArray }
  have hl : HOk X.prog X.w H1 s1.heap := I1.hok
  refine ⟨.ref s1.heap.objs.size, upd H1 s1.heap.objs.size (.frz ob (.tup xs)), I1.laid (t' := s1.toks) (fun b u e => Heap.get?_push_of_some _ e) (Nat.le_refl _) ?_, rfl, q _ ob rfl hf⟩
  exact ⟨Heap.get?_push_size _ rfl, z, us, r, ⟨_, Heap.get?_push_size _ rfl, rfl, _, rfl⟩⟩
theorem de_tupD {mr : MA} {x1} (h : PA X es (TAof X.g Wx mr)) : PE X (.Tuple es x1 pos) (TEof X.g Wx (eArgs bTupD mr)) := by
  refine de_disp (es := es) (pe_tupK h) fun σ H Q ⟨w, E, S, a, p⟩ => ⟨w, E, S, a, PR.imp p fun xs H1 hh => ?_⟩
  obtain ⟨Wx, σ, w, S, ds, rfl, G, rs, r, p⟩ := hh
  unfold bTupD at p
  split at p
  · rename_i hl
    rw [sl_eq, ← r.length] at hl
    refine ⟨hl, fun q o hd hq => ?_⟩
    exact p (.ref q) (w.put q (.frz o (.tup xs))) (put_ext hq) (put_good G hq) ⟨q, xs, o, rfl, upd_same, hd, put_th (w := w) G hq, r.mono G (put_ext hq)⟩ (put_store G hq rs)
  · exact p.elim
end
section
variable {X : Cx} {Wx : WX} {pos : Pos}
theorem op_catK : OpR X (binaryOp .Add) (fun x y H Q => ∃ a b xs ys, x = .ref a ∧ y = .ref b ∧ SqT X.K H a xs ∧ SqT X.K H b ys ∧ xs.length + ys.length ≤ sizeLine ∧
    (xs = [] → Q (.ref b) H) ∧ (xs ≠ [] → ys = [] → Q (.ref a) H) ∧ (xs ≠ [] → ys ≠ [] → ∀ p o, o.dict = none → H p = none → Q (.ref p) (upd H p (.frz o (.tup (xs ++ ys)))))) := by
  intro pins s σ H x y v u Q I rx ry h
  obtain ⟨a, b, xs, ys, rfl, rfl, ha, hb, hz, q0, q1, q2⟩ := h
  by_cases hx : xs = []
  · exact op_catA pins s σ H _ _ v u Q I rx ry ⟨a, b, xs, ys, rfl, rfl, ha, hb, hz, q0, fun z => absurd hx z, fun z => absurd hx z⟩
  · cases rx
    cases ry
    obtain ⟨its, r1, p1, _⟩ := I.tuple ha
    obtain ⟨its2, r2, p2, _⟩ := I.tuple hb
    refine HT.cat_tup p1 p2 (fun z => hx (r1.nil_iff.mp z)) (fun z => ⟨.ref a, H, I, rfl, q1 hx (r2.nil_iff.mp z)⟩) (fun z => ?_) (by rw [← r1.length, ← r2.length]; exact hz)
    refine ⟨.ref s.heap.objs.size, _, I.laid (t' := s.toks) (o := .frz { cls := .type "tuple", data := .seq (its ++ its2).toArray } (.tup (xs ++ ys))) (fun b ob q => Heap.get?_push_of_some _ q) (Nat.le_refl _) ?_, rfl, q2 hx (fun w => z (r2.nil_iff.mpr w)) _ _ rfl (I.hok.fresh (Nat.le_refl _))⟩
    · exact ⟨Heap.get?_push_size _ rfl, by rw [List.length_append]; exact hz, _, r1.append r2, IsTup.new _ _⟩
theorem jo_addK : OpR X (binaryOp .Add) (opOf X.g oAddK) := by
  intro pins s σ H x y v u Q I rx ry ⟨Wx, σ', w, S, d, e, hH, G, rs, r1, r2, p⟩
  unfold oAddK at p
  split at p
  · subst hH
    split at p
    · rename_i xs ys hl
      obtain ⟨a, vs, o, rfl, ta, hd, na, ra⟩ := id r1
      obtain ⟨b, us, o2, rfl, tb, hd2, nb, rb⟩ := id r2
      refine op_catK pins s σ _ _ _ v u Q I rx ry ⟨a, b, vs, us, rfl, rfl, .inl (.inr ⟨o, ta⟩), .inl (.inr ⟨o2, tb⟩), by rw [ra.length, rb.length, ← sl_eq]; exact hl, fun z => ?_, fun _ z => ?_, fun _ _ q o hd hq => new_tuk p G rs (ra.append rb) q o hd hq⟩
      · have l := ra.length
        rw [z] at l
        have z2 : xs = [] := List.eq_nil_of_length_eq_zero l.symm
        subst z2
        exact putSame p G rs r2
      · have l := rb.length
        rw [z] at l
        have z2 : ys = [] := List.eq_nil_of_length_eq_zero l.symm
        subst z2
        rw [List.append_nil] at p
        exact putSame p G rs r1
    · exact p.elim
  · exact jo_add pins s σ H x y v u Q I rx ry ⟨Wx, σ', w, S, d, e, hH, G, rs, r1, r2, p⟩
def slOfK (g : G) : V → Option Int → Option Int → Hp → VK → Prop := fun x lo hi H Q => ∃ Wx σ w S d, w.H = H ∧ Good w ∧ RS g w S ∧ RD g w d x ∧ PR g Wx σ w (RD g) Q (oSlK d lo hi S)
def tRevK (K : PySem.W.Frag) (te : TE) : TE := fun σ H Q => te σ H fun x H1 => ∃ a xs, x = .ref a ∧ SqT K H1 a xs ∧ ∀ p o, o.dict = none → H1 p = none → Q (.ref p) (upd H1 p (.frz o (.tup xs.reverse)))
theorem jo_ixK (hu : X.A.units + 1 < cLine) : IxR X (opOf X.g oIxK) := by
  intro value slice pins s σ H x y v u Q I rx ry ⟨Wx, σ', w, S, d, e, hH, G, rs, r1, r2, p⟩ hs
  unfold oIxK at p
  split at p
  · subst hH
    split at p
    · split at p
      · rename_i z e2
        cases r2
        obtain ⟨a, vs, o, rfl, t, hd, na, r3⟩ := r1
        obtain ⟨v', e3, r4⟩ := atOf_of r3 e2
        exact ix_tup value slice pins s σ _ _ _ v u Q I rx ry ⟨a, vs, _, v', rfl, rfl, .inl (.inr ⟨o, t⟩), e3, putSame p G rs r4⟩ hs
      · exact p.elim
    · exact p.elim
  · exact jo_ix hu value slice pins s σ H x y v u Q I rx ry ⟨Wx, σ', w, S, d, e, hH, G, rs, r1, r2, p⟩ hs
end
end J
set_option Elab.async false
set_option linter.all false
set_option maxRecDepth 100000
set_option maxHeartbeats 1000000
namespace J
open PySem PySem.Spec PyProof.Rows L2
section
variable {X : Cx} {Wx : WX}
end
end J
set_option Elab.async false
set_option linter.all false
set_option maxRecDepth 100000
set_option maxHeartbeats 1000000
namespace J
open PySem PySem.Spec PyProof.Rows L2
open PySem.W (alike alikeAll dataLt keyToks keyToksAll dataLe EachIs)
section
variable {X : Cx}
end
section
variable {prog : Program} {w : World} {A : Around} {E : Value → Shared → Prop} {s : Shared} {T : String} {r d : Addr} {n : Nat} {P : Nat → Value → Prop} {OK : Heap → Prop} {Q : Value → Shared → Prop}
end

/-! sorted(d.keys()), the keys tuples, d an object of the heap -/
section
variable {X : Cx} {pins : List (Addr × Obj)} {σ : L2.St} {H : Hp} {s : Shared}
end
section
variable {X : Cx} {Wx : WX}
end
section
variable {X : Cx}
end
end J
set_option Elab.async false
set_option linter.all false
set_option maxRecDepth 100000
set_option maxHeartbeats 1000000
namespace J
open PySem PySem.Spec PyProof.Rows L2
theorem goneF_some {n : Nat} {S : List D} {d0 d : D} (h : goneF n S (some d0) = some d) : (d0 = d ∧ d0.flat = true) ∨ (∃ m, d0 = .loc m ∧ d = .loc m ∧ m < n) ∨ ∃ m, d0 = .loc m ∧ n ≤ m ∧ S[m]? = some d ∧ d.flat = true := by
  unfold goneF at h
  simp only at h
  split at h
  · rename_i hf
    cases h
    exact .inl ⟨rfl, hf⟩
  · split at h
    · rename_i m _
      split at h
      · rename_i hm
        cases h
        exact .inr (.inl ⟨_, rfl, rfl, hm⟩)
      · rename_i hm
        split at h
        · rename_i o ho
          split at h
          · rename_i hf
            cases h
            exact .inr (.inr ⟨_, rfl, by omega, ho, hf⟩)
          · cases h
        · cases h
    · cases h
theorem gcF_ok {g : G} {w2 w4 : W} {σ : L2.St} {E3 E4 : Env} {S3 S4 : List D} {n : Nat} (h : gcF n E3 S3 = some (E4, S4)) (G2 : Good w2) (G4 : Good w4) (re : RE g w4 E3 σ) (rs : RS g w4 S3) (x : Ext w2 w4) (hn : w2.rhA.length = n) :
    ∃ w5, At g w5 E4 σ w4.H S4 ∧ Ext w2 w5 ∧ S4.length = n := by
  unfold gcF at h
  split at h
  · rename_i hl
    cases h
    exact ⟨w4, ⟨rfl, G4, re, rs⟩, x, hl⟩
  · split at h
    · rename_i hh
      cases h
      obtain ⟨τ, e1, f1⟩ := x.rho
      have et : w4.rhA.take n = w2.rhA := by rw [e1, List.take_append_of_le_length (Nat.le_of_eq hn.symm), List.take_of_length_le (Nat.le_of_eq hn)]
      have k : Weak w4 ⟨w2.thA, w4.rhA.take n, w4.H⟩ := weak_take rfl fun a z => x.th1 a z
      refine ⟨⟨w2.thA, w4.rhA.take n, w4.H⟩, ⟨rfl, ⟨(List.take_sublist n w4.rhA).nodup G4.nd, fun a ha => G2.sub a (by rw [← et]; exact ha), fun a ha => x.al a (G2.al a ha), fun a ha => G4.nt a (x.th1 a ha)⟩, ⟨by simp [re.1], fun i d e => ?_⟩, take_store k rfl rfl hh.1 hh.2 rs⟩, ⟨⟨[], ?_, by simp⟩, fun _ z => z, fun _ z => .inl z, x.kp, x.al⟩, by rw [List.length_take]; omega⟩
      · rw [List.getElem?_map] at e
        cases q : E3[i]? with
        | none => rw [q] at e; cases e
        | some od =>
          rw [q] at e
          cases od with
          | none => cases e
          | some d0 =>
            have e2 : goneF n S3 (some d0) = some d := Option.some.inj e
            obtain ⟨v, h1, h2⟩ := re.2 i d0 q
            refine ⟨v, h1, ?_⟩
            rcases goneF_some e2 with ⟨rfl, hf⟩ | ⟨m, rfl, rfl, hm⟩ | ⟨m, rfl, hm, ho, hf⟩
            · exact RD.flatW k _ _ hf h2
            · obtain ⟨a, ea, ha⟩ := h2
              exact ⟨a, ea, by show (w4.rhA.take n)[m]? = some a; rw [List.getElem?_take_of_lt hm]; exact ha⟩
            · obtain ⟨a, ea, ha⟩ := h2
              have ro := rs.obj ha ho
              have na : ¬ w2.thA a := fun z => by
                have hm2 : a ∈ τ := by
                  rw [e1, List.getElem?_append_right (by omega)] at ha
                  exact List.mem_of_getElem? ha
                exact G2.al a z (f1 a hm2)
              cases d <;> try exact ro.elim
              · obtain ⟨vs, t, r⟩ := ro
                exact ⟨a, vs, ea, t, na, RDs.flatW k _ _ hf r⟩
              · obtain ⟨vs, t, l, r⟩ := ro
                exact ⟨a, vs, ea, .inl t, l, na, RDs.flatW k _ _ hf r⟩
              · obtain ⟨vs, t, l, r⟩ := ro
                exact ⟨a, vs, ea, .inl t, l, na, RDs.flatW k _ _ hf r⟩
      · show w4.rhA.take n = w2.rhA ++ []
        rw [et, List.append_nil]
    · cases h
section
variable {X : Cx} {Wx : WX} {pos : Pos}
theorem ds_forF {tg iter : Expr} {body : List Stmt} {mi : MI} {t : Tg} {mb : MS} (hp : PassesOwn (model X.prog X.w) X.A X.env X.xe) (hc : X.calm = true) (hi : PI X tg iter (TIof X.g Wx mi)) (hg : PG X tg (TGof X.g t)) (hb : PSs X body (TSof X.g Wx mb))
    (hs : ∀ x, foldedSetIterable iter X.env x = pure x := by intro _; rfl) : PS X (.For tg iter body [] pos) (TSof X.g Wx (sForF t mi mb)) := by
  refine psImp (ps_for hp hc hi hg hb hs) fun D σ H ⟨w, E, S, a, p⟩ => ⟨w, E, S, a, ?_⟩
  unfold sForF at p
  cases hm : mi E S with
  | bad => rw [hm] at p; exact p.elim
  | exc c fs S1 =>
    rw [hm] at p
    exact fun cls dx w' x G' rx rs => p cls dx σ w' x G' rx (a.env.mono a.good x) rs
  | ok src S1 =>
    rw [hm] at p
    intro J0 w1 x1 G1 it rs1
    have p1 : PO_ X.g Wx D w1 (forGoF src t mb S1.length src.len 0 E S1) := p.at x1
    have hn : w1.rhA.length = S1.length := rs1.1.symm
    refine ⟨fun i k σ H => ∃ w2 E2 S2, At X.g w2 E2 σ H S2 ∧ Ext w1 w2 ∧ i + k = src.len ∧ S2.length = S1.length ∧ PO_ X.g Wx D w2 (forGoF src t mb S1.length k i E2 S2),
      ⟨src.len, w1, E, S1, ⟨rfl, G1, a.env.mono a.good x1, rs1⟩, Ext.refl _, by omega, rfl, p1⟩, ?_⟩
    rintro i k σ H ⟨w2, E2, S2, a2, x2, hik, hl2, p2⟩
    have hn2 : w2.rhA.length = S1.length := by rw [← a2.sto.1]; exact hl2
    cases k with
    | zero =>
      simp only [forGoF] at p2
      split at p2
      · rename_i al
        have hi : i = src.len := by omega
        subst hi
        refine .inl ⟨?_, ?_⟩
        · rw [← a2.hp]
          exact it.stop w2 S2 x2 a2.sto al
        · have := p2 σ w2 (Ext.refl _) a2.good a2.env a2.sto
          rw [a2.hp] at this
          exact this
      · exact p2.elim
    | succ k =>
      simp only [forGoF] at p2
      split at p2
      · rename_i al
        split at p2
        · exact p2.elim
        · rename_i d hd
          split at p2
          · exact p2.elim
          · rename_i E1 hE
            have hlt : i < src.len := by omega
            refine .inr ⟨by rw [← a2.hp]; exact it.go i w2 S2 d x2 a2.sto al hd hlt, fun σ' H' => ∃ w2 E2 S2, At X.g w2 E2 σ' H' S2 ∧ Ext w1 w2 ∧ (i + 1) + k = src.len ∧ S2.length = S1.length ∧ PO_ X.g Wx D w2 (forGoF src t mb S1.length k (i + 1) E2 S2), fun σ' H' hN => ⟨k, Nat.lt_succ_self k, hN⟩, fun x H' hy => ?_⟩
            rw [← a2.hp] at hy
            obtain ⟨w3, eH, x3, G3, _, _, r3, rs3⟩ := it.yld i w2 S2 d x H' x2 a2.good a2.sto al hd hlt hy
            refine ⟨w3, E2, S2, d, E1, ⟨eH, G3, a2.env.mono a2.good x3, rs3⟩, r3, hE, fun σ' re _ _ => ⟨w3, E1, S2, ⟨eH, G3, re, rs3⟩, ?_⟩⟩
            have p3 := p2.at x3
            have again : ∀ {E3 : Env} {S3 : List J.D}, PO_ X.g Wx D w3 (match gcF S1.length E3 S3 with | some (E3, S3) => forGoF src t mb S1.length k (i + 1) E3 S3 | none => O.bad) → ∀ σ' w4, Ext w3 w4 → Good w4 → RE X.g w4 E3 σ' → RS X.g w4 S3 →
                ∃ w2 E2 S2, At X.g w2 E2 σ' w4.H S2 ∧ Ext w1 w2 ∧ (i + 1) + k = src.len ∧ S2.length = S1.length ∧ PO_ X.g Wx D w2 (forGoF src t mb S1.length k (i + 1) E2 S2) := fun {E3 S3} q σ' w4 x4 G4 re4 rs4 => by
              split at q
              · rename_i E4 S4 hgc
                have hn3 : w3.rhA.length = S1.length := by rw [← rs3.1]; exact hl2
                obtain ⟨w5, a5, x5, l5⟩ := gcF_ok hgc G3 G4 re4 rs4 x4 hn3
                exact ⟨w5, E4, S4, a5, x2.trans (x3.trans x5), by omega, l5, q.at x5⟩
              · exact q.elim
            cases hbd : mb E1 S2 with
            | nx E3 S3 => rw [hbd] at p3; exact again p3
            | ct E3 S3 => rw [hbd] at p3; exact again p3
            | bk E3 S3 => rw [hbd] at p3; exact p3
            | rt d S3 => rw [hbd] at p3; exact p3
            | exc c fs E3 S3 => rw [hbd] at p3; exact p3
            | bad => rw [hbd] at p3; exact p3
      · exact p2.elim
end
end J
set_option Elab.async false
set_option linter.all false
set_option maxRecDepth 100000
set_option maxHeartbeats 1000000
namespace J
open PySem PySem.Spec PyProof.Rows L2
def iKeysMT (td : TE) : TI := fun σ H R => td σ H fun x H1 => ∃ d o kvs, x = .ref d ∧ H1 d = some (.frz o (.dT kvs)) ∧ R (Itkt d o kvs) H1
section
variable {X : Cx} {Wx : WX} {pos : Pos}
end
end J
set_option Elab.async false
set_option linter.all false
set_option maxRecDepth 100000
set_option maxHeartbeats 1000000
namespace J
open PySem PySem.Spec PyProof.Rows L2
namespace IT
end IT
end J
set_option Elab.async false
set_option linter.all false
set_option maxRecDepth 100000
set_option maxHeartbeats 4000000
namespace J
open PySem PySem.Spec PyProof.Rows L2
def permF (q : Addr) (st : Int) (n : Nat) (last : Value) (ns : List Nat) : Array Value := ([.ref q, rawInt st, rawInt n, last] ++ ns.map fun k : Nat => rawInt k).toArray
def IsPerm (h : Heap) (it q : Addr) (st : Int) (n : Nat) (last : Value) (ns : List Nat) : Prop := ∃ o, h.get? it = some o ∧ o.cls = .type "itertools.permutations" ∧ o.data = .fields (permF q st n last ns)
section
variable {prog : Program} {w : World} {A : Around} {E : Value → Shared → Prop} {s : Shared}
theorem IsPerm.at {h h' : Heap} {it q : Addr} {st : Int} {n : Nat} {last : Value} {ns : List Nat} (x : IsPerm h it q st n last ns) (k : ∀ o, h.get? it = some o → h'.get? it = some o) : IsPerm h' it q st n last ns := by
  obtain ⟨o, ho, r⟩ := x
  exact ⟨o, k o ho, r⟩
theorem IsPerm.upd {h : Heap} {it q : Addr} {st st' : Int} {n : Nat} {last last' : Value} {ns ns' : List Nat} {f : Array Value → Array Value} (x : IsPerm h it q st n last ns) (e : f (permF q st n last ns) = permF q st' n last' ns') : IsPerm (h.update it (Obj.mapFields f)) it q st' n last' ns' := by
  obtain ⟨o, ho, hc, hd⟩ := x
  refine ⟨_, Heap.get?_update_self _ ho (Obj.isFreed_of_fields (Obj.data_mapFields hd _)), (Obj.cls_mapFields ..).trans hc, ?_⟩
  rw [Obj.data_mapFields hd, e]
end
def pst (n : Nat) : Nat → Option (List Nat × List Nat)
  | 0 => some (List.range n, (List.range n).map fun i => n - i)
  | i + 1 => (pst n i).bind fun s => pnx n n s.1 s.2
structure POk2 (n : Nat) (ix cy : List Nat) : Prop where
  l : ix.length = n
  lc : cy.length = n
  b : ∀ x ∈ ix, x < n
def rowH (fz : Bool) (row : List Nat) (ob : HO) : Prop := if fz = true then ∃ o : Obj, o.dict = none ∧ ob = .frz o (.tup (row.map fun k : Nat => V.int k)) else ob = .tup (row.map fun k : Nat => V.int k)
def Itp (fz : Bool) (n : Nat) : It := ⟨fun i _ => ∃ s, pst n i = some s, fun i H v H' => ∃ T ix cy ob, pst n i = some (ix, cy) ∧ v = .ref T ∧ H T = none ∧ rowH fz ix ob ∧ H' = upd H T ob, fun i _ => pst n i = none⟩
def permSt (it q : Addr) (n i : Nat) (h : Heap) : Prop := it ≠ q ∧ ∃ us : Array Value, h.IsTuple q us ∧ ItemsOf (fun i v => ∃ t, v = .int (0 + i * 1) t) us n ∧ ((i = 0 ∧ ∃ ix cy, pst n 0 = some (ix, cy) ∧ IsPerm h it q 0 n .none (ix ++ cy)) ∨ ∃ j last ix cy, i = j + 1 ∧ pst n j = some (ix, cy) ∧ IsPerm h it q 1 n last (ix ++ cy))
section
variable {X : Cx} {Wx : WX}
def tPerm (fz : Bool) (te : TE) : TI := fun σ H R => tRg1 te σ H fun a b H1 => a = 0 ∧ ∃ n : Nat, b = n ∧ n ≤ 100 ∧ R (Itp fz n) H1
end
section
variable {X : Cx} {Wx : WX}
end
end J
set_option Elab.async false
set_option linter.all false
set_option maxRecDepth 100000
set_option maxHeartbeats 4000000
namespace J
open PySem PySem.Spec PyProof.Rows L2
def combF (q : Addr) (st : Int) (last : Value) (ns : List Nat) : Array Value := ([.ref q, rawInt st, last] ++ ns.map fun k : Nat => rawInt k).toArray
def IsComb (h : Heap) (it q : Addr) (st : Int) (last : Value) (ns : List Nat) : Prop := ∃ o, h.get? it = some o ∧ o.cls = .type "itertools.combinations" ∧ o.data = .fields (combF q st last ns)
theorem IsComb.at {h h' : Heap} {it q : Addr} {st : Int} {last : Value} {ns : List Nat} (x : IsComb h it q st last ns) (k : ∀ o, h.get? it = some o → h'.get? it = some o) : IsComb h' it q st last ns := by
  obtain ⟨o, ho, r⟩ := x
  exact ⟨o, k o ho, r⟩
theorem IsComb.upd {h : Heap} {it q : Addr} {st st' : Int} {last last' : Value} {ns ns' : List Nat} {f : Array Value → Array Value} (x : IsComb h it q st last ns) (e : f (combF q st last ns) = combF q st' last' ns') : IsComb (h.update it (Obj.mapFields f)) it q st' last' ns' := by
  obtain ⟨o, ho, hc, hd⟩ := x
  refine ⟨_, Heap.get?_update_self _ ho (Obj.isFreed_of_fields (Obj.data_mapFields hd _)), (Obj.cls_mapFields ..).trans hc, ?_⟩
  rw [Obj.data_mapFields hd, e]
section
variable {prog : Program} {w : World} {A : Around} {E : Value → Shared → Prop} {s : Shared}
end
def cst (n m : Nat) : Nat → Option (List Nat)
  | 0 => some (List.range m)
  | i + 1 => (cst n m i).bind fun s => cnx n s
structure COk2 (n m : Nat) (ix : List Nat) : Prop where
  l : ix.length = m
  b : ∀ k, k < m → ix.getD k 0 + m ≤ k + n
theorem COk2.lt {n m : Nat} {ix : List Nat} (K : COk2 n m ix) : ∀ x ∈ ix, x < n := fun x hx => by
  obtain ⟨k, hk, e⟩ := List.getElem_of_mem hx
  have h1 := K.b k (by rw [← K.l]; exact hk)
  rw [List.getD_eq_getElem?_getD, List.getElem?_eq_getElem hk] at h1
  have h2 : ix[k] + m ≤ k + n := h1
  have := K.l
  omega
def Itcb (n m : Nat) : It := ⟨fun i _ => ∃ s, cst n m i = some s, fun i H v H' => ∃ T ix, cst n m i = some ix ∧ v = .ref T ∧ H T = none ∧ H' = upd H T (.tup (ix.map fun k : Nat => V.int k)), fun i _ => cst n m i = none⟩
def combSt (it q : Addr) (n m i : Nat) (h : Heap) : Prop := it ≠ q ∧ ∃ us : Array Value, h.IsTuple q us ∧ ItemsOf (fun i v => ∃ t, v = .int (0 + i * 1) t) us n ∧ ((i = 0 ∧ ∃ ix, cst n m 0 = some ix ∧ IsComb h it q 0 .none ix) ∨ ∃ j last ix, i = j + 1 ∧ cst n m j = some ix ∧ IsComb h it q 1 last ix)
section
variable {X : Cx} {Wx : WX}
def tComb (te : TE) (k : Nat) : TI := fun σ H R => tRg1 te σ H fun a b H1 => ∃ n m : Nat, σ[k]? = some (some (.int m)) ∧ a = 0 ∧ b = n ∧ n ≤ 100 ∧ m ≤ n ∧ R (Itcb n m) H1
end
section
variable {X : Cx} {Wx : WX}
end
end J
set_option Elab.async false
set_option linter.all false
set_option maxRecDepth 100000
set_option maxHeartbeats 4000000
namespace J
open PySem PySem.Spec PyProof.Rows L2
section
variable {X : Cx} {Wx : WX} {a : Expr} {ma : ME}
end
section
variable {X : Cx} {Wx : WX}
end
end J
set_option Elab.async false
set_option linter.all false
set_option maxRecDepth 100000
set_option maxHeartbeats 4000000
namespace J
open PySem PySem.Spec PyProof.Rows L2
open PySem.W (alike alikeAll dataLt keyToks keyToksAll dataLe EachIs)
def StdK (g : G) (w : W) (u : Value) (d : D) : Prop := ∃ es x, d = .tup es ∧ RD g w (.tuk es) x ∧ RelV x u
theorem stdK_reads {g : G} {w : W} {X : Cx} {pins : List (Addr × Obj)} {σ : L2.St} {s : Shared} (hg : X.g = g) (I : Inv X pins σ w.H s) : ∀ {ds : List D} {us : List Value}, (∀ d ∈ ds, d.cmpb = true) → EachIs (StdK g w) us ds → EachIs (fun v d => ∃ as, Reads s.heap v (D.py d) as) us ds
  | _, _, _, .nil => .nil
  | _, _, hc, .cons ⟨es, v, e, h1, k1⟩ t => by
    refine .cons ?_ (stdK_reads hg I (fun d hd => hc d (List.mem_cons_of_mem _ hd)) t)
    subst hg e
    obtain ⟨a, vs, o, rfl, t', hd, n, r3⟩ := h1
    have c := hc _ List.mem_cons_self
    exact Dp.reads I _ _ _ (.tup (show SqT X.K w.H a _ from .inl (.inr ⟨o, t'⟩)) (pys_dp _ vs (by simpa [D.cmpb] using c) r3)) k1
section
variable {X : Cx} {Wx : WX} {pos : Pos}
end
end J
set_option Elab.async false
set_option linter.all false
set_option maxRecDepth 100000
set_option maxHeartbeats 4000000
namespace J
open PySem PySem.Spec PyProof.Rows L2
open PySem.W (alike alikeAll dataLt keyToks keyToksAll dataLe EachIs)
theorem unTuks_len : ∀ {ds rows : List D}, unTuks ds = some rows → rows.length = ds.length
  | [], _, e => by cases e; rfl
  | d :: ds, rows, e => by
    cases d <;> simp only [unTuks, Option.map_eq_some_iff, reduceCtorEq] at e
    obtain ⟨b, h1, rfl⟩ := e
    simp [unTuks_len h1]
theorem stdU_each {g : G} {w : W} : ∀ {ds rows : List D} {vs : List V} {us : List Value}, unTuks ds = some rows → RDs g w ds vs → Vals vs us → EachIs (StdK g w) us rows
  | [], rows, _, _, e, h, k => by cases e; cases h; cases k; exact .nil
  | d :: ds, rows, _, _, e, h, k => by
    cases d <;> simp only [unTuks, Option.map_eq_some_iff, reduceCtorEq] at e
    obtain ⟨b, h1, rfl⟩ := e
    obtain ⟨v, r, rfl, r1, r2⟩ := h
    cases k with
    | cons k1 k2 => exact .cons ⟨_, v, rfl, r1, k1⟩ (stdU_each h1 r2 k2)
section
variable {X : Cx} {Wx : WX} {pos : Pos}
theorem jc_minU (hc : X.calm = true) (hu : X.A.units + 64 < cLine) : CallR X (.builtin "min") (argOf X.g bMinU) := by
  intro pins s σ H xs us Q I r ⟨Wx, σ', w, S, ds, hH, G, rs, r1, p⟩
  subst hH
  unfold bMinU at p
  split at p
  · obtain ⟨v, rfl, r2⟩ := r1.one'
    split at p
    · rename_i zs ez
      split at p
      · rename_i x xs e
        split at p
        · rename_i ok
          obtain ⟨a, vs, rfl, t, r3⟩ := lstAny_lst rs r2 ez
          obtain ⟨its, rv, hl, hz⟩ := I.list t
          obtain ⟨u, rfl, ru⟩ := vals1 r
          obtain rfl : u = Value.ref a := ru
          have hlen : its.length = (x :: xs).length := by rw [← rv.length, r3.length, unTuks_len e]
          unfold okMin at ok
          rw [Bool.and_eq_true, List.all_eq_true, List.all_eq_true] at ok
          have hord : ∀ d ∈ x :: xs, d.cmpb = true ∧ d.depth ≤ 60 := fun d hd => by
            have := ok.1 d hd
            unfold ordOk at this
            simp only [Bool.and_eq_true, decide_eq_true_eq] at this
            exact this
          have hob : ∀ d ∈ x :: xs, d.ordB = true := fun d hd => (shp_ord _ _ (ok.2 d hd)).2
          have hal : ∀ d ∈ x :: xs, ∀ e ∈ x :: xs, alike d.py e.py = true := fun d hd e he => shp_alike _ _ _ (ok.2 d hd) (ok.2 e he)
          have es := stdU_each e r3 rv
          have er := stdK_reads rfl I (fun d hd => (hord d hd).1) es
          refine call_min_walkH (PySem.W.iter_listW (A := X.A.in1) (by exact I.ok.hd hc) hl.isList fun s₂ e W st hfp hw hk => ?_)
          refine ⟨_, _, _, _, _, _, _, s.heap, (fun i j => dataLt (((x :: xs).getD i .non).py) (((x :: xs).getD j .non).py)), rfl, W, st, hfp, ?_, hw, hk, ?_, fun v s' hP m => ?_⟩
          · have : its.toArray.size = its.length := by simp
            simp only [List.length_cons] at hlen
            omega
          · intro i j vi vj s' Q E hk hi hj hq
            have hi' : its[i]? = some vi := by simpa using hi
            have hj' : its[j]? = some vj := by simpa using hj
            obtain ⟨di, d1, as1, q1⟩ := each_get er i vi hi'
            obtain ⟨dj, d2, as2, q2⟩ := each_get er j vj hj'
            have m1 := List.mem_of_getElem? d1
            have m2 := List.mem_of_getElem? d2
            have e1 : (x :: xs).getD i .non = di := by rw [List.getD_eq_getElem?_getD, d1]; rfl
            have e2 : (x :: xs).getD j .non = dj := by rw [List.getD_eq_getElem?_getD, d2]; rfl
            simp only [e1, e2] at hq
            refine PySem.W.rcLt_alike _ _ X.A.in1 s' vi vj _ _ (PySem.W.reads_keeps hk q1) (PySem.W.reads_keeps hk q2) (hal _ m1 _ m2) ?_ ?_ X.prog X.w E Q hq
            · intro z
              have := hob _ m1
              cases di <;> simp [D.py] at z <;> simp [D.ordB] at this
            · have h1 := py_depth di (hord _ m1).1
              have h2 := (hord _ m1).2
              have := Nat.min_le_left di.py.depth dj.py.depth
              show X.A.units + 1 + _ < cLine
              omega
          · obtain ⟨h', tk, rfl, hk'⟩ := PySem.W.moved_old e rfl m
            have hP' : its[argBest (fun i j => dataLt (((x :: xs).getD i .non).py) (((x :: xs).getD j .non).py)) (its.toArray.size - 1)]? = some v := by simpa using hP
            obtain ⟨d, d1, es', xv, ed, q1, q2⟩ := each_get es _ v hP'
            have hsz : its.toArray.size - 1 = xs.length := by simp only [List.size_toArray, hlen, List.length_cons]; omega
            rw [hsz] at d1
            have e2 := (PySem.W.argBest_fold (fun a b : D => dataLt a.py b.py) D.non x xs xs.length (Nat.le_refl _)).2
            rw [List.take_length] at e2
            have e3 : d = minT x xs := by
              have : (x :: xs).getD (argBest (fun i j => dataLt (((x :: xs).getD i .non).py) (((x :: xs).getD j .non).py)) xs.length) .non = d := by rw [List.getD_eq_getElem?_getD, d1]; rfl
              rw [← this]
              refine e2.trans ?_
              unfold minT
              exact fold_cg (f := fun a b : D => dataLt a.py b.py) (g := D.lt) (P := fun d => d ∈ x :: xs) (fun a b ha hb => (lt_py a b (hob a ha) (hob b hb) (hord a ha).1 (hord b hb).1 (hal a ha b hb)).symm) xs x List.mem_cons_self fun y hy => List.mem_cons_of_mem _ hy
            have e4 : toTuk (minT x xs) = .tuk es' := by
              rw [← e3, ed]
              rfl
            rw [e4] at p
            exact ⟨xv, w.H, I.kept hk', q2, putSame p G rs q1⟩
        · exact p.elim
      · exact p.elim
    · exact p.elim
  · exact p.elim
theorem unTuks_dp {g : G} {w : W} : ∀ {ds rows : List D} {vs : List V}, unTuks ds = some rows → D.cmpbs rows = true → RDs g w ds vs → DpAll g.K w.H vs (D.pys rows)
  | [], rows, _, e, _, r => by cases e; cases r; exact .nil
  | d :: ds, rows, _, e, h, r => by
    cases d <;> simp only [unTuks, Option.map_eq_some_iff, reduceCtorEq] at e
    obtain ⟨b, h1, rfl⟩ := e
    obtain ⟨v, vs, rfl, r1, r2⟩ := r
    simp only [D.cmpbs, Bool.and_eq_true] at h
    obtain ⟨a, us, o, rfl, t, hd, na, r3⟩ := r1
    exact .cons (.tup (.inl (.inr ⟨o, t⟩)) (pys_dp _ us h.1 r3)) (unTuks_dp h1 h.2 r2)
theorem jo_neU (hu : X.A.units + 64 < cLine) : OpR X (compareOp .NotEq) (opOf X.g oNeU) := by
  intro pins s σ H x y v u Q I rx ry ⟨Wx, σ', w, S, d, e, hH, G, rs, r1, r2, p⟩
  unfold oNeU at p
  split at p
  · split at p
    · rename_i rows er
      subst hH
      split at p
      · rename_i h
        obtain ⟨a, vs, rfl, t, na, r3⟩ := r1
        have c : D.cmpbs rows = true := by
          have := cmpOk_b h
          simpa [D.cmpb] using this
        have dx : Dp X.K w.H (.ref a) (D.py (.lst rows)) := .lst (.inl (.inl t)) (unTuks_dp er c r3)
        have h0 : cmpOk (.lst []) = true := rfl
        refine op_neD hu pins s σ _ _ _ v u Q I rx ry ⟨_, _, dx, seen_dp rs r2 (show cmpOk (seen S (.lst [])) = true from rfl), py_shaped h, py_shaped h0, ?_⟩
        rw [show PyData.eqv (D.py (.lst rows)) (D.py (seen S (.lst []))) = D.eqB (.lst rows) (.lst []) from py_eqv _ _ (cmpOk_b h) rfl]
        have e : D.eqB (.lst rows) (.lst []) = rows.isEmpty := by cases rows <;> rfl
        rw [e]
        exact putSame p G rs rfl
      · exact p.elim
    · exact jo_ne hu pins s σ H x y v u Q I rx ry ⟨Wx, σ', w, S, .lst _, .lst [], hH, G, rs, r1, r2, p⟩
  · exact jo_ne hu pins s σ H x y v u Q I rx ry ⟨Wx, σ', w, S, d, e, hH, G, rs, r1, r2, p⟩
end
end J
set_option linter.all false
set_option maxRecDepth 100000
namespace K11
open J PySem
def C1_p_law_alike (R : MF) : MT :=
  (tNot (tTr (eArgs (callF R) (aCons (eOp oIxK (eVar 0) (eVar 2)) (aCons (eOp oIxK (eVar 1) (eVar 2)) aNil)))))
def V2_p_law_alike (R : MF) : ME :=
  (eVar 2)
def S_p_law_alike (R : MF) : MS :=
  (sSeq (sIf (tTr (eUn (oIsi ["tuple", "list"]) (eVar 1))) (sSeq (sIf (tOr (tNot (tTr (eUn (oIsi ["tuple", "list"]) (eVar 0)))) (tV (eOp oNe (eUn (oIsi ["list"]) (eVar 0)) (eUn (oIsi ["list"]) (eVar 1))))) (sRet (eC (.bl false))) sNext)
    (sSeq (sIf (tV (eOp oNe (eArgs bLenK (aCons (eVar 0) aNil)) (eArgs bLenK (aCons (eVar 1) aNil)))) (sRet (eC (.bl false))) sNext)
    (sRet (eOp oEq (eLc [2] (.nm 2) (iRng1 (eArgs bLenK (aCons (eVar 1) aNil))) (C1_p_law_alike R) (V2_p_law_alike R)) (eArgs bLst aNil))))) sNext)
    (sSeq (sIf (tOr (tV (eUn oIsN (eVar 1))) (tTr (eUn (oIsi ["str"]) (eVar 1)))) (sRet (eAnd (eOp oEq (eVar 0) (eVar 1)) (eOp oEq (eUn (oIsi ["str"]) (eVar 0)) (eUn (oIsi ["str"]) (eVar 1))))) sNext)
    (sRet (eAnd (eUn (oIsi ["int"]) (eVar 0)) (eAnd (eOp oEq (eUn (oIsi ["bool"]) (eVar 0)) (eUn (oIsi ["bool"]) (eVar 1))) (eOp oEq (eVar 0) (eVar 1)))))))
def F_p_law_alike : Nat → MF
  | 0 => fnF 2 3 sNever
  | k + 1 => fnF 2 3 (S_p_law_alike (F_p_law_alike k))

def S_p_law_taken : MS :=
  (sSeq (sIf (tV (eOp oGt (eOp oIx (eVar 0) (eC (.int 3))) (eC (.int 0)))) (sSeq (sSet 2 (eOp oMod (eArgs bInt (aCons (eOp oIx (eVar 0) (eC (.int 3))) aNil)) (eVar 1)))
    (sSeq (sPut (eVar 0) (eC (.int 3)) (eOp oDiv (eOp oIx (eVar 0) (eC (.int 3))) (eVar 1)))
    (sRet (eVar 2)))) sNext)
    (sSeq (sPut (eVar 0) (eC (.int 1)) (eOp oAdd (eOp oIx (eVar 0) (eC (.int 1))) (eC (.int 1))))
    (sSeq (sIf (tV (eOp oGt (eOp oIx (eVar 0) (eC (.int 1))) (eArgs bLen (aCons (eOp oIx (eVar 0) (eC (.int 0))) aNil)))) (sSeq (sPut (eVar 0) (eC (.int 2)) (eOp oMod (eArgs bInt (aCons (eOp oAdd (eOp oMul (eOp oIx (eVar 0) (eC (.int 2))) (eC (.int 48271))) (eC (.int 11))) aNil)) (eC (.int 2147483647))))
    (sRet (eOp oMod (eArgs bInt (aCons (eOp oDiv (eOp oIx (eVar 0) (eC (.int 2))) (eC (.int 7))) aNil)) (eVar 1)))) sNext)
    (sSeq (sSet 3 (eOp oIx (eOp oIx (eVar 0) (eC (.int 0))) (eOp oSub (eOp oIx (eVar 0) (eC (.int 1))) (eC (.int 1)))))
    (sSeq (sPut (eVar 0) (eC (.int 2)) (eOp oMod (eArgs bInt (aCons (eOp oAdd (eOp oAdd (eOp oMul (eOp oIx (eVar 0) (eC (.int 2))) (eC (.int 48271))) (eVar 3)) (eC (.int 11))) aNil)) (eC (.int 2147483647))))
    (sSeq (sIf (tV (eOp oGe (eVar 3) (eOp oPow (eC (.int 10)) (eC (.int 18))))) (sPut (eVar 0) (eC (.int 3)) (eOp oDiv (eVar 3) (eVar 1))) sNext)
    (sRet (eOp oMod (eArgs bInt (aCons (eVar 3) aNil)) (eVar 1)))))))))
def F_p_law_taken : MF := fnF 2 4 S_p_law_taken

def B1_p_law_any : MS :=
  (sExpr (eMeth mAppend (eVar 2) (aCons (eArgs bTup (aCons (eArgs (callF F_p_law_taken) (aCons (eVar 0) (aCons (eVar 1) aNil))) (aCons (eArgs (callF F_p_law_taken) (aCons (eVar 0) (aCons (eVar 1) aNil))) (aCons (eOp oAdd (eC (.int 1)) (eArgs (callF F_p_law_taken) (aCons (eVar 0) (aCons (eC (.int 3)) aNil)))) (aCons (eOp oAdd (eC (.int 1)) (eArgs (callF F_p_law_taken) (aCons (eVar 0) (aCons (eC (.int 3)) aNil)))) (aCons (eArgs (callF F_p_law_taken) (aCons (eVar 0) (aCons (eC (.int 6)) aNil))) aNil)))))) aNil)))
def S_p_law_any : MS :=
  (sSeq (sSet 1 (eOp oAdd (eC (.int 1)) (eArgs (callF F_p_law_taken) (aCons (eVar 0) (aCons (eC (.int 5)) aNil)))))
    (sSeq (sSet 2 (eArgs bLstL aNil))
    (sSeq (sFor (.nm 3) (iRng1 (eArgs (callF F_p_law_taken) (aCons (eVar 0) (aCons (eC (.int 7)) aNil)))) B1_p_law_any)
    (sRet (eArgs bTup (aCons (eVar 1) (aCons (eArgs bTuple (aCons (eVar 2) aNil)) aNil)))))))
def F_p_law_any : MF := fnF 1 4 S_p_law_any

def V1_p_law_counts : ME :=
  (eArgs (callF F_p_law_taken) (aCons (eVar 0) (aCons (eOp oAdd (eVar 2) (eC (.int 1))) aNil)))
def S_p_law_counts : MS :=
  (sRet (eArgs bTuple (aCons (eLc [3] (.nm 3) (iRng1 (eOp oIx (eVar 1) (eC (.int 0)))) J.tYes V1_p_law_counts) aNil)))
def F_p_law_counts : MF := fnF 3 4 S_p_law_counts

def C1_p_law_can : MT :=
  (tAnd (tV (eOp oEq (eOp oIx (eOp oIx (eOp oIx (eVar 0) (eC (.int 1))) (eVar 3)) (eC (.int 1))) (eVar 2))) (tV (eOp oGt (eOp oIx (eOp oIx (eOp oIx (eVar 0) (eC (.int 1))) (eVar 3)) (eC (.int 3))) (eOp oIx (eVar 1) (eVar 3)))))
def V2_p_law_can : ME :=
  (eVar 3)
def S_p_law_can : MS :=
  (sRet (eOp oEq (eLc [3] (.nm 3) (iRng1 (eArgs bLen (aCons (eVar 1) aNil))) C1_p_law_can V2_p_law_can) (eArgs bLst aNil)))
def F_p_law_can : MF := fnF 3 4 S_p_law_can

def B1_p_law_next : MS :=
  (sSeq (sAsg (.tp [(.nm 5), (.nm 6), (.nm 7), (.nm 8), (.nm 9)]) (eOp oIx (eOp oIx (eVar 0) (eC (.int 1))) (eVar 4)))
    (sExpr (eMeth mAppend (eVar 3) (aCons (eOp oAdd (eOp oSub (eOp oIx (eVar 1) (eVar 4)) (eIf (tV (eOp oEq (eVar 6) (eVar 2))) (eVar 8) (eC (.int 0)))) (eIf (tV (eOp oEq (eVar 5) (eVar 2))) (eVar 7) (eC (.int 0)))) aNil))))
def S_p_law_next : MS :=
  (sSeq (sSet 3 (eArgs bLstL aNil))
    (sSeq (sFor (.nm 4) (iRng1 (eArgs bLen (aCons (eVar 1) aNil))) B1_p_law_next)
    (sRet (eArgs bTuple (aCons (eVar 3) aNil)))))
def F_p_law_next : MF := fnF 3 10 S_p_law_next

def V1_p_law_some : ME :=
  (eOp oIx (eVar 1) (eC (.int 4)))
def S_p_law_some : MS :=
  (sRet (eArgs bTuple (aCons (eLc [1] (.nm 1) (iSeq (eOp oIx (eVar 0) (eC (.int 1)))) J.tYes V1_p_law_some) aNil)))
def F_p_law_some : MF := fnF 1 2 S_p_law_some

def C1_p_law_do : MT :=
  (tAnd (tV (eOp oLt (eOp oIx (eVar 3) (eVar 6)) (eOp oIx (eVar 1) (eVar 6)))) (tTr (eArgs (callF F_p_law_can) (aCons (eVar 0) (aCons (eVar 2) (aCons (eVar 6) aNil))))))
def V2_p_law_do : ME :=
  (eVar 6)
def B3_p_law_do : MS :=
  (sSeq (sSet 5 (eLc [6] (.nm 6) (iRng1 (eOp oIx (eVar 0) (eC (.int 0)))) C1_p_law_do V2_p_law_do))
    (sSeq (sIf (tV (eOp oEq (eVar 5) (eArgs bLst aNil))) (sRet (eArgs bTup (aCons (eVar 3) (aCons (eVar 2) aNil)))) sNext)
    (sSeq (sSet 2 (eArgs (callF F_p_law_next) (aCons (eVar 0) (aCons (eVar 2) (aCons (eOp oIx (eVar 5) (eUn oNeg (eC (.int 1)))) aNil)))))
    (sPut (eVar 3) (eOp oIx (eVar 5) (eUn oNeg (eC (.int 1)))) (eOp oAdd (eOp oIx (eVar 3) (eOp oIx (eVar 5) (eUn oNeg (eC (.int 1))))) (eC (.int 1)))))))
def S_p_law_do : MS :=
  (sSeq (sAsg (.tp [(.nm 2), (.nm 3)]) (eArgs bTup (aCons (eArgs (callF F_p_law_some) (aCons (eVar 0) aNil)) (aCons (eOp oMulL (eArgs bLst (aCons (eC (.int 0)) aNil)) (eOp oIx (eVar 0) (eC (.int 0)))) aNil))))
    (sSeq (sFor (.nm 4) (iRng1 (eOp oAdd (eArgs bSum (aCons (eVar 1) aNil)) (eC (.int 1)))) B3_p_law_do)
    (sRet (eArgs bTup (aCons (eVar 3) (aCons (eVar 2) aNil))))))
def F_p_law_do : MF := fnF 2 7 S_p_law_do

def B1_p_law_gcd : MS :=
  (sPar [0, 1] (aCons (eVar 1) (aCons (eOp oMod (eArgs bInt (aCons (eVar 0) aNil)) (eVar 1)) aNil)))
def C2_p_law_gcd : MT :=
  (tV (eOp oNe (eVar 1) (eC (.int 0))))
def S_p_law_gcd : MS :=
  (sSeq (sPar [0, 1] (aCons (eArgs bAbs (aCons (eVar 0) aNil)) (aCons (eArgs bAbs (aCons (eVar 1) aNil)) aNil)))
    (sSeq (sWhile 1000000 C2_p_law_gcd B1_p_law_gcd)
    (sRet (eVar 0))))
def F_p_law_gcd : MF := fnF 2 2 S_p_law_gcd

def S_p_law_pick : MS :=
  (sRet (eOp oIx (eVar 1) (eArgs (callF F_p_law_taken) (aCons (eVar 0) (aCons (eArgs bLen (aCons (eVar 1) aNil)) aNil)))))
def F_p_law_pick : MF := fnF 2 2 S_p_law_pick

def V1_p_law_flow : ME :=
  (eOp oAdd (eC (.int 1)) (eArgs (callF F_p_law_taken) (aCons (eVar 0) (aCons (eArgs (callF F_p_law_pick) (aCons (eVar 0) (aCons (eArgs bLst (aCons (eC (.int 1)) (aCons (eC (.int 3)) (aCons (eC (.int 4)) aNil)))) aNil))) aNil))))
def B2_p_law_flow : MS :=
  (sIf (tV (eOp oGt (eArgs (callF F_p_law_taken) (aCons (eVar 0) (aCons (eC (.int 8)) aNil))) (eC (.int 0)))) (sSeq (sSet 8 (eArgs bTup (aCons (eIf (tV (eOp oEq (eVar 4) (eC (.int 0)))) (eOp oSub (eVar 7) (eC (.int 1))) (eArgs (callF F_p_law_taken) (aCons (eVar 0) (aCons (eVar 7) aNil)))) (aCons (eVar 7) aNil))))
    (sExpr (eMeth mAppend (eVar 5) (aCons (eIf (tV (eOp oGt (eArgs (callF F_p_law_taken) (aCons (eVar 0) (aCons (eC (.int 3)) aNil))) (eC (.int 0)))) (eVar 8) (eArgs bTup (aCons (eOp oIx (eVar 8) (eC (.int 1))) (aCons (eOp oIx (eVar 8) (eC (.int 0))) aNil)))) aNil)))) sNext)
def B3_p_law_flow : MS :=
  (sExpr (eMeth mAppend (eVar 5) (aCons (eArgs bTup (aCons (eArgs (callF F_p_law_taken) (aCons (eVar 0) (aCons (eVar 3) aNil))) (aCons (eArgs (callF F_p_law_taken) (aCons (eVar 0) (aCons (eVar 3) aNil))) aNil))) aNil)))
def B4_p_law_flow : MS :=
  (sSeq (sSet 13 (eArgs (callF F_p_law_gcd) (aCons (eOp oIx (eVar 6) (eVar 11)) (aCons (eOp oIx (eVar 6) (eVar 12)) aNil))))
    (sSeq (sSet 14 (eArgs (callF F_p_law_pick) (aCons (eVar 0) (aCons (eArgs bLst (aCons (eC (.int 1)) (aCons (eC (.int 1)) (aCons (eC (.int 2)) aNil)))) aNil))))
    (sExpr (eMeth mAppend (eVar 10) (aCons (eArgs bTup (aCons (eVar 11) (aCons (eVar 12) (aCons (eOp oDiv (eOp oMul (eVar 14) (eOp oIx (eVar 6) (eVar 12))) (eVar 13)) (aCons (eOp oDiv (eOp oMul (eVar 14) (eOp oIx (eVar 6) (eVar 11))) (eVar 13)) (aCons (eArgs (callF F_p_law_taken) (aCons (eVar 0) (aCons (eOp oAdd (eVar 2) (eC (.int 1))) aNil))) aNil)))))) aNil)))))
def S_p_law_flow : MS :=
  (sSeq (sPar [3, 4, 5] (aCons (eOp oAdd (eC (.int 1)) (eArgs (callF F_p_law_taken) (aCons (eVar 0) (aCons (eVar 1) aNil)))) (aCons (eArgs (callF F_p_law_taken) (aCons (eVar 0) (aCons (eC (.int 5)) aNil))) (aCons (eArgs bLstL aNil) aNil))))
    (sSeq (sSet 6 (eLc [7] (.nm 7) (iRng1 (eVar 3)) J.tYes V1_p_law_flow))
    (sSeq (sFor (.nm 7) (iRng2 (eC (.int 1)) (eVar 3)) B2_p_law_flow)
    (sSeq (sFor (.nm 9) (iRng1 (eIf (tV (eOp oGt (eVar 4) (eC (.int 0)))) (eArgs (callF F_p_law_taken) (aCons (eVar 0) (aCons (eC (.int 3)) aNil))) (eC (.int 0)))) B3_p_law_flow)
    (sSeq (sSet 10 (eArgs bLstL aNil))
    (sSeq (sFor (.tp [(.nm 11), (.nm 12)]) (iSeq (eVar 5)) B4_p_law_flow)
    (sRet (eArgs bTup (aCons (eVar 3) (aCons (eArgs bTuple (aCons (eVar 10) aNil)) aNil))))))))))
def F_p_law_flow : MF := fnF 3 15 S_p_law_flow

def C1_p_law_joined : MT :=
  (tV (eOp oIn (eOp oIx (eVar 6) (eC (.int 0))) (eVar 3)))
def V2_p_law_joined : ME :=
  (eOp oIx (eVar 6) (eC (.int 1)))
def C3_p_law_joined : MT :=
  (tAnd (tTr (eVar 2)) (tV (eOp oIn (eOp oIx (eVar 6) (eC (.int 1))) (eVar 3))))
def V4_p_law_joined : ME :=
  (eOp oIx (eVar 6) (eC (.int 0)))
def C5_p_law_joined : MT :=
  (tOr (tV (eOp oIn (eVar 7) (eVar 3))) (tV (eOp oIn (eVar 7) (eVar 5))))
def V6_p_law_joined : ME :=
  (eVar 7)
def B7_p_law_joined : MS :=
  (sSeq (sSet 5 (eLc [6] (.nm 6) (iSeq (eOp oIx (eVar 0) (eC (.int 1)))) C1_p_law_joined V2_p_law_joined))
    (sSeq (sSet 5 (eOp oAdd (eVar 5) (eLc [6] (.nm 6) (iSeq (eOp oIx (eVar 0) (eC (.int 1)))) C3_p_law_joined V4_p_law_joined)))
    (sSet 3 (eLc [7] (.nm 7) (iRng1 (eOp oIx (eVar 0) (eC (.int 0)))) C5_p_law_joined V6_p_law_joined))))
def S_p_law_joined : MS :=
  (sSeq (sSet 3 (eArgs bLst (aCons (eVar 1) aNil)))
    (sSeq (sFor (.nm 4) (iRng1 (eOp oIx (eVar 0) (eC (.int 0)))) B7_p_law_joined)
    (sRet (eVar 3))))
def F_p_law_joined : MF := fnF 3 8 S_p_law_joined

def S_p_law_ratio : MS :=
  (sSeq (sSet 2 (eArgs (callF F_p_law_gcd) (aCons (eVar 0) (aCons (eVar 1) aNil))))
    (sSeq (sSet 2 (eIf (tV (eOp oLt (eVar 1) (eC (.int 0)))) (eOp oSub (eC (.int 0)) (eVar 2)) (eVar 2)))
    (sRet (eArgs bTup (aCons (eOp oDiv (eVar 0) (eVar 2)) (aCons (eOp oDiv (eVar 1) (eVar 2)) aNil))))))
def F_p_law_ratio : MF := fnF 2 3 S_p_law_ratio

def B1_p_law_round : MS :=
  (sSeq (sIf (tAnd (tV (eOp oIn (eVar 4) (eVar 1))) (tV (eOp oNin (eVar 5) (eVar 1)))) (sPut (eVar 1) (eVar 5) (eArgs (callF F_p_law_ratio) (aCons (eOp oMul (eOp oIx (eOp oIx (eVar 1) (eVar 4)) (eC (.int 0))) (eVar 6)) (aCons (eOp oMul (eOp oIx (eOp oIx (eVar 1) (eVar 4)) (eC (.int 1))) (eVar 7)) aNil)))) sNext)
    (sIf (tAnd (tV (eOp oIn (eVar 5) (eVar 1))) (tV (eOp oNin (eVar 4) (eVar 1)))) (sPut (eVar 1) (eVar 4) (eArgs (callF F_p_law_ratio) (aCons (eOp oMul (eOp oIx (eOp oIx (eVar 1) (eVar 5)) (eC (.int 0))) (eVar 7)) (aCons (eOp oMul (eOp oIx (eOp oIx (eVar 1) (eVar 5)) (eC (.int 1))) (eVar 6)) aNil)))) sNext))
def B2_p_law_round : MS :=
  (sFor (.tp [(.nm 4), (.nm 5), (.nm 6), (.nm 7), (.nm 8)]) (iSeq (eOp oIx (eVar 0) (eC (.int 1)))) B1_p_law_round)
def B3_p_law_round : MS :=
  (sIf (tV (eOp oNin (eVar 2) (eVar 1))) (sSeq (sPut (eVar 1) (eVar 2) (eArgs bTup (aCons (eC (.int 1)) (aCons (eC (.int 1)) aNil))))
    (sFor (.nm 3) (iRng1 (eOp oIx (eVar 0) (eC (.int 0)))) B2_p_law_round)) sNext)
def B4_p_law_round : MS :=
  (sSet 11 (eOp oDiv (eOp oMul (eVar 11) (eOp oIx (eOp oIx (eVar 1) (eVar 13)) (eC (.int 1)))) (eArgs (callF F_p_law_gcd) (aCons (eVar 11) (aCons (eOp oIx (eOp oIx (eVar 1) (eVar 13)) (eC (.int 1))) aNil)))))
def B5_p_law_round : MS :=
  (sSet 12 (eArgs (callF F_p_law_gcd) (aCons (eVar 12) (aCons (eOp oDiv (eOp oMul (eVar 11) (eOp oIx (eOp oIx (eVar 1) (eVar 13)) (eC (.int 0)))) (eOp oIx (eOp oIx (eVar 1) (eVar 13)) (eC (.int 1)))) aNil))))
def B6_p_law_round : MS :=
  (sSeq (sPar [10, 11, 12] (aCons (eArgs (callF F_p_law_joined) (aCons (eVar 0) (aCons (eVar 2) (aCons (eC (.bl true)) aNil)))) (aCons (eC (.int 1)) (aCons (eC (.int 0)) aNil))))
    (sSeq (sFor (.nm 13) (iSeq (eVar 10)) B4_p_law_round)
    (sSeq (sFor (.nm 13) (iSeq (eVar 10)) B5_p_law_round)
    (sExpr (eMeth mAppend (eVar 9) (aCons (eOp oDiv (eOp oDiv (eOp oMul (eVar 11) (eOp oIx (eOp oIx (eVar 1) (eVar 2)) (eC (.int 0)))) (eOp oIx (eOp oIx (eVar 1) (eVar 2)) (eC (.int 1)))) (eVar 12)) aNil))))))
def S_p_law_round : MS :=
  (sSeq (sSet 1 eDctL)
    (sSeq (sFor (.nm 2) (iRng1 (eOp oIx (eVar 0) (eC (.int 0)))) B3_p_law_round)
    (sSeq (sSet 9 (eArgs bLstL aNil))
    (sSeq (sFor (.nm 2) (iRng1 (eOp oIx (eVar 0) (eC (.int 0)))) B6_p_law_round)
    (sRet (eVar 9))))))
def F_p_law_round : MF := fnF 1 14 S_p_law_round

def V1_p_law_with : ME :=
  (eOp oAdd (eSl (eOp oIx (eOp oIx (eVar 0) (eC (.int 1))) (eVar 2)) none (some (eC (.int 4)))) (eArgs bTup (aCons (eOp oIx (eVar 1) (eVar 2)) aNil)))
def S_p_law_with : MS :=
  (sRet (eArgs bTup (aCons (eOp oIx (eVar 0) (eC (.int 0))) (aCons (eArgs bTuple (aCons (eLc [2] (.nm 2) (iRng1 (eArgs bLen (aCons (eOp oIx (eVar 0) (eC (.int 1))) aNil))) J.tYes V1_p_law_with) aNil)) aNil))))
def F_p_law_with : MF := fnF 2 3 S_p_law_with

def C1_p_law_live : MT :=
  (tAnd (tV (eOp oLt (eOp oIx (eVar 6) (eOp oIx (eOp oIx (eOp oIx (eVar 3) (eC (.int 1))) (eVar 9)) (eC (.int 1)))) (eOp oIx (eVar 4) (eOp oIx (eOp oIx (eOp oIx (eVar 3) (eC (.int 1))) (eVar 9)) (eC (.int 1)))))) (tV (eOp oLt (eOp oIx (eVar 7) (eVar 9)) (eOp oIx (eOp oIx (eOp oIx (eVar 3) (eC (.int 1))) (eVar 9)) (eC (.int 3))))))
def V2_p_law_live : ME :=
  (eVar 9)
def B3_p_law_live : MS :=
  (sSeq (sAsg (.tp [(.nm 6), (.nm 7)]) (eArgs (callF F_p_law_do) (aCons (eVar 3) (aCons (eVar 4) aNil))))
    (sSeq (sSet 8 (eLc [9] (.nm 9) (iRng1 (eArgs bLen (aCons (eVar 7) aNil))) C1_p_law_live V2_p_law_live))
    (sIf (tV (eOp oNe (eVar 8) (eArgs bLst aNil))) (sSeq (sSet 9 (eArgs (callF F_p_law_pick) (aCons (eVar 0) (aCons (eVar 8) aNil))))
    (sSet 3 (eArgs (callF F_p_law_with) (aCons (eVar 3) (aCons (eOp oAdd (eOp oAdd (eSl (eArgs (callF F_p_law_some) (aCons (eVar 3) aNil)) none (some (eVar 9))) (eArgs bTup (aCons (eOp oAdd (eOp oIx (eOp oIx (eOp oIx (eVar 3) (eC (.int 1))) (eVar 9)) (eC (.int 4))) (eOp oIx (eOp oIx (eOp oIx (eVar 3) (eC (.int 1))) (eVar 9)) (eC (.int 3)))) aNil))) (eSl (eArgs (callF F_p_law_some) (aCons (eVar 3) aNil)) (some (eOp oAdd (eVar 9) (eC (.int 1)))) none)) aNil))))) sNext)))
def V4_p_law_live : ME :=
  (eOp oMul (eOp oIx (eVar 10) (eC (.int 3))) (eOp oIx (eVar 4) (eOp oIx (eVar 10) (eC (.int 1)))))
def S_p_law_live : MS :=
  (sSeq (sSet 3 (eArgs (callF F_p_law_flow) (aCons (eVar 0) (aCons (eVar 1) (aCons (eVar 2) aNil)))))
    (sSeq (sSet 4 (eArgs (callF F_p_law_round) (aCons (eVar 3) aNil)))
    (sSeq (sFor (.nm 5) (iRng1 (eC (.int 40))) B3_p_law_live)
    (sSeq (sIf (tV (eOp oNe (eOp oIx (eArgs (callF F_p_law_do) (aCons (eVar 3) (aCons (eVar 4) aNil))) (eC (.int 0))) (eVar 4))) (sSet 3 (eArgs (callF F_p_law_with) (aCons (eVar 3) (aCons (eArgs bTuple (aCons (eLc [10] (.nm 10) (iSeq (eOp oIx (eVar 3) (eC (.int 1)))) J.tYes V4_p_law_live) aNil)) aNil)))) sNext)
    (sRet (eVar 3))))))
def F_p_law_live : MF := fnF 3 11 S_p_law_live

def B1_p_law_words : MS :=
  (sIf (tAnd (tV (eOp oLt (eMethK mCountK (eVar 6) (aCons (eVar 8) aNil)) (eOp oIx (eVar 1) (eVar 8)))) (tTr (eArgs (callF F_p_law_can) (aCons (eVar 0) (aCons (eVar 7) (aCons (eVar 8) aNil)))))) (sExpr (eMeth mAppend (eVar 5) (aCons (eArgs bTup (aCons (eOp oAddK (eVar 6) (eArgs bTupD (aCons (eVar 8) aNil))) (aCons (eArgs (callF F_p_law_next) (aCons (eVar 0) (aCons (eVar 7) (aCons (eVar 8) aNil)))) aNil))) aNil))) sNext)
def B2_p_law_words : MS :=
  (sFor (.nm 8) (iRng1 (eOp oIx (eVar 0) (eC (.int 0)))) B1_p_law_words)
def B3_p_law_words : MS :=
  (sSeq (sSet 5 (eArgs bLstL aNil))
    (sSeq (sFor (.tp [(.nm 6), (.nm 7)]) (iSeq (eVar 3)) B2_p_law_words)
    (sSeq (sSet 3 (eVar 5))
    (sIf (tV (eOp oGt (eArgs bLen (aCons (eVar 3) aNil)) (eVar 2))) (sRet (eC .non)) sNext))))
def V4_p_law_words : ME :=
  (eVar 6)
def S_p_law_words : MS :=
  (sSeq (sSet 3 (eArgs bLst (aCons (eArgs bTup (aCons (eArgs bTupD aNil) (aCons (eArgs (callF F_p_law_some) (aCons (eVar 0) aNil)) aNil))) aNil)))
    (sSeq (sForF (.nm 4) (iRng1 (eArgs bSum (aCons (eVar 1) aNil))) B3_p_law_words)
    (sRet (eLc [6, 7] (.tp [(.nm 6), (.nm 7)]) (iSeq (eVar 3)) J.tYes V4_p_law_words))))
def F_p_law_words : MF := fnF 3 9 S_p_law_words

def S_p_is_whole : MS :=
  (sRet (eAnd (eUn (oIsi ["int"]) (eVar 0)) (eNot (eUn (oIsi ["bool"]) (eVar 0)))))
def F_p_is_whole : MF := fnF 1 1 S_p_is_whole

def S_p_is_number : MS :=
  (sRet (eAnd (eArgs (callF F_p_is_whole) (aCons (eVar 0) aNil)) (eChain oLe oLe (eVar 1) (eVar 0) (eVar 2))))
def F_p_is_number : MF := fnF 3 3 S_p_is_number

def S_p_is_row : MS :=
  (sRet (eAnd (eUn (oIsi ["tuple"]) (eVar 0)) (eOp oEq (eArgs bLen (aCons (eVar 0) aNil)) (eVar 1))))
def F_p_is_row : MF := fnF 2 2 S_p_is_row

def B1_p_check_counts : MS :=
  (sIf (tNot (tTr (eArgs (callF F_p_is_number) (aCons (eVar 3) (aCons (eC (.int 0)) (aCons (eC (.int 200)) aNil)))))) sNever sNext)
def S_p_check_counts : MS :=
  (sSeq (sIf (tNot (tTr (eArgs (callF F_p_is_row) (aCons (eVar 1) (aCons (eOp oIx (eVar 0) (eC (.int 0))) aNil))))) sNever sNext)
    (sFor (.tp [(.nm 2), (.nm 3)]) (J.iEnum (eVar 1)) B1_p_check_counts))
def F_p_check_counts : MF := fnF 2 4 S_p_check_counts

def S_p_is_box : MS :=
  (sRet (eArgs (callF F_p_is_number) (aCons (eVar 0) (aCons (eC (.int 0)) (aCons (eOp oSub (eVar 1) (eC (.int 1))) aNil)))))
def F_p_is_box : MF := fnF 2 2 S_p_is_box

def S_p_is_pipe : MS :=
  (sSeq (sIf (tNot (tTr (eArgs (callF F_p_is_row) (aCons (eVar 0) (aCons (eC (.int 5)) aNil))))) (sRet (eC (.bl false))) sNext)
    (sSeq (sAsg (.tp [(.nm 2), (.nm 3), (.nm 4), (.nm 5), (.nm 6)]) (eVar 0))
    (sSeq (sIf (tOr (tNot (tTr (eArgs (callF F_p_is_box) (aCons (eVar 2) (aCons (eVar 1) aNil))))) (tNot (tTr (eArgs (callF F_p_is_box) (aCons (eVar 3) (aCons (eVar 1) aNil)))))) (sRet (eC (.bl false))) sNext)
    (sSeq (sIf (tOr (tNot (tTr (eArgs (callF F_p_is_number) (aCons (eVar 4) (aCons (eC (.int 1)) (aCons (eC (.int 999)) aNil)))))) (tNot (tTr (eArgs (callF F_p_is_number) (aCons (eVar 5) (aCons (eC (.int 1)) (aCons (eC (.int 999)) aNil))))))) (sRet (eC (.bl false))) sNext)
    (sRet (eArgs (callF F_p_is_number) (aCons (eVar 6) (aCons (eC (.int 0)) (aCons (eC (.int 99999)) aNil)))))))))
def F_p_is_pipe : MF := fnF 2 7 S_p_is_pipe

def B1_p_check_flow : MS :=
  (sIf (tNot (tTr (eArgs (callF F_p_is_pipe) (aCons (eVar 4) (aCons (eVar 1) aNil))))) sNever sNext)
def S_p_check_flow : MS :=
  (sSeq (sIf (tNot (tTr (eArgs (callF F_p_is_row) (aCons (eVar 0) (aCons (eC (.int 2)) aNil))))) sNever sNext)
    (sSeq (sAsg (.tp [(.nm 1), (.nm 2)]) (eVar 0))
    (sSeq (sIf (tOr (tNot (tTr (eArgs (callF F_p_is_number) (aCons (eVar 1) (aCons (eC (.int 1)) (aCons (eC (.int 8)) aNil)))))) (tOr (tNot (tTr (eUn (oIsi ["tuple"]) (eVar 2)))) (tV (eOp oGt (eArgs bLen (aCons (eVar 2) aNil)) (eC (.int 16)))))) sNever sNext)
    (sFor (.tp [(.nm 3), (.nm 4)]) (J.iEnum (eVar 2)) B1_p_check_flow))))
def F_p_check_flow : MF := fnF 1 5 S_p_check_flow

def B1_p_firings_in_a_row : MS :=
  (sSeq (sAsg (.tp [(.nm 6), (.nm 7), (.nm 8), (.nm 9), (.nm 10)]) (eOp oIx (eVar 0) (eVar 5)))
    (sSeq (sIf (tV (eOp oLt (eOp oIx (eVar 1) (eVar 5)) (eVar 9))) (sRet (eC (.int 0))) sNext)
    (sSeq (sSet 11 (eIf (tV (eOp oEq (eVar 6) (eVar 7))) (eOp oSub (eVar 9) (eVar 8)) (eVar 9)))
    (sIf (tV (eOp oGt (eVar 11) (eC (.int 0)))) (sSet 4 (eArgs bMin2 (aCons (eVar 4) (aCons (eOp oAdd (eOp oDiv (eOp oSub (eOp oIx (eVar 1) (eVar 5)) (eVar 9)) (eVar 11)) (eC (.int 1))) aNil)))) sNext))))
def S_p_firings_in_a_row : MS :=
  (sSeq (sSet 4 (eVar 3))
    (sSeq (sFor (.nm 5) (iSeq (eVar 2)) B1_p_firings_in_a_row)
    (sRet (eVar 4))))
def F_p_firings_in_a_row : MF := fnF 4 12 S_p_firings_in_a_row

def V1_p_pipes_at : ME :=
  (eArgs bLstL aNil)
def B2_p_pipes_at : MS :=
  (sExpr (eMeth mAppend (eOp oIx (eVar 3) (eOp oIx (eVar 5) (eVar 1))) (aCons (eVar 4) aNil)))
def S_p_pipes_at : MS :=
  (sSeq (sSet 3 (eLc [6] (.nm 6) (iRng1 (eVar 2)) J.tYes V1_p_pipes_at))
    (sSeq (sFor (.tp [(.nm 4), (.nm 5)]) (J.iEnum (eVar 0)) B2_p_pipes_at)
    (sRet (eVar 3))))
def F_p_pipes_at : MF := fnF 3 7 S_p_pipes_at

def V1_p_most_counts : ME :=
  (eOp oIx (eVar 10) (eC (.int 4)))
def V2_p_most_counts : ME :=
  (eC (.int 0))
def B3_p_most_counts : MS :=
  (sPutAug oSub (eVar 4) (eVar 9) (eOp oMul (eVar 8) (eOp oIx (eOp oIx (eVar 0) (eVar 9)) (eC (.int 3)))))
def B4_p_most_counts : MS :=
  (sSeq (sPutAug iAdd (eVar 4) (eVar 9) (eOp oMul (eVar 8) (eOp oIx (eOp oIx (eVar 0) (eVar 9)) (eC (.int 2)))))
    (sExpr (eMeth mAppend (eVar 6) (aCons (eOp oIx (eOp oIx (eVar 0) (eVar 9)) (eC (.int 1))) aNil))))
def B5_p_most_counts : MS :=
  (sSeq (sSet 7 (eMeth mPop (eVar 6) aNil))
    (sSeq (sSet 8 (eArgs (callF F_p_firings_in_a_row) (aCons (eVar 0) (aCons (eVar 4) (aCons (eOp oIx (eVar 3) (eVar 7)) (aCons (eOp oSub (eOp oIx (eVar 1) (eVar 7)) (eOp oIx (eVar 5) (eVar 7))) aNil))))))
    (sSeq (sIf (tV (eOp oEq (eVar 8) (eC (.int 0)))) sCont sNext)
    (sSeq (sPutAug iAdd (eVar 5) (eVar 7) (eVar 8))
    (sSeq (sFor (.nm 9) (iSeq (eOp oIx (eVar 3) (eVar 7))) B3_p_most_counts)
    (sFor (.nm 9) (iSeq (eOp oIx (eVar 2) (eVar 7))) B4_p_most_counts))))))
def C6_p_most_counts : MT :=
  (tTr (eVar 6))
def S_p_most_counts : MS :=
  (sSeq (sSet 2 (eArgs (callF F_p_pipes_at) (aCons (eVar 0) (aCons (eC (.int 0)) (aCons (eArgs bLen (aCons (eVar 1) aNil)) aNil)))))
    (sSeq (sSet 3 (eArgs (callF F_p_pipes_at) (aCons (eVar 0) (aCons (eC (.int 1)) (aCons (eArgs bLen (aCons (eVar 1) aNil)) aNil)))))
    (sSeq (sSet 4 (eLcL [10] (.nm 10) (iSeq (eVar 0)) J.tYes V1_p_most_counts))
    (sSeq (sSet 5 (eLcL [11] (.nm 11) (iSeq (eVar 1)) J.tYes V2_p_most_counts))
    (sSeq (sSet 6 (eLstRgL (eArgs bLen (aCons (eVar 1) aNil))))
    (sSeq (sWhile 1000000 C6_p_most_counts B5_p_most_counts)
    (sRet (eArgs bTuple (aCons (eVar 5) aNil)))))))))
def F_p_most_counts : MF := fnF 2 12 S_p_most_counts

def S_p_most_done : MS :=
  (sSeq (sExpr (eArgs (callF F_p_check_flow) (aCons (eVar 0) aNil)))
    (sSeq (sExpr (eArgs (callF F_p_check_counts) (aCons (eVar 0) (aCons (eVar 1) aNil))))
    (sRet (eArgs (callF F_p_most_counts) (aCons (eOp oIx (eVar 0) (eC (.int 1))) (aCons (eVar 1) aNil))))))
def F_p_most_done : MF := fnF 2 2 S_p_most_done

def S_p_can_do : MS :=
  (sRet (eOp oEq (eArgs (callF F_p_most_done) (aCons (eVar 0) (aCons (eVar 1) aNil))) (eVar 1)))
def F_p_can_do : MF := fnF 2 2 S_p_can_do

def B1_p_multiplied : MS :=
  (sAug 1 iMul (eVar 2))
def S_p_multiplied : MS :=
  (sSeq (sSet 1 (eC (.int 1)))
    (sSeq (sFor (.nm 2) (iSeq (eVar 0)) B1_p_multiplied)
    (sRet (eVar 1))))
def F_p_multiplied : MF := fnF 1 3 S_p_multiplied

def V1_p_left_on : ME :=
  (eOp oSub (eOp oAdd (eVar 6) (eOp oMul (eVar 4) (eOp oIx (eVar 1) (eVar 2)))) (eOp oMul (eVar 5) (eOp oIx (eVar 1) (eVar 3))))
def S_p_left_on : MS :=
  (sRet (eArgs bTuple (aCons (eLc [2, 3, 4, 5, 6] (.tp [(.nm 2), (.nm 3), (.nm 4), (.nm 5), (.nm 6)]) (iSeq (eVar 0)) J.tYes V1_p_left_on) aNil)))
def F_p_left_on : MF := fnF 2 7 S_p_left_on

def C1_p_short_pipes : MT :=
  (tAnd (tV (eOp oEq (eOp oIx (eVar 4) (eC (.int 1))) (eVar 2))) (tV (eOp oLt (eOp oIx (eVar 1) (eVar 3)) (eOp oIx (eVar 4) (eC (.int 3))))))
def V2_p_short_pipes : ME :=
  (eVar 3)
def S_p_short_pipes : MS :=
  (sRet (eLc [3, 4] (.tp [(.nm 3), (.nm 4)]) (J.iEnum (eVar 0)) C1_p_short_pipes V2_p_short_pipes))
def F_p_short_pipes : MF := fnF 3 5 S_p_short_pipes

def B1_p_one_firing_on : MS :=
  (sSeq (sIf (tOr (tV (eOp oEq (eVar 8) (eOp oIx (eVar 1) (eVar 7)))) (tTr (eArgs (callF F_p_short_pipes) (aCons (eVar 0) (aCons (eVar 6) (aCons (eVar 7) aNil)))))) sCont sNext)
    (sSeq (sSet 9 (eOp oAdd (eOp oAdd (eSl (eVar 4) none (some (eVar 7))) (eArgs bTup (aCons (eOp oAdd (eVar 8) (eC (.int 1))) aNil))) (eSl (eVar 4) (some (eOp oAdd (eVar 7) (eC (.int 1)))) none)))
    (sPut (eVar 3) (eVar 9) (eOp oAdd (eGet2T (eVar 3) (eVar 9) (eC (.int 0))) (eVar 5)))))
def B2_p_one_firing_on : MS :=
  (sSeq (sSet 6 (eArgs (callF F_p_left_on) (aCons (eVar 0) (aCons (eVar 4) aNil))))
    (sFor (.tp [(.nm 7), (.nm 8)]) (J.iEnum (eVar 4)) B1_p_one_firing_on))
def S_p_one_firing_on : MS :=
  (sSeq (sSet 3 eDctTL)
    (sSeq (sFor (.tp [(.nm 4), (.nm 5)]) (iItemsT (eVar 2)) B2_p_one_firing_on)
    (sRet (eVar 3))))
def F_p_one_firing_on : MF := fnF 3 10 S_p_one_firing_on

def V1_p_ways : ME :=
  (eOp oAdd (eVar 4) (eC (.int 1)))
def V2_p_ways : ME :=
  (eC (.int 0))
def B3_p_ways : MS :=
  (sSet 2 (eArgs (callF F_p_one_firing_on) (aCons (eOp oIx (eVar 0) (eC (.int 1))) (aCons (eVar 1) (aCons (eVar 2) aNil)))))
def S_p_ways : MS :=
  (sSeq (sExpr (eArgs (callF F_p_check_flow) (aCons (eVar 0) aNil)))
    (sSeq (sExpr (eArgs (callF F_p_check_counts) (aCons (eVar 0) (aCons (eVar 1) aNil))))
    (sSeq (sIf (tV (eOp oGt (eArgs (callF F_p_multiplied) (aCons (eLc [4] (.nm 4) (iSeq (eVar 1)) J.tYes V1_p_ways) aNil)) (eC (.int 3000)))) sNever sNext)
    (sSeq (sSet 2 (eDispT (eArgs bTuple (aCons (eLc [3] (.nm 3) (iSeq (eVar 1)) J.tYes V2_p_ways) aNil)) (eC (.int 1))))
    (sSeq (sFor (.nm 3) (iRng1 (eArgs bSum (aCons (eVar 1) aNil))) B3_p_ways)
    (sRet (eGet2T (eVar 2) (eVar 1) (eC (.int 0)))))))))
def F_p_ways : MF := fnF 2 5 S_p_ways

def B1_p_held_behind : MS :=
  (sSeq (sIf (tV (eOp oEq (eVar 6) (eVar 2))) (sPutAug oSub (eVar 3) (eVar 4) (eVar 8)) sNext)
    (sIf (tV (eOp oEq (eVar 5) (eVar 2))) (sPutAug iAdd (eVar 3) (eVar 4) (eVar 7)) sNext))
def S_p_held_behind : MS :=
  (sSeq (sSet 3 (eArgs bListL (aCons (eVar 1) aNil)))
    (sSeq (sFor (.tp [(.nm 4), (.tp [(.nm 5), (.nm 6), (.nm 7), (.nm 8), (.nm 9)])]) (J.iEnum (eVar 0)) B1_p_held_behind)
    (sRet (eArgs bTuple (aCons (eVar 3) aNil)))))
def F_p_held_behind : MF := fnF 3 10 S_p_held_behind

def V1_p_least_word : ME :=
  (eOp oIx (eVar 6) (eC (.int 4)))
def C2_p_least_word : MT :=
  (tAnd (tTr (eVar 7)) (tNot (tTr (eArgs (callF F_p_short_pipes) (aCons (eVar 0) (aCons (eVar 2) (aCons (eVar 5) aNil)))))))
def V3_p_least_word : ME :=
  (eVar 5)
def B4_p_least_word : MS :=
  (sSeq (sSet 5 (eArgs bMin1 (aCons (eLc [5, 7] (.tp [(.nm 5), (.nm 7)]) (J.iEnum (eVar 3)) C2_p_least_word V3_p_least_word) aNil)))
    (sSeq (sPutAug oSub (eVar 3) (eVar 5) (eC (.int 1)))
    (sSeq (sExpr (eMeth mAppend (eVar 4) (aCons (eVar 5) aNil)))
    (sSet 2 (eArgs (callF F_p_held_behind) (aCons (eVar 0) (aCons (eVar 2) (aCons (eVar 5) aNil))))))))
def C5_p_least_word : MT :=
  (tTr (eArgs bAny (aCons (eVar 3) aNil)))
def S_p_least_word : MS :=
  (sSeq (sIf (tV (eOp oNe (eArgs (callF F_p_most_counts) (aCons (eVar 0) (aCons (eVar 1) aNil))) (eVar 1))) (sRet (eC .non)) sNext)
    (sSeq (sSet 2 (eArgs bTuple (aCons (eLc [6] (.nm 6) (iSeq (eVar 0)) J.tYes V1_p_least_word) aNil)))
    (sSeq (sSet 3 (eArgs bListL (aCons (eVar 1) aNil)))
    (sSeq (sSet 4 (eArgs bLstL aNil))
    (sSeq (sWhile 1000000 C5_p_least_word B4_p_least_word)
    (sRet (eArgs bTuple (aCons (eVar 4) aNil))))))))
def F_p_least_word : MF := fnF 2 8 S_p_least_word

def S_p_word_for : MS :=
  (sSeq (sExpr (eArgs (callF F_p_check_flow) (aCons (eVar 0) aNil)))
    (sSeq (sExpr (eArgs (callF F_p_check_counts) (aCons (eVar 0) (aCons (eVar 1) aNil))))
    (sRet (eArgs (callF F_p_least_word) (aCons (eOp oIx (eVar 0) (eC (.int 1))) (aCons (eVar 1) aNil))))))
def F_p_word_for : MF := fnF 2 2 S_p_word_for

def S_p_law : MS :=
  (sSeq (sSet 1 (eArgs bLstL (aCons (eVar 0) (aCons (eC (.int 0)) (aCons (eC (.int 9811)) (aCons (eC (.int 0)) aNil))))))
    (sSeq (sSet 2 (eArgs (callF F_p_law_pick) (aCons (eVar 1) (aCons (eArgs bLst (aCons (eArgs (callF F_p_law_any) (aCons (eVar 1) aNil)) (aCons (eArgs (callF F_p_law_live) (aCons (eVar 1) (aCons (eC (.int 4)) (aCons (eC (.int 4)) aNil)))) aNil))) aNil))))
    (sSeq (sSet 3 (eArgs (callF F_p_law_counts) (aCons (eVar 1) (aCons (eVar 2) (aCons (eC (.int 3)) aNil)))))
    (sSeq (sSet 4 (eArgs (callF F_p_law_words) (aCons (eVar 2) (aCons (eVar 3) (aCons (eC (.int 300)) aNil)))))
    (sSeq (sIf (tV (eUn oIsN (eVar 4))) (sRet (eOr (eOp oGt (eArgs (callF F_p_ways) (aCons (eVar 2) (aCons (eVar 3) aNil))) (eC (.int 0))) (eNot (eArgs (callF F_p_can_do) (aCons (eVar 2) (aCons (eVar 3) aNil)))))) sNext)
    (sSeq (sIf (tNot (tTr (eArgs (callF (F_p_law_alike 8)) (aCons (eArgs (callF F_p_ways) (aCons (eVar 2) (aCons (eVar 3) aNil))) (aCons (eArgs bLen (aCons (eVar 4) aNil)) aNil))))) (sRet (eC (.bl false))) sNext)
    (sRet (eArgs (callF (F_p_law_alike 8)) (aCons (eArgs (callF F_p_word_for) (aCons (eVar 2) (aCons (eVar 3) aNil))) (aCons (eIf (tV (eOp oNeU (eVar 4) (eArgs bLst aNil))) (eArgs bMinU (aCons (eVar 4) aNil)) (eC .non)) aNil))))))))))
def F_p_law : MF := fnF 1 5 S_p_law
end K11
set_option Elab.async false
set_option linter.all false
set_option maxRecDepth 100000
set_option maxHeartbeats 4000000
namespace K11
open PySem PySem.Spec PyProof.Rows L2 J
def topS (i : Nat) : Stmt := PySem.Challenge.pw_rateflows_k11_whole_words_of_counts.main.body.getD i (.Pass ⟨0, 0, 0, 0⟩)
def clsS (i j : Nat) : Stmt := match topS i with
  | .ClassDef (body := b) .. => b.getD j (.Pass ⟨0, 0, 0, 0⟩)
  | s => s
structure Top (K : PySem.W.Frag) (mg : Str → Option Value) : Prop where
  abs : mg "abs" = none
  any : mg "any" = none
  bool : mg "bool" = none
  enumerate : mg "enumerate" = none
  int : mg "int" = none
  isinstance : mg "isinstance" = none
  len : mg "len" = none
  list : mg "list" = none
  min : mg "min" = none
  range : mg "range" = none
  str : mg "str" = none
  sum : mg "sum" = none
  tuple : mg "tuple" = none
  c_MOST_BOXES : ∃ t, mg "MOST_BOXES" = some (.int 8 t)
  c_MOST_COUNT : ∃ t, mg "MOST_COUNT" = some (.int 200 t)
  c_MOST_PIPES : ∃ t, mg "MOST_PIPES" = some (.int 16 t)
  c_MOST_RATE : ∃ t, mg "MOST_RATE" = some (.int 999 t)
  c_MOST_STATES : ∃ t, mg "MOST_STATES" = some (.int 3000 t)
  c_MOST_TOKENS : ∃ t, mg "MOST_TOKENS" = some (.int 99999 t)
section
variable {P : Program} {wd : World} {K : PySem.W.Frag} {mg : Str → Option Value} {base : Heap}
abbrev st_p_law_alike : Stmt := topS 52
abbrev N_p_law_alike : List Str := ["found", "due", "k"]
theorem sc_p_law_alike : FnScope N_p_law_alike ["found", "due"] (defScope st_p_law_alike) := ⟨rfl, rfl, rfl, by decide +kernel, rfl, by decide +kernel, by decide +kernel⟩
theorem okS_p_law_alike {f : Addr} {fd : FuncData} (F : Fun K "_law_alike" "_law_alike" st_p_law_alike f fd) (hm : mg "_law_alike" = some (.ref f)) (b : Binds K fd ["found", "due"] []) (T : Top K mg)  (n : Nat) (R : MF) (H_p_law_alike : Fok P wd ⟨K, mg⟩ base (n + 1) "_law_alike" 2 R) : Fok P wd ⟨K, mg⟩ base (n + 1 + 1) "_law_alike" 2 (fnF 2 3 (S_p_law_alike R)) :=
  fok_of (N := N_p_law_alike) F sc_p_law_alike hm b (fun cdv A outer s H E c =>
    (ds_cons (ds_if (dt_truth (jc_isi2 (by decide) (by decide) (de_var (pv 1)) (pe_bltn (v := .ty "tuple") (by rfl) T.tuple (by decide +kernel) rfl) (pe_bltn (v := .ty "list") (by rfl) T.list (by decide +kernel) rfl) (by rfl) T.isinstance)) (ds_cons (ds_if (PW.pt (dw_or (dt_not (dt_truth (jc_isi2 (by decide) (by decide) (de_var (pv 0)) (pe_bltn (v := .ty "tuple") (by rfl) T.tuple (by decide +kernel) rfl) (pe_bltn (v := .ty "list") (by rfl) T.list (by decide +kernel) rfl) (by rfl) T.isinstance))) (dw_or1 (dt_cmp (jo_ne c.u64) (jc_isi (x := "isinstance") (by decide) (de_var (pv 0)) (pe_bltn (v := .ty "list") (by rfl) T.list (by decide +kernel) rfl) (by rfl) T.isinstance) (jc_isi (x := "isinstance") (by decide) (de_var (pv 1)) (pe_bltn (v := .ty "list") (by rfl) T.list (by decide +kernel) rfl) (by rfl) T.isinstance) (nomark _))))) (ds_one (ds_ret de_bl)) ds_nil)
    (ds_cons (ds_if (dt_cmp (jo_ne c.u64) (de_callB jc_lenK (by rfl) T.len (by decide +kernel) (da_cons (de_var (pv 0)) da_nil)) (de_callB jc_lenK (by rfl) T.len (by decide +kernel) (da_cons (de_var (pv 1)) da_nil)) (nomark _)) (ds_one (ds_ret de_bl)) ds_nil)
    (ds_one (ds_ret (de_cmp (jo_eq c.u64) (de_lc (own := [("k", 2)]) (by decide) (.inl rfl) (pe_lc (own := [("k", 2)]) c.calm sc_p_law_alike.nd (di_rng1 (by rfl) T.range (da_cons (de_callB jc_lenK (by rfl) T.len (by decide +kernel) (da_cons (de_var (pv 1)) da_nil)) da_nil)) (blkOk_by (N := N_p_law_alike) (sc := defScope st_p_law_alike) (by decide +kernel)) (fun _ _ _ _ _ => (dg_name (pg_name (i := 2) sc_p_law_alike.nd rfl (Or.inl rfl)))) (fun _ _ _ _ _ => (dts_one (dt_not (dt_truth (de_call H_p_law_alike (by omega) (c.blk _ _ _ _ _).hr (c.blk _ _ _ _ _).tk (by rfl) (by rfl) (da_cons (de_ix (jo_ixK (c.blk _ _ _ _ _).u1) (de_var (pv 0)) (de_var (pv 2)) (fun _ _ => rfl)) (da_cons (de_ix (jo_ixK (c.blk _ _ _ _ _).u1) (de_var (pv 1)) (de_var (pv 2)) (fun _ _ => rfl)) da_nil)) (hlen := (alen_cons (alen_cons alen_nil)))))))) (fun _ _ _ _ _ => (de_var (pv 2))))) (de_lst da_nil) (nomark _)))))) ds_nil)
    (ds_cons (ds_if (PW.pt (dw_or (dt_isN (de_var (pv 1))) (dw_or1 (dt_truth (jc_isi (x := "isinstance") (by decide) (de_var (pv 1)) (pe_bltn (v := .ty "str") (by rfl) T.str (by decide +kernel) rfl) (by rfl) T.isinstance))))) (ds_one (ds_ret (de_and (de_cmp (jo_eq c.u64) (de_var (pv 0)) (de_var (pv 1)) (nomark _)) (de_one (de_cmp (jo_eq c.u64) (jc_isi (x := "isinstance") (by decide) (de_var (pv 0)) (pe_bltn (v := .ty "str") (by rfl) T.str (by decide +kernel) rfl) (by rfl) T.isinstance) (jc_isi (x := "isinstance") (by decide) (de_var (pv 1)) (pe_bltn (v := .ty "str") (by rfl) T.str (by decide +kernel) rfl) (by rfl) T.isinstance) (nomark _)))))) ds_nil)
    (ds_one (ds_ret (de_and (jc_isi (x := "isinstance") (by decide) (de_var (pv 0)) (pe_bltn (v := .ty "int") (by rfl) T.int (by decide +kernel) rfl) (by rfl) T.isinstance) (de_and (de_cmp (jo_eq c.u64) (jc_isi (x := "isinstance") (by decide) (de_var (pv 0)) (pe_bltn (v := .ty "bool") (by rfl) T.bool (by decide +kernel) rfl) (by rfl) T.isinstance) (jc_isi (x := "isinstance") (by decide) (de_var (pv 1)) (pe_bltn (v := .ty "bool") (by rfl) T.bool (by decide +kernel) rfl) (by rfl) T.isinstance) (nomark _)) (de_one (de_cmp (jo_eq c.u64) (de_var (pv 0)) (de_var (pv 1)) (nomark _))))))))))
theorem okA_p_law_alike {f : Addr} {fd : FuncData} (F : Fun K "_law_alike" "_law_alike" st_p_law_alike f fd) (hm : mg "_law_alike" = some (.ref f)) (b : Binds K fd ["found", "due"] []) (T : Top K mg)  : ∀ n : Nat, Fok P wd ⟨K, mg⟩ base (n + 1) "_law_alike" 2 (F_p_law_alike n)
  | 0 => (fok_of (N := N_p_law_alike) (k := 0) F sc_p_law_alike hm b (fun cdv A outer s H E c => dss_never)).mono (by decide)
  | n + 1 => (okS_p_law_alike F hm b T  n _ (okA_p_law_alike F hm b T  n)).mono (by omega)
theorem ok_p_law_alike {f : Addr} {fd : FuncData} (F : Fun K "_law_alike" "_law_alike" st_p_law_alike f fd) (hm : mg "_law_alike" = some (.ref f)) (b : Binds K fd ["found", "due"] []) (T : Top K mg)  : Fok P wd ⟨K, mg⟩ base 9 "_law_alike" 2 (F_p_law_alike 8) :=
  okA_p_law_alike F hm b T  8
abbrev st_p_law_taken : Stmt := topS 36
abbrev N_p_law_taken : List Str := ["row", "many", "found", "cell"]
theorem sc_p_law_taken : FnScope N_p_law_taken ["row", "many"] (defScope st_p_law_taken) := ⟨rfl, rfl, rfl, by decide +kernel, rfl, by decide +kernel, by decide +kernel⟩
theorem ok_p_law_taken {f : Addr} {fd : FuncData} (F : Fun K "_law_taken" "_law_taken" st_p_law_taken f fd) (hm : mg "_law_taken" = some (.ref f)) (b : Binds K fd ["row", "many"] []) (T : Top K mg)  : Fok P wd ⟨K, mg⟩ base 1 "_law_taken" 2 F_p_law_taken :=
  fok_of (N := N_p_law_taken) F sc_p_law_taken hm b (fun cdv A outer s H E c =>
    (ds_cons (ds_if (dt_cmp jo_gt (de_ix (jo_ix c.u1) (de_var (pv 0)) de_int (fun _ _ => rfl)) de_int (nomark _)) (ds_cons (ds_set (fun te h => ps_set (i := 2) sc_p_law_taken.nd rfl (Or.inl rfl) h) (de_op jo_mod (de_callTy jc_int (by rfl) T.int (by decide +kernel) (da_cons (de_ix (jo_ix c.u1) (de_var (pv 0)) de_int (fun _ _ => rfl)) da_nil)) (de_var (pv 1))))
    (ds_cons (ds_put (de_var (pv 0)) de_int (de_op jo_div (de_ix (jo_ix c.u1) (de_var (pv 0)) de_int (fun _ _ => rfl)) (de_var (pv 1))) c.u1)
    (ds_one (ds_ret (de_var (pv 2)))))) ds_nil)
    (ds_cons (ds_put (de_var (pv 0)) de_int (de_op jo_add (de_ix (jo_ix c.u1) (de_var (pv 0)) de_int (fun _ _ => rfl)) de_int) c.u1)
    (ds_cons (ds_if (dt_cmp jo_gt (de_ix (jo_ix c.u1) (de_var (pv 0)) de_int (fun _ _ => rfl)) (de_callB jc_len (by rfl) T.len (by decide +kernel) (da_cons (de_ix (jo_ix c.u1) (de_var (pv 0)) de_int (fun _ _ => rfl)) da_nil)) (nomark _)) (ds_cons (ds_put (de_var (pv 0)) de_int (de_op jo_mod (de_callTy jc_int (by rfl) T.int (by decide +kernel) (da_cons (de_op jo_add (de_op jo_mul (de_ix (jo_ix c.u1) (de_var (pv 0)) de_int (fun _ _ => rfl)) de_int) de_int) da_nil)) de_int) c.u1)
    (ds_one (ds_ret (de_op jo_mod (de_callTy jc_int (by rfl) T.int (by decide +kernel) (da_cons (de_op jo_div (de_ix (jo_ix c.u1) (de_var (pv 0)) de_int (fun _ _ => rfl)) de_int) da_nil)) (de_var (pv 1)))))) ds_nil)
    (ds_cons (ds_set (fun te h => ps_set (i := 3) sc_p_law_taken.nd rfl (Or.inl rfl) h) (de_ix (jo_ix c.u1) (de_ix (jo_ix c.u1) (de_var (pv 0)) de_int (fun _ _ => rfl)) (de_op jo_sub (de_ix (jo_ix c.u1) (de_var (pv 0)) de_int (fun _ _ => rfl)) de_int) (fun _ _ => rfl)))
    (ds_cons (ds_put (de_var (pv 0)) de_int (de_op jo_mod (de_callTy jc_int (by rfl) T.int (by decide +kernel) (da_cons (de_op jo_add (de_op jo_add (de_op jo_mul (de_ix (jo_ix c.u1) (de_var (pv 0)) de_int (fun _ _ => rfl)) de_int) (de_var (pv 3))) de_int) da_nil)) de_int) c.u1)
    (ds_cons (ds_if (dt_cmp jo_ge (de_var (pv 3)) (de_op jo_pow de_int de_int) (nomark _)) (ds_one (ds_put (de_var (pv 0)) de_int (de_op jo_div (de_var (pv 3)) (de_var (pv 1))) c.u1)) ds_nil)
    (ds_one (ds_ret (de_op jo_mod (de_callTy jc_int (by rfl) T.int (by decide +kernel) (da_cons (de_var (pv 3)) da_nil)) (de_var (pv 1))))))))))))
abbrev st_p_law_any : Stmt := topS 38
abbrev N_p_law_any : List Str := ["row", "many", "pipes", "turn"]
theorem sc_p_law_any : FnScope N_p_law_any ["row"] (defScope st_p_law_any) := ⟨rfl, rfl, rfl, by decide +kernel, rfl, by decide +kernel, by decide +kernel⟩
theorem ok_p_law_any {f : Addr} {fd : FuncData} (F : Fun K "_law_any" "_law_any" st_p_law_any f fd) (hm : mg "_law_any" = some (.ref f)) (b : Binds K fd ["row"] []) (T : Top K mg) (H_p_law_taken : Fok P wd ⟨K, mg⟩ base 1 "_law_taken" 2 F_p_law_taken) : Fok P wd ⟨K, mg⟩ base 2 "_law_any" 1 F_p_law_any :=
  fok_of (N := N_p_law_any) F sc_p_law_any hm b (fun cdv A outer s H E c =>
    (ds_cons (ds_set (fun te h => ps_set (i := 1) sc_p_law_any.nd rfl (Or.inl rfl) h) (de_op jo_add de_int (de_call H_p_law_taken (by decide) c.hr c.tk (by rfl) (by rfl) (da_cons (de_var (pv 0)) (da_cons de_int da_nil)) (hlen := (alen_cons (alen_cons alen_nil))))))
    (ds_cons (ds_set (fun te h => ps_set (i := 2) sc_p_law_any.nd rfl (Or.inl rfl) h) (de_lstL da_nil))
    (ds_cons (ds_for c.po c.calm (di_rng1 (by rfl) T.range (da_cons (de_call H_p_law_taken (by decide) c.hr c.tk (by rfl) (by rfl) (da_cons (de_var (pv 0)) (da_cons de_int da_nil)) (hlen := (alen_cons (alen_cons alen_nil)))) da_nil)) (dg_name (pg_name (i := 3) sc_p_law_any.nd rfl (Or.inl rfl))) (ds_one (ds_expr (de_meth PySem.F.slot_list_append PySem.F.type_list_append jm_append (de_var (pv 2)) (da_cons (de_tup (da_cons (de_call H_p_law_taken (by decide) c.hr c.tk (by rfl) (by rfl) (da_cons (de_var (pv 0)) (da_cons (de_var (pv 1)) da_nil)) (hlen := (alen_cons (alen_cons alen_nil)))) (da_cons (de_call H_p_law_taken (by decide) c.hr c.tk (by rfl) (by rfl) (da_cons (de_var (pv 0)) (da_cons (de_var (pv 1)) da_nil)) (hlen := (alen_cons (alen_cons alen_nil)))) (da_cons (de_op jo_add de_int (de_call H_p_law_taken (by decide) c.hr c.tk (by rfl) (by rfl) (da_cons (de_var (pv 0)) (da_cons de_int da_nil)) (hlen := (alen_cons (alen_cons alen_nil))))) (da_cons (de_op jo_add de_int (de_call H_p_law_taken (by decide) c.hr c.tk (by rfl) (by rfl) (da_cons (de_var (pv 0)) (da_cons de_int da_nil)) (hlen := (alen_cons (alen_cons alen_nil))))) (da_cons (de_call H_p_law_taken (by decide) c.hr c.tk (by rfl) (by rfl) (da_cons (de_var (pv 0)) (da_cons de_int da_nil)) (hlen := (alen_cons (alen_cons alen_nil)))) da_nil)))))) da_nil)))))
    (ds_one (ds_ret (de_tup (da_cons (de_var (pv 1)) (da_cons (de_callTy jc_tuple (by rfl) T.tuple (by decide +kernel) (da_cons (de_var (pv 2)) da_nil)) da_nil)))))))))
abbrev st_p_law_counts : Stmt := topS 50
abbrev N_p_law_counts : List Str := ["row", "flow", "most", "box"]
theorem sc_p_law_counts : FnScope N_p_law_counts ["row", "flow", "most"] (defScope st_p_law_counts) := ⟨rfl, rfl, rfl, by decide +kernel, rfl, by decide +kernel, by decide +kernel⟩
theorem ok_p_law_counts {f : Addr} {fd : FuncData} (F : Fun K "_law_counts" "_law_counts" st_p_law_counts f fd) (hm : mg "_law_counts" = some (.ref f)) (b : Binds K fd ["row", "flow", "most"] []) (T : Top K mg) (H_p_law_taken : Fok P wd ⟨K, mg⟩ base 1 "_law_taken" 2 F_p_law_taken) : Fok P wd ⟨K, mg⟩ base 2 "_law_counts" 3 F_p_law_counts :=
  fok_of (N := N_p_law_counts) F sc_p_law_counts hm b (fun cdv A outer s H E c =>
    (ds_one (ds_ret (de_callTy jc_tuple (by rfl) T.tuple (by decide +kernel) (da_cons (de_lc (own := [("box", 3)]) (by decide) (.inl rfl) (pe_lc (own := [("box", 3)]) c.calm sc_p_law_counts.nd (di_rng1 (by rfl) T.range (da_cons (de_ix (jo_ix c.u1) (de_var (pv 1)) de_int (fun _ _ => rfl)) da_nil)) (blkOk_by (N := N_p_law_counts) (sc := defScope st_p_law_counts) (by decide +kernel)) (fun _ _ _ _ _ => (dg_name (pg_name (i := 3) sc_p_law_counts.nd rfl (Or.inl rfl)))) (fun _ _ _ _ _ => dts_nil) (fun _ _ _ _ _ => (de_call H_p_law_taken (by decide) (c.blk _ _ _ _ _).hr (c.blk _ _ _ _ _).tk (by rfl) (by rfl) (da_cons (de_var (pv 0)) (da_cons (de_op jo_add (de_var (pv 2)) de_int) da_nil)) (hlen := (alen_cons (alen_cons alen_nil))))))) da_nil)))))
abbrev st_p_law_can : Stmt := topS 45
abbrev N_p_law_can : List Str := ["flow", "some", "box", "k"]
theorem sc_p_law_can : FnScope N_p_law_can ["flow", "some", "box"] (defScope st_p_law_can) := ⟨rfl, rfl, rfl, by decide +kernel, rfl, by decide +kernel, by decide +kernel⟩
theorem ok_p_law_can {f : Addr} {fd : FuncData} (F : Fun K "_law_can" "_law_can" st_p_law_can f fd) (hm : mg "_law_can" = some (.ref f)) (b : Binds K fd ["flow", "some", "box"] []) (T : Top K mg)  : Fok P wd ⟨K, mg⟩ base 1 "_law_can" 3 F_p_law_can :=
  fok_of (N := N_p_law_can) F sc_p_law_can hm b (fun cdv A outer s H E c =>
    (ds_one (ds_ret (de_cmp (jo_eq c.u64) (de_lc (own := [("k", 3)]) (by decide) (.inl rfl) (pe_lc (own := [("k", 3)]) c.calm sc_p_law_can.nd (di_rng1 (by rfl) T.range (da_cons (de_callB jc_len (by rfl) T.len (by decide +kernel) (da_cons (de_var (pv 1)) da_nil)) da_nil)) (blkOk_by (N := N_p_law_can) (sc := defScope st_p_law_can) (by decide +kernel)) (fun _ _ _ _ _ => (dg_name (pg_name (i := 3) sc_p_law_can.nd rfl (Or.inl rfl)))) (fun _ _ _ _ _ => (dts_one (PW.pt (dw_and (dt_cmp (jo_eq (c.blk _ _ _ _ _).u64) (de_ix (jo_ix (c.blk _ _ _ _ _).u1) (de_ix (jo_ix (c.blk _ _ _ _ _).u1) (de_ix (jo_ix (c.blk _ _ _ _ _).u1) (de_var (pv 0)) de_int (fun _ _ => rfl)) (de_var (pv 3)) (fun _ _ => rfl)) de_int (fun _ _ => rfl)) (de_var (pv 2)) (nomark _)) (dw_and1 (dt_cmp jo_gt (de_ix (jo_ix (c.blk _ _ _ _ _).u1) (de_ix (jo_ix (c.blk _ _ _ _ _).u1) (de_ix (jo_ix (c.blk _ _ _ _ _).u1) (de_var (pv 0)) de_int (fun _ _ => rfl)) (de_var (pv 3)) (fun _ _ => rfl)) de_int (fun _ _ => rfl)) (de_ix (jo_ix (c.blk _ _ _ _ _).u1) (de_var (pv 1)) (de_var (pv 3)) (fun _ _ => rfl)) (nomark _))))))) (fun _ _ _ _ _ => (de_var (pv 3))))) (de_lst da_nil) (nomark _)))))
abbrev st_p_law_next : Stmt := topS 46
abbrev N_p_law_next : List Str := ["flow", "some", "box", "found", "k", "one", "other", "give", "eat", "start"]
theorem sc_p_law_next : FnScope N_p_law_next ["flow", "some", "box"] (defScope st_p_law_next) := ⟨rfl, rfl, rfl, by decide +kernel, rfl, by decide +kernel, by decide +kernel⟩
theorem ok_p_law_next {f : Addr} {fd : FuncData} (F : Fun K "_law_next" "_law_next" st_p_law_next f fd) (hm : mg "_law_next" = some (.ref f)) (b : Binds K fd ["flow", "some", "box"] []) (T : Top K mg)  : Fok P wd ⟨K, mg⟩ base 1 "_law_next" 3 F_p_law_next :=
  fok_of (N := N_p_law_next) F sc_p_law_next hm b (fun cdv A outer s H E c =>
    (ds_cons (ds_set (fun te h => ps_set (i := 3) sc_p_law_next.nd rfl (Or.inl rfl) h) (de_lstL da_nil))
    (ds_cons (ds_for c.po c.calm (di_rng1 (by rfl) T.range (da_cons (de_callB jc_len (by rfl) T.len (by decide +kernel) (da_cons (de_var (pv 1)) da_nil)) da_nil)) (dg_name (pg_name (i := 4) sc_p_law_next.nd rfl (Or.inl rfl))) (ds_cons (ds_asg (de_ix (jo_ix c.u1) (de_ix (jo_ix c.u1) (de_var (pv 0)) de_int (fun _ _ => rfl)) (de_var (pv 4)) (fun _ _ => rfl)) (dg_tup c.calm (dg_cons (dg_name (pg_name (i := 5) sc_p_law_next.nd rfl (Or.inl rfl))) (dg_cons (dg_name (pg_name (i := 6) sc_p_law_next.nd rfl (Or.inl rfl))) (dg_cons (dg_name (pg_name (i := 7) sc_p_law_next.nd rfl (Or.inl rfl))) (dg_cons (dg_name (pg_name (i := 8) sc_p_law_next.nd rfl (Or.inl rfl))) (dg_cons (dg_name (pg_name (i := 9) sc_p_law_next.nd rfl (Or.inl rfl))) dg_nil)))))))
    (ds_one (ds_expr (de_meth PySem.F.slot_list_append PySem.F.type_list_append jm_append (de_var (pv 3)) (da_cons (de_op jo_add (de_op jo_sub (de_ix (jo_ix c.u1) (de_var (pv 1)) (de_var (pv 4)) (fun _ _ => rfl)) (de_if (dt_cmp (jo_eq c.u64) (de_var (pv 6)) (de_var (pv 2)) (nomark _)) (de_var (pv 8)) de_int)) (de_if (dt_cmp (jo_eq c.u64) (de_var (pv 5)) (de_var (pv 2)) (nomark _)) (de_var (pv 7)) de_int)) da_nil))))))
    (ds_one (ds_ret (de_callTy jc_tuple (by rfl) T.tuple (by decide +kernel) (da_cons (de_var (pv 3)) da_nil)))))))
abbrev st_p_law_some : Stmt := topS 44
abbrev N_p_law_some : List Str := ["flow", "pipe"]
theorem sc_p_law_some : FnScope N_p_law_some ["flow"] (defScope st_p_law_some) := ⟨rfl, rfl, rfl, by decide +kernel, rfl, by decide +kernel, by decide +kernel⟩
theorem ok_p_law_some {f : Addr} {fd : FuncData} (F : Fun K "_law_some" "_law_some" st_p_law_some f fd) (hm : mg "_law_some" = some (.ref f)) (b : Binds K fd ["flow"] []) (T : Top K mg)  : Fok P wd ⟨K, mg⟩ base 1 "_law_some" 1 F_p_law_some :=
  fok_of (N := N_p_law_some) F sc_p_law_some hm b (fun cdv A outer s H E c =>
    (ds_one (ds_ret (de_callTy jc_tuple (by rfl) T.tuple (by decide +kernel) (da_cons (de_lc (own := [("pipe", 1)]) (by decide) (.inl rfl) (pe_lc (own := [("pipe", 1)]) c.calm sc_p_law_some.nd (di_seq (de_ix (jo_ix c.u1) (de_var (pv 0)) de_int (fun _ _ => rfl))) (blkOk_by (N := N_p_law_some) (sc := defScope st_p_law_some) (by decide +kernel)) (fun _ _ _ _ _ => (dg_name (pg_name (i := 1) sc_p_law_some.nd rfl (Or.inl rfl)))) (fun _ _ _ _ _ => dts_nil) (fun _ _ _ _ _ => (de_ix (jo_ix (c.blk _ _ _ _ _).u1) (de_var (pv 1)) de_int (fun _ _ => rfl))))) da_nil)))))
abbrev st_p_law_do : Stmt := topS 47
abbrev N_p_law_do : List Str := ["flow", "counts", "some", "done", "turn", "fits", "box"]
theorem sc_p_law_do : FnScope N_p_law_do ["flow", "counts"] (defScope st_p_law_do) := ⟨rfl, rfl, rfl, by decide +kernel, rfl, by decide +kernel, by decide +kernel⟩
theorem ok_p_law_do {f : Addr} {fd : FuncData} (F : Fun K "_law_do" "_law_do" st_p_law_do f fd) (hm : mg "_law_do" = some (.ref f)) (b : Binds K fd ["flow", "counts"] []) (T : Top K mg) (H_p_law_can : Fok P wd ⟨K, mg⟩ base 1 "_law_can" 3 F_p_law_can) (H_p_law_next : Fok P wd ⟨K, mg⟩ base 1 "_law_next" 3 F_p_law_next) (H_p_law_some : Fok P wd ⟨K, mg⟩ base 1 "_law_some" 1 F_p_law_some) : Fok P wd ⟨K, mg⟩ base 2 "_law_do" 2 F_p_law_do :=
  fok_of (N := N_p_law_do) F sc_p_law_do hm b (fun cdv A outer s H E c =>
    (ds_cons (ds_asg (de_tup (da_cons (de_call H_p_law_some (by decide) c.hr c.tk (by rfl) (by rfl) (da_cons (de_var (pv 0)) da_nil) (hlen := (alen_cons alen_nil))) (da_cons (de_op jo_mulL (de_lst (da_cons de_int da_nil)) (de_ix (jo_ix c.u1) (de_var (pv 0)) de_int (fun _ _ => rfl))) da_nil))) (dg_tup c.calm (dg_cons (dg_name (pg_name (i := 2) sc_p_law_do.nd rfl (Or.inr rfl))) (dg_cons (dg_name (pg_name (i := 3) sc_p_law_do.nd rfl (Or.inr rfl))) dg_nil))))
    (ds_cons (ds_for c.po c.calm (di_rng1 (by rfl) T.range (da_cons (de_op jo_add (de_callB (jc_sum c.calm) (by rfl) T.sum (by decide +kernel) (da_cons (de_var (pv 1)) da_nil)) de_int) da_nil)) (dg_name (pg_name (i := 4) sc_p_law_do.nd rfl (Or.inl rfl))) (ds_cons (ds_setT (ps_setLc (i := 5) (own := [("box", 6)]) c.calm sc_p_law_do.nd rfl rfl (sw_true rfl rfl rfl (by decide +kernel)) (di_rng1 (by rfl) T.range (da_cons (de_ix (jo_ix c.u1) (de_var (pv 0)) de_int (fun _ _ => rfl)) da_nil)) (blkOk_by (N := N_p_law_do) (sc := defScope st_p_law_do) (by decide +kernel)) (fun _ _ _ _ _ => (dg_name (pg_name (i := 6) sc_p_law_do.nd rfl (Or.inl rfl)))) (fun _ _ _ _ _ => (dts_one (PW.pt (dw_and (dt_cmp jo_lt (de_ix (jo_ix (c.blk _ _ _ _ _).u1) (de_var (pv 3)) (de_var (pv 6)) (fun _ _ => rfl)) (de_ix (jo_ix (c.blk _ _ _ _ _).u1) (de_var (pv 1)) (de_var (pv 6)) (fun _ _ => rfl)) (nomark _)) (dw_and1 (dt_truth (de_call H_p_law_can (by decide) (c.blk _ _ _ _ _).hr (c.blk _ _ _ _ _).tk (by rfl) (by rfl) (da_cons (de_var (pv 0)) (da_cons (de_var (pv 2)) (da_cons (de_var (pv 6)) da_nil))) (hlen := (alen_cons (alen_cons (alen_cons alen_nil))))))))))) (fun _ _ _ _ _ => (de_var (pv 6)))) (lcUse (by decide) (.inl rfl)))
    (ds_cons (ds_if (dt_cmp (jo_eq c.u64) (de_var (pv 5)) (de_lst da_nil) (nomark _)) (ds_one (ds_ret (de_tup (da_cons (de_var (pv 3)) (da_cons (de_var (pv 2)) da_nil))))) ds_nil)
    (ds_cons (ds_set (fun te h => ps_set (i := 2) sc_p_law_do.nd rfl (Or.inr rfl) h) (de_call H_p_law_next (by decide) c.hr c.tk (by rfl) (by rfl) (da_cons (de_var (pv 0)) (da_cons (de_var (pv 2)) (da_cons (de_ix (jo_ix c.u1) (de_var (pv 5)) (de_un ju_neg de_int) (fun _ _ => rfl)) da_nil))) (hlen := (alen_cons (alen_cons (alen_cons alen_nil))))))
    (ds_one (ds_put (de_var (pv 3)) (de_ix (jo_ix c.u1) (de_var (pv 5)) (de_un ju_neg de_int) (fun _ _ => rfl)) (de_op jo_add (de_ix (jo_ix c.u1) (de_var (pv 3)) (de_ix (jo_ix c.u1) (de_var (pv 5)) (de_un ju_neg de_int) (fun _ _ => rfl)) (fun _ _ => rfl)) de_int) c.u1))))))
    (ds_one (ds_ret (de_tup (da_cons (de_var (pv 3)) (da_cons (de_var (pv 2)) da_nil))))))))
abbrev st_p_law_gcd : Stmt := topS 39
abbrev N_p_law_gcd : List Str := ["one", "other"]
theorem sc_p_law_gcd : FnScope N_p_law_gcd ["one", "other"] (defScope st_p_law_gcd) := ⟨rfl, rfl, rfl, by decide +kernel, rfl, by decide +kernel, by decide +kernel⟩
theorem ok_p_law_gcd {f : Addr} {fd : FuncData} (F : Fun K "_law_gcd" "_law_gcd" st_p_law_gcd f fd) (hm : mg "_law_gcd" = some (.ref f)) (b : Binds K fd ["one", "other"] []) (T : Top K mg)  : Fok P wd ⟨K, mg⟩ base 1 "_law_gcd" 2 F_p_law_gcd :=
  fok_of (N := N_p_law_gcd) F sc_p_law_gcd hm b (fun cdv A outer s H E c =>
    (ds_cons (ds_par (fun t h => ps_par (i := 0) (j := 1) c.calm sc_p_law_gcd.nd rfl rfl (by decide) rfl rfl h (by rfl)) (da_cons (de_callB jc_abs (by rfl) T.abs (by decide +kernel) (da_cons (de_var (pv 0)) da_nil)) (da_cons (de_callB jc_abs (by rfl) T.abs (by decide +kernel) (da_cons (de_var (pv 1)) da_nil)) da_nil)))
    (ds_cons (ds_while c.po (dt_cmp (jo_ne c.u64) (de_var (pv 1)) de_int (nomark _)) (ds_one (ds_par (fun t h => ps_par (i := 0) (j := 1) c.calm sc_p_law_gcd.nd rfl rfl (by decide) rfl rfl h (by rfl)) (da_cons (de_var (pv 1)) (da_cons (de_op jo_mod (de_callTy jc_int (by rfl) T.int (by decide +kernel) (da_cons (de_var (pv 0)) da_nil)) (de_var (pv 1))) da_nil)))))
    (ds_one (ds_ret (de_var (pv 0)))))))
abbrev st_p_law_pick : Stmt := topS 37
abbrev N_p_law_pick : List Str := ["row", "things"]
theorem sc_p_law_pick : FnScope N_p_law_pick ["row", "things"] (defScope st_p_law_pick) := ⟨rfl, rfl, rfl, by decide +kernel, rfl, by decide +kernel, by decide +kernel⟩
theorem ok_p_law_pick {f : Addr} {fd : FuncData} (F : Fun K "_law_pick" "_law_pick" st_p_law_pick f fd) (hm : mg "_law_pick" = some (.ref f)) (b : Binds K fd ["row", "things"] []) (T : Top K mg) (H_p_law_taken : Fok P wd ⟨K, mg⟩ base 1 "_law_taken" 2 F_p_law_taken) : Fok P wd ⟨K, mg⟩ base 2 "_law_pick" 2 F_p_law_pick :=
  fok_of (N := N_p_law_pick) F sc_p_law_pick hm b (fun cdv A outer s H E c =>
    (ds_one (ds_ret (de_ix (jo_ix c.u1) (de_var (pv 1)) (de_call H_p_law_taken (by decide) c.hr c.tk (by rfl) (by rfl) (da_cons (de_var (pv 0)) (da_cons (de_callB jc_len (by rfl) T.len (by decide +kernel) (da_cons (de_var (pv 1)) da_nil)) da_nil)) (hlen := (alen_cons (alen_cons alen_nil)))) (fun _ _ => rfl)))))
abbrev st_p_law_flow : Stmt := topS 40
abbrev N_p_law_flow : List Str := ["row", "most", "top", "many", "way", "pipes", "counts", "k", "pair", "turn", "found", "one", "other", "common", "more"]
theorem sc_p_law_flow : FnScope N_p_law_flow ["row", "most", "top"] (defScope st_p_law_flow) := ⟨rfl, rfl, rfl, by decide +kernel, rfl, by decide +kernel, by decide +kernel⟩
theorem ok_p_law_flow {f : Addr} {fd : FuncData} (F : Fun K "_law_flow" "_law_flow" st_p_law_flow f fd) (hm : mg "_law_flow" = some (.ref f)) (b : Binds K fd ["row", "most", "top"] []) (T : Top K mg) (H_p_law_gcd : Fok P wd ⟨K, mg⟩ base 1 "_law_gcd" 2 F_p_law_gcd) (H_p_law_pick : Fok P wd ⟨K, mg⟩ base 2 "_law_pick" 2 F_p_law_pick) (H_p_law_taken : Fok P wd ⟨K, mg⟩ base 1 "_law_taken" 2 F_p_law_taken) : Fok P wd ⟨K, mg⟩ base 3 "_law_flow" 3 F_p_law_flow :=
  fok_of (N := N_p_law_flow) F sc_p_law_flow hm b (fun cdv A outer s H E c =>
    (ds_cons (ds_par3 (i := 3) (j := 4) (l := 5) c.calm sc_p_law_flow.nd rfl rfl rfl (by decide) (by decide) (by decide) rfl rfl rfl (da_cons (de_op jo_add de_int (de_call H_p_law_taken (by decide) c.hr c.tk (by rfl) (by rfl) (da_cons (de_var (pv 0)) (da_cons (de_var (pv 1)) da_nil)) (hlen := (alen_cons (alen_cons alen_nil))))) (da_cons (de_call H_p_law_taken (by decide) c.hr c.tk (by rfl) (by rfl) (da_cons (de_var (pv 0)) (da_cons de_int da_nil)) (hlen := (alen_cons (alen_cons alen_nil)))) (da_cons (de_lstL da_nil) da_nil))) (by rfl))
    (ds_cons (ds_setT (ps_setLc (i := 6) (own := [("k", 7)]) c.calm sc_p_law_flow.nd rfl rfl (sw_true rfl rfl rfl (by decide +kernel)) (di_rng1 (by rfl) T.range (da_cons (de_var (pv 3)) da_nil)) (blkOk_by (N := N_p_law_flow) (sc := defScope st_p_law_flow) (by decide +kernel)) (fun _ _ _ _ _ => (dg_name (pg_name (i := 7) sc_p_law_flow.nd rfl (Or.inl rfl)))) (fun _ _ _ _ _ => dts_nil) (fun _ _ _ _ _ => (de_op jo_add de_int (de_call H_p_law_taken (by decide) (c.blk _ _ _ _ _).hr (c.blk _ _ _ _ _).tk (by rfl) (by rfl) (da_cons (de_var (pv 0)) (da_cons (de_call H_p_law_pick (by decide) (c.blk _ _ _ _ _).hr (c.blk _ _ _ _ _).tk (by rfl) (by rfl) (da_cons (de_var (pv 0)) (da_cons (de_lst (da_cons de_int (da_cons de_int (da_cons de_int da_nil)))) da_nil)) (hlen := (alen_cons (alen_cons alen_nil)))) da_nil)) (hlen := (alen_cons (alen_cons alen_nil))))))) (lcUse (by decide) (.inl rfl)))
    (ds_cons (ds_for c.po c.calm (di_rng2 (by rfl) T.range (da_cons de_int (da_cons (de_var (pv 3)) da_nil))) (dg_name (pg_name (i := 7) sc_p_law_flow.nd rfl (Or.inl rfl))) (ds_one (ds_if (dt_cmp jo_gt (de_call H_p_law_taken (by decide) c.hr c.tk (by rfl) (by rfl) (da_cons (de_var (pv 0)) (da_cons de_int da_nil)) (hlen := (alen_cons (alen_cons alen_nil)))) de_int (nomark _)) (ds_cons (ds_set (fun te h => ps_set (i := 8) sc_p_law_flow.nd rfl (Or.inl rfl) h) (de_tup (da_cons (de_if (dt_cmp (jo_eq c.u64) (de_var (pv 4)) de_int (nomark _)) (de_op jo_sub (de_var (pv 7)) de_int) (de_call H_p_law_taken (by decide) c.hr c.tk (by rfl) (by rfl) (da_cons (de_var (pv 0)) (da_cons (de_var (pv 7)) da_nil)) (hlen := (alen_cons (alen_cons alen_nil))))) (da_cons (de_var (pv 7)) da_nil))))
    (ds_one (ds_expr (de_meth PySem.F.slot_list_append PySem.F.type_list_append jm_append (de_var (pv 5)) (da_cons (de_if (dt_cmp jo_gt (de_call H_p_law_taken (by decide) c.hr c.tk (by rfl) (by rfl) (da_cons (de_var (pv 0)) (da_cons de_int da_nil)) (hlen := (alen_cons (alen_cons alen_nil)))) de_int (nomark _)) (de_var (pv 8)) (de_tup (da_cons (de_ix (jo_ix c.u1) (de_var (pv 8)) de_int (fun _ _ => rfl)) (da_cons (de_ix (jo_ix c.u1) (de_var (pv 8)) de_int (fun _ _ => rfl)) da_nil)))) da_nil))))) ds_nil)))
    (ds_cons (ds_for c.po c.calm (di_rng1 (by rfl) T.range (da_cons (de_if (dt_cmp jo_gt (de_var (pv 4)) de_int (nomark _)) (de_call H_p_law_taken (by decide) c.hr c.tk (by rfl) (by rfl) (da_cons (de_var (pv 0)) (da_cons de_int da_nil)) (hlen := (alen_cons (alen_cons alen_nil)))) de_int) da_nil)) (dg_name (pg_name (i := 9) sc_p_law_flow.nd rfl (Or.inl rfl))) (ds_one (ds_expr (de_meth PySem.F.slot_list_append PySem.F.type_list_append jm_append (de_var (pv 5)) (da_cons (de_tup (da_cons (de_call H_p_law_taken (by decide) c.hr c.tk (by rfl) (by rfl) (da_cons (de_var (pv 0)) (da_cons (de_var (pv 3)) da_nil)) (hlen := (alen_cons (alen_cons alen_nil)))) (da_cons (de_call H_p_law_taken (by decide) c.hr c.tk (by rfl) (by rfl) (da_cons (de_var (pv 0)) (da_cons (de_var (pv 3)) da_nil)) (hlen := (alen_cons (alen_cons alen_nil)))) da_nil))) da_nil)))))
    (ds_cons (ds_set (fun te h => ps_set (i := 10) sc_p_law_flow.nd rfl (Or.inl rfl) h) (de_lstL da_nil))
    (ds_cons (ds_for c.po c.calm (di_seq (de_var (pv 5))) (dg_tup c.calm (dg_cons (dg_name (pg_name (i := 11) sc_p_law_flow.nd rfl (Or.inl rfl))) (dg_cons (dg_name (pg_name (i := 12) sc_p_law_flow.nd rfl (Or.inl rfl))) dg_nil))) (ds_cons (ds_set (fun te h => ps_set (i := 13) sc_p_law_flow.nd rfl (Or.inl rfl) h) (de_call H_p_law_gcd (by decide) c.hr c.tk (by rfl) (by rfl) (da_cons (de_ix (jo_ix c.u1) (de_var (pv 6)) (de_var (pv 11)) (fun _ _ => rfl)) (da_cons (de_ix (jo_ix c.u1) (de_var (pv 6)) (de_var (pv 12)) (fun _ _ => rfl)) da_nil)) (hlen := (alen_cons (alen_cons alen_nil)))))
    (ds_cons (ds_set (fun te h => ps_set (i := 14) sc_p_law_flow.nd rfl (Or.inl rfl) h) (de_call H_p_law_pick (by decide) c.hr c.tk (by rfl) (by rfl) (da_cons (de_var (pv 0)) (da_cons (de_lst (da_cons de_int (da_cons de_int (da_cons de_int da_nil)))) da_nil)) (hlen := (alen_cons (alen_cons alen_nil)))))
    (ds_one (ds_expr (de_meth PySem.F.slot_list_append PySem.F.type_list_append jm_append (de_var (pv 10)) (da_cons (de_tup (da_cons (de_var (pv 11)) (da_cons (de_var (pv 12)) (da_cons (de_op jo_div (de_op jo_mul (de_var (pv 14)) (de_ix (jo_ix c.u1) (de_var (pv 6)) (de_var (pv 12)) (fun _ _ => rfl))) (de_var (pv 13))) (da_cons (de_op jo_div (de_op jo_mul (de_var (pv 14)) (de_ix (jo_ix c.u1) (de_var (pv 6)) (de_var (pv 11)) (fun _ _ => rfl))) (de_var (pv 13))) (da_cons (de_call H_p_law_taken (by decide) c.hr c.tk (by rfl) (by rfl) (da_cons (de_var (pv 0)) (da_cons (de_op jo_add (de_var (pv 2)) de_int) da_nil)) (hlen := (alen_cons (alen_cons alen_nil)))) da_nil)))))) da_nil)))))))
    (ds_one (ds_ret (de_tup (da_cons (de_var (pv 3)) (da_cons (de_callTy jc_tuple (by rfl) T.tuple (by decide +kernel) (da_cons (de_var (pv 10)) da_nil)) da_nil))))))))))))
abbrev st_p_law_joined : Stmt := topS 42
abbrev N_p_law_joined : List Str := ["flow", "box", "both", "found", "turn", "more", "pipe", "k"]
theorem sc_p_law_joined : FnScope N_p_law_joined ["flow", "box", "both"] (defScope st_p_law_joined) := ⟨rfl, rfl, rfl, by decide +kernel, rfl, by decide +kernel, by decide +kernel⟩
theorem ok_p_law_joined {f : Addr} {fd : FuncData} (F : Fun K "_law_joined" "_law_joined" st_p_law_joined f fd) (hm : mg "_law_joined" = some (.ref f)) (b : Binds K fd ["flow", "box", "both"] []) (T : Top K mg)  : Fok P wd ⟨K, mg⟩ base 1 "_law_joined" 3 F_p_law_joined :=
  fok_of (N := N_p_law_joined) F sc_p_law_joined hm b (fun cdv A outer s H E c =>
    (ds_cons (ds_set (fun te h => ps_set (i := 3) sc_p_law_joined.nd rfl (Or.inr rfl) h) (de_lst (da_cons (de_var (pv 1)) da_nil)))
    (ds_cons (ds_for c.po c.calm (di_rng1 (by rfl) T.range (da_cons (de_ix (jo_ix c.u1) (de_var (pv 0)) de_int (fun _ _ => rfl)) da_nil)) (dg_name (pg_name (i := 4) sc_p_law_joined.nd rfl (Or.inl rfl))) (ds_cons (ds_set (fun te h => ps_set (i := 5) sc_p_law_joined.nd rfl (Or.inr rfl) h) (de_lc (own := [("pipe", 6)]) (by decide) (.inl rfl) (pe_lc (own := [("pipe", 6)]) c.calm sc_p_law_joined.nd (di_seq (de_ix (jo_ix c.u1) (de_var (pv 0)) de_int (fun _ _ => rfl))) (blkOk_by (N := N_p_law_joined) (sc := defScope st_p_law_joined) (by decide +kernel)) (fun _ _ _ _ _ => (dg_name (pg_name (i := 6) sc_p_law_joined.nd rfl (Or.inl rfl)))) (fun _ _ _ _ _ => (dts_one (dt_cmp (jo_in (c.blk _ _ _ _ _).u65) (de_ix (jo_ix (c.blk _ _ _ _ _).u1) (de_var (pv 6)) de_int (fun _ _ => rfl)) (de_var (pv 3)) (by rfl)))) (fun _ _ _ _ _ => (de_ix (jo_ix (c.blk _ _ _ _ _).u1) (de_var (pv 6)) de_int (fun _ _ => rfl))))))
    (ds_cons (ds_set (fun te h => ps_set (i := 5) sc_p_law_joined.nd rfl (Or.inr rfl) h) (de_op jo_add (de_var (pv 5)) (de_lc (own := [("pipe", 6)]) (by decide) (.inl rfl) (pe_lc (own := [("pipe", 6)]) c.calm sc_p_law_joined.nd (di_seq (de_ix (jo_ix c.u1) (de_var (pv 0)) de_int (fun _ _ => rfl))) (blkOk_by (N := N_p_law_joined) (sc := defScope st_p_law_joined) (by decide +kernel)) (fun _ _ _ _ _ => (dg_name (pg_name (i := 6) sc_p_law_joined.nd rfl (Or.inl rfl)))) (fun _ _ _ _ _ => (dts_one (PW.pt (dw_and (dt_truth (de_var (pv 2))) (dw_and1 (dt_cmp (jo_in (c.blk _ _ _ _ _).u65) (de_ix (jo_ix (c.blk _ _ _ _ _).u1) (de_var (pv 6)) de_int (fun _ _ => rfl)) (de_var (pv 3)) (by rfl))))))) (fun _ _ _ _ _ => (de_ix (jo_ix (c.blk _ _ _ _ _).u1) (de_var (pv 6)) de_int (fun _ _ => rfl)))))))
    (ds_one (ds_set (fun te h => ps_set (i := 3) sc_p_law_joined.nd rfl (Or.inr rfl) h) (de_lc (own := [("k", 7)]) (by decide) (.inl rfl) (pe_lc (own := [("k", 7)]) c.calm sc_p_law_joined.nd (di_rng1 (by rfl) T.range (da_cons (de_ix (jo_ix c.u1) (de_var (pv 0)) de_int (fun _ _ => rfl)) da_nil)) (blkOk_by (N := N_p_law_joined) (sc := defScope st_p_law_joined) (by decide +kernel)) (fun _ _ _ _ _ => (dg_name (pg_name (i := 7) sc_p_law_joined.nd rfl (Or.inl rfl)))) (fun _ _ _ _ _ => (dts_one (PW.pt (dw_or (dt_cmp (jo_in (c.blk _ _ _ _ _).u65) (de_var (pv 7)) (de_var (pv 3)) (by rfl)) (dw_or1 (dt_cmp (jo_in (c.blk _ _ _ _ _).u65) (de_var (pv 7)) (de_var (pv 5)) (by rfl))))))) (fun _ _ _ _ _ => (de_var (pv 7))))))))))
    (ds_one (ds_ret (de_var (pv 3)))))))
abbrev st_p_law_ratio : Stmt := topS 41
abbrev N_p_law_ratio : List Str := ["numerator", "denominator", "common"]
theorem sc_p_law_ratio : FnScope N_p_law_ratio ["numerator", "denominator"] (defScope st_p_law_ratio) := ⟨rfl, rfl, rfl, by decide +kernel, rfl, by decide +kernel, by decide +kernel⟩
theorem ok_p_law_ratio {f : Addr} {fd : FuncData} (F : Fun K "_law_ratio" "_law_ratio" st_p_law_ratio f fd) (hm : mg "_law_ratio" = some (.ref f)) (b : Binds K fd ["numerator", "denominator"] []) (T : Top K mg) (H_p_law_gcd : Fok P wd ⟨K, mg⟩ base 1 "_law_gcd" 2 F_p_law_gcd) : Fok P wd ⟨K, mg⟩ base 2 "_law_ratio" 2 F_p_law_ratio :=
  fok_of (N := N_p_law_ratio) F sc_p_law_ratio hm b (fun cdv A outer s H E c =>
    (ds_cons (ds_set (fun te h => ps_set (i := 2) sc_p_law_ratio.nd rfl (Or.inl rfl) h) (de_call H_p_law_gcd (by decide) c.hr c.tk (by rfl) (by rfl) (da_cons (de_var (pv 0)) (da_cons (de_var (pv 1)) da_nil)) (hlen := (alen_cons (alen_cons alen_nil)))))
    (ds_cons (ds_set (fun te h => ps_set (i := 2) sc_p_law_ratio.nd rfl (Or.inl rfl) h) (de_if (dt_cmp jo_lt (de_var (pv 1)) de_int (nomark _)) (de_op jo_sub de_int (de_var (pv 2))) (de_var (pv 2))))
    (ds_one (ds_ret (de_tup (da_cons (de_op jo_div (de_var (pv 0)) (de_var (pv 2))) (da_cons (de_op jo_div (de_var (pv 1)) (de_var (pv 2))) da_nil))))))))
abbrev st_p_law_round : Stmt := topS 43
abbrev N_p_law_round : List Str := ["flow", "shares", "box", "turn", "one", "other", "give", "eat", "start", "found", "part", "below", "common", "k"]
theorem sc_p_law_round : FnScope N_p_law_round ["flow"] (defScope st_p_law_round) := ⟨rfl, rfl, rfl, by decide +kernel, rfl, by decide +kernel, by decide +kernel⟩
theorem ok_p_law_round {f : Addr} {fd : FuncData} (F : Fun K "_law_round" "_law_round" st_p_law_round f fd) (hm : mg "_law_round" = some (.ref f)) (b : Binds K fd ["flow"] []) (T : Top K mg) (H_p_law_gcd : Fok P wd ⟨K, mg⟩ base 1 "_law_gcd" 2 F_p_law_gcd) (H_p_law_joined : Fok P wd ⟨K, mg⟩ base 1 "_law_joined" 3 F_p_law_joined) (H_p_law_ratio : Fok P wd ⟨K, mg⟩ base 2 "_law_ratio" 2 F_p_law_ratio) : Fok P wd ⟨K, mg⟩ base 3 "_law_round" 1 F_p_law_round :=
  fok_of (N := N_p_law_round) F sc_p_law_round hm b (fun cdv A outer s H E c =>
    (ds_cons (ds_set (fun te h => ps_set (i := 1) sc_p_law_round.nd rfl (Or.inl rfl) h) de_dctL)
    (ds_cons (ds_for c.po c.calm (di_rng1 (by rfl) T.range (da_cons (de_ix (jo_ix c.u1) (de_var (pv 0)) de_int (fun _ _ => rfl)) da_nil)) (dg_name (pg_name (i := 2) sc_p_law_round.nd rfl (Or.inl rfl))) (ds_one (ds_if (dt_cmp (jo_nin c.u65) (de_var (pv 2)) (de_var (pv 1)) (by rfl)) (ds_cons (ds_put (de_var (pv 1)) (de_var (pv 2)) (de_tup (da_cons de_int (da_cons de_int da_nil))) c.u1)
    (ds_one (ds_for c.po c.calm (di_rng1 (by rfl) T.range (da_cons (de_ix (jo_ix c.u1) (de_var (pv 0)) de_int (fun _ _ => rfl)) da_nil)) (dg_name (pg_name (i := 3) sc_p_law_round.nd rfl (Or.inl rfl))) (ds_one (ds_for c.po c.calm (di_seq (de_ix (jo_ix c.u1) (de_var (pv 0)) de_int (fun _ _ => rfl))) (dg_tup c.calm (dg_cons (dg_name (pg_name (i := 4) sc_p_law_round.nd rfl (Or.inl rfl))) (dg_cons (dg_name (pg_name (i := 5) sc_p_law_round.nd rfl (Or.inl rfl))) (dg_cons (dg_name (pg_name (i := 6) sc_p_law_round.nd rfl (Or.inl rfl))) (dg_cons (dg_name (pg_name (i := 7) sc_p_law_round.nd rfl (Or.inl rfl))) (dg_cons (dg_name (pg_name (i := 8) sc_p_law_round.nd rfl (Or.inl rfl))) dg_nil)))))) (ds_cons (ds_if (PW.pt (dw_and (dt_cmp (jo_in c.u65) (de_var (pv 4)) (de_var (pv 1)) (by rfl)) (dw_and1 (dt_cmp (jo_nin c.u65) (de_var (pv 5)) (de_var (pv 1)) (by rfl))))) (ds_one (ds_put (de_var (pv 1)) (de_var (pv 5)) (de_call H_p_law_ratio (by decide) c.hr c.tk (by rfl) (by rfl) (da_cons (de_op jo_mul (de_ix (jo_ix c.u1) (de_ix (jo_ix c.u1) (de_var (pv 1)) (de_var (pv 4)) (fun _ _ => rfl)) de_int (fun _ _ => rfl)) (de_var (pv 6))) (da_cons (de_op jo_mul (de_ix (jo_ix c.u1) (de_ix (jo_ix c.u1) (de_var (pv 1)) (de_var (pv 4)) (fun _ _ => rfl)) de_int (fun _ _ => rfl)) (de_var (pv 7))) da_nil)) (hlen := (alen_cons (alen_cons alen_nil)))) c.u1)) ds_nil)
    (ds_one (ds_if (PW.pt (dw_and (dt_cmp (jo_in c.u65) (de_var (pv 5)) (de_var (pv 1)) (by rfl)) (dw_and1 (dt_cmp (jo_nin c.u65) (de_var (pv 4)) (de_var (pv 1)) (by rfl))))) (ds_one (ds_put (de_var (pv 1)) (de_var (pv 4)) (de_call H_p_law_ratio (by decide) c.hr c.tk (by rfl) (by rfl) (da_cons (de_op jo_mul (de_ix (jo_ix c.u1) (de_ix (jo_ix c.u1) (de_var (pv 1)) (de_var (pv 5)) (fun _ _ => rfl)) de_int (fun _ _ => rfl)) (de_var (pv 7))) (da_cons (de_op jo_mul (de_ix (jo_ix c.u1) (de_ix (jo_ix c.u1) (de_var (pv 1)) (de_var (pv 5)) (fun _ _ => rfl)) de_int (fun _ _ => rfl)) (de_var (pv 6))) da_nil)) (hlen := (alen_cons (alen_cons alen_nil)))) c.u1)) ds_nil)))))))) ds_nil)))
    (ds_cons (ds_set (fun te h => ps_set (i := 9) sc_p_law_round.nd rfl (Or.inl rfl) h) (de_lstL da_nil))
    (ds_cons (ds_for c.po c.calm (di_rng1 (by rfl) T.range (da_cons (de_ix (jo_ix c.u1) (de_var (pv 0)) de_int (fun _ _ => rfl)) da_nil)) (dg_name (pg_name (i := 2) sc_p_law_round.nd rfl (Or.inl rfl))) (ds_cons (ds_par3 (i := 10) (j := 11) (l := 12) c.calm sc_p_law_round.nd rfl rfl rfl (by decide) (by decide) (by decide) rfl rfl rfl (da_cons (de_call H_p_law_joined (by decide) c.hr c.tk (by rfl) (by rfl) (da_cons (de_var (pv 0)) (da_cons (de_var (pv 2)) (da_cons de_bl da_nil))) (hlen := (alen_cons (alen_cons (alen_cons alen_nil))))) (da_cons de_int (da_cons de_int da_nil))) (by rfl))
    (ds_cons (ds_for c.po c.calm (di_seq (de_var (pv 10))) (dg_name (pg_name (i := 13) sc_p_law_round.nd rfl (Or.inl rfl))) (ds_one (ds_set (fun te h => ps_set (i := 11) sc_p_law_round.nd rfl (Or.inl rfl) h) (de_op jo_div (de_op jo_mul (de_var (pv 11)) (de_ix (jo_ix c.u1) (de_ix (jo_ix c.u1) (de_var (pv 1)) (de_var (pv 13)) (fun _ _ => rfl)) de_int (fun _ _ => rfl))) (de_call H_p_law_gcd (by decide) c.hr c.tk (by rfl) (by rfl) (da_cons (de_var (pv 11)) (da_cons (de_ix (jo_ix c.u1) (de_ix (jo_ix c.u1) (de_var (pv 1)) (de_var (pv 13)) (fun _ _ => rfl)) de_int (fun _ _ => rfl)) da_nil)) (hlen := (alen_cons (alen_cons alen_nil))))))))
    (ds_cons (ds_for c.po c.calm (di_seq (de_var (pv 10))) (dg_name (pg_name (i := 13) sc_p_law_round.nd rfl (Or.inl rfl))) (ds_one (ds_set (fun te h => ps_set (i := 12) sc_p_law_round.nd rfl (Or.inl rfl) h) (de_call H_p_law_gcd (by decide) c.hr c.tk (by rfl) (by rfl) (da_cons (de_var (pv 12)) (da_cons (de_op jo_div (de_op jo_mul (de_var (pv 11)) (de_ix (jo_ix c.u1) (de_ix (jo_ix c.u1) (de_var (pv 1)) (de_var (pv 13)) (fun _ _ => rfl)) de_int (fun _ _ => rfl))) (de_ix (jo_ix c.u1) (de_ix (jo_ix c.u1) (de_var (pv 1)) (de_var (pv 13)) (fun _ _ => rfl)) de_int (fun _ _ => rfl))) da_nil)) (hlen := (alen_cons (alen_cons alen_nil)))))))
    (ds_one (ds_expr (de_meth PySem.F.slot_list_append PySem.F.type_list_append jm_append (de_var (pv 9)) (da_cons (de_op jo_div (de_op jo_div (de_op jo_mul (de_var (pv 11)) (de_ix (jo_ix c.u1) (de_ix (jo_ix c.u1) (de_var (pv 1)) (de_var (pv 2)) (fun _ _ => rfl)) de_int (fun _ _ => rfl))) (de_ix (jo_ix c.u1) (de_ix (jo_ix c.u1) (de_var (pv 1)) (de_var (pv 2)) (fun _ _ => rfl)) de_int (fun _ _ => rfl))) (de_var (pv 12))) da_nil))))))))
    (ds_one (ds_ret (de_var (pv 9)))))))))
abbrev st_p_law_with : Stmt := topS 48
abbrev N_p_law_with : List Str := ["flow", "some", "k"]
theorem sc_p_law_with : FnScope N_p_law_with ["flow", "some"] (defScope st_p_law_with) := ⟨rfl, rfl, rfl, by decide +kernel, rfl, by decide +kernel, by decide +kernel⟩
theorem ok_p_law_with {f : Addr} {fd : FuncData} (F : Fun K "_law_with" "_law_with" st_p_law_with f fd) (hm : mg "_law_with" = some (.ref f)) (b : Binds K fd ["flow", "some"] []) (T : Top K mg)  : Fok P wd ⟨K, mg⟩ base 1 "_law_with" 2 F_p_law_with :=
  fok_of (N := N_p_law_with) F sc_p_law_with hm b (fun cdv A outer s H E c =>
    (ds_one (ds_ret (de_tup (da_cons (de_ix (jo_ix c.u1) (de_var (pv 0)) de_int (fun _ _ => rfl)) (da_cons (de_callTy jc_tuple (by rfl) T.tuple (by decide +kernel) (da_cons (de_lc (own := [("k", 2)]) (by decide) (.inl rfl) (pe_lc (own := [("k", 2)]) c.calm sc_p_law_with.nd (di_rng1 (by rfl) T.range (da_cons (de_callB jc_len (by rfl) T.len (by decide +kernel) (da_cons (de_ix (jo_ix c.u1) (de_var (pv 0)) de_int (fun _ _ => rfl)) da_nil)) da_nil)) (blkOk_by (N := N_p_law_with) (sc := defScope st_p_law_with) (by decide +kernel)) (fun _ _ _ _ _ => (dg_name (pg_name (i := 2) sc_p_law_with.nd rfl (Or.inl rfl)))) (fun _ _ _ _ _ => dts_nil) (fun _ _ _ _ _ => (de_op jo_add (de_slice (de_ix (jo_ix (c.blk _ _ _ _ _).u1) (de_ix (jo_ix (c.blk _ _ _ _ _).u1) (de_var (pv 0)) de_int (fun _ _ => rfl)) (de_var (pv 2)) (fun _ _ => rfl)) dp_none (dp_some de_int)) (de_tup (da_cons (de_ix (jo_ix (c.blk _ _ _ _ _).u1) (de_var (pv 1)) (de_var (pv 2)) (fun _ _ => rfl)) da_nil)))))) da_nil)) da_nil))))))
abbrev st_p_law_live : Stmt := topS 49
abbrev N_p_law_live : List Str := ["row", "most", "top", "flow", "counts", "turn", "done", "some", "left", "k", "pipe"]
theorem sc_p_law_live : FnScope N_p_law_live ["row", "most", "top"] (defScope st_p_law_live) := ⟨rfl, rfl, rfl, by decide +kernel, rfl, by decide +kernel, by decide +kernel⟩
theorem ok_p_law_live {f : Addr} {fd : FuncData} (F : Fun K "_law_live" "_law_live" st_p_law_live f fd) (hm : mg "_law_live" = some (.ref f)) (b : Binds K fd ["row", "most", "top"] []) (T : Top K mg) (H_p_law_do : Fok P wd ⟨K, mg⟩ base 2 "_law_do" 2 F_p_law_do) (H_p_law_flow : Fok P wd ⟨K, mg⟩ base 3 "_law_flow" 3 F_p_law_flow) (H_p_law_pick : Fok P wd ⟨K, mg⟩ base 2 "_law_pick" 2 F_p_law_pick) (H_p_law_round : Fok P wd ⟨K, mg⟩ base 3 "_law_round" 1 F_p_law_round) (H_p_law_some : Fok P wd ⟨K, mg⟩ base 1 "_law_some" 1 F_p_law_some) (H_p_law_with : Fok P wd ⟨K, mg⟩ base 1 "_law_with" 2 F_p_law_with) : Fok P wd ⟨K, mg⟩ base 4 "_law_live" 3 F_p_law_live :=
  fok_of (N := N_p_law_live) F sc_p_law_live hm b (fun cdv A outer s H E c =>
    (ds_cons (ds_set (fun te h => ps_set (i := 3) sc_p_law_live.nd rfl (Or.inr rfl) h) (de_call H_p_law_flow (by decide) c.hr c.tk (by rfl) (by rfl) (da_cons (de_var (pv 0)) (da_cons (de_var (pv 1)) (da_cons (de_var (pv 2)) da_nil))) (hlen := (alen_cons (alen_cons (alen_cons alen_nil))))))
    (ds_cons (ds_set (fun te h => ps_set (i := 4) sc_p_law_live.nd rfl (Or.inr rfl) h) (de_call H_p_law_round (by decide) c.hr c.tk (by rfl) (by rfl) (da_cons (de_var (pv 3)) da_nil) (hlen := (alen_cons alen_nil))))
    (ds_cons (ds_for c.po c.calm (di_rng1 (by rfl) T.range (da_cons de_int da_nil)) (dg_name (pg_name (i := 5) sc_p_law_live.nd rfl (Or.inl rfl))) (ds_cons (ds_asg (de_call H_p_law_do (by decide) c.hr c.tk (by rfl) (by rfl) (da_cons (de_var (pv 3)) (da_cons (de_var (pv 4)) da_nil)) (hlen := (alen_cons (alen_cons alen_nil)))) (dg_tup c.calm (dg_cons (dg_name (pg_name (i := 6) sc_p_law_live.nd rfl (Or.inr rfl))) (dg_cons (dg_name (pg_name (i := 7) sc_p_law_live.nd rfl (Or.inr rfl))) dg_nil))))
    (ds_cons (ds_setT (ps_setLc (i := 8) (own := [("k", 9)]) c.calm sc_p_law_live.nd rfl rfl (sw_true rfl rfl rfl (by decide +kernel)) (di_rng1 (by rfl) T.range (da_cons (de_callB jc_len (by rfl) T.len (by decide +kernel) (da_cons (de_var (pv 7)) da_nil)) da_nil)) (blkOk_by (N := N_p_law_live) (sc := defScope st_p_law_live) (by decide +kernel)) (fun _ _ _ _ _ => (dg_name (pg_name (i := 9) sc_p_law_live.nd rfl (Or.inl rfl)))) (fun _ _ _ _ _ => (dts_one (PW.pt (dw_and (dt_cmp jo_lt (de_ix (jo_ix (c.blk _ _ _ _ _).u1) (de_var (pv 6)) (de_ix (jo_ix (c.blk _ _ _ _ _).u1) (de_ix (jo_ix (c.blk _ _ _ _ _).u1) (de_ix (jo_ix (c.blk _ _ _ _ _).u1) (de_var (pv 3)) de_int (fun _ _ => rfl)) (de_var (pv 9)) (fun _ _ => rfl)) de_int (fun _ _ => rfl)) (fun _ _ => rfl)) (de_ix (jo_ix (c.blk _ _ _ _ _).u1) (de_var (pv 4)) (de_ix (jo_ix (c.blk _ _ _ _ _).u1) (de_ix (jo_ix (c.blk _ _ _ _ _).u1) (de_ix (jo_ix (c.blk _ _ _ _ _).u1) (de_var (pv 3)) de_int (fun _ _ => rfl)) (de_var (pv 9)) (fun _ _ => rfl)) de_int (fun _ _ => rfl)) (fun _ _ => rfl)) (nomark _)) (dw_and1 (dt_cmp jo_lt (de_ix (jo_ix (c.blk _ _ _ _ _).u1) (de_var (pv 7)) (de_var (pv 9)) (fun _ _ => rfl)) (de_ix (jo_ix (c.blk _ _ _ _ _).u1) (de_ix (jo_ix (c.blk _ _ _ _ _).u1) (de_ix (jo_ix (c.blk _ _ _ _ _).u1) (de_var (pv 3)) de_int (fun _ _ => rfl)) (de_var (pv 9)) (fun _ _ => rfl)) de_int (fun _ _ => rfl)) (nomark _))))))) (fun _ _ _ _ _ => (de_var (pv 9)))) (lcUse (by decide) (.inl rfl)))
    (ds_one (ds_if (dt_cmp (jo_ne c.u64) (de_var (pv 8)) (de_lst da_nil) (nomark _)) (ds_cons (ds_set (fun te h => ps_set (i := 9) sc_p_law_live.nd rfl (Or.inl rfl) h) (de_call H_p_law_pick (by decide) c.hr c.tk (by rfl) (by rfl) (da_cons (de_var (pv 0)) (da_cons (de_var (pv 8)) da_nil)) (hlen := (alen_cons (alen_cons alen_nil)))))
    (ds_one (ds_set (fun te h => ps_set (i := 3) sc_p_law_live.nd rfl (Or.inr rfl) h) (de_call H_p_law_with (by decide) c.hr c.tk (by rfl) (by rfl) (da_cons (de_var (pv 3)) (da_cons (de_op jo_add (de_op jo_add (de_slice (de_call H_p_law_some (by decide) c.hr c.tk (by rfl) (by rfl) (da_cons (de_var (pv 3)) da_nil) (hlen := (alen_cons alen_nil))) dp_none (dp_some (de_var (pv 9)))) (de_tup (da_cons (de_op jo_add (de_ix (jo_ix c.u1) (de_ix (jo_ix c.u1) (de_ix (jo_ix c.u1) (de_var (pv 3)) de_int (fun _ _ => rfl)) (de_var (pv 9)) (fun _ _ => rfl)) de_int (fun _ _ => rfl)) (de_ix (jo_ix c.u1) (de_ix (jo_ix c.u1) (de_ix (jo_ix c.u1) (de_var (pv 3)) de_int (fun _ _ => rfl)) (de_var (pv 9)) (fun _ _ => rfl)) de_int (fun _ _ => rfl))) da_nil))) (de_slice (de_call H_p_law_some (by decide) c.hr c.tk (by rfl) (by rfl) (da_cons (de_var (pv 3)) da_nil) (hlen := (alen_cons alen_nil))) (dp_some (de_op jo_add (de_var (pv 9)) de_int)) dp_none)) da_nil)) (hlen := (alen_cons (alen_cons alen_nil))))))) ds_nil)))))
    (ds_cons (ds_if (dt_cmp (jo_ne c.u64) (de_ix (jo_ix c.u1) (de_call H_p_law_do (by decide) c.hr c.tk (by rfl) (by rfl) (da_cons (de_var (pv 3)) (da_cons (de_var (pv 4)) da_nil)) (hlen := (alen_cons (alen_cons alen_nil)))) de_int (fun _ _ => rfl)) (de_var (pv 4)) (nomark _)) (ds_one (ds_set (fun te h => ps_set (i := 3) sc_p_law_live.nd rfl (Or.inr rfl) h) (de_call H_p_law_with (by decide) c.hr c.tk (by rfl) (by rfl) (da_cons (de_var (pv 3)) (da_cons (de_callTy jc_tuple (by rfl) T.tuple (by decide +kernel) (da_cons (de_lc (own := [("pipe", 10)]) (by decide) (.inl rfl) (pe_lc (own := [("pipe", 10)]) c.calm sc_p_law_live.nd (di_seq (de_ix (jo_ix c.u1) (de_var (pv 3)) de_int (fun _ _ => rfl))) (blkOk_by (N := N_p_law_live) (sc := defScope st_p_law_live) (by decide +kernel)) (fun _ _ _ _ _ => (dg_name (pg_name (i := 10) sc_p_law_live.nd rfl (Or.inl rfl)))) (fun _ _ _ _ _ => dts_nil) (fun _ _ _ _ _ => (de_op jo_mul (de_ix (jo_ix (c.blk _ _ _ _ _).u1) (de_var (pv 10)) de_int (fun _ _ => rfl)) (de_ix (jo_ix (c.blk _ _ _ _ _).u1) (de_var (pv 4)) (de_ix (jo_ix (c.blk _ _ _ _ _).u1) (de_var (pv 10)) de_int (fun _ _ => rfl)) (fun _ _ => rfl)))))) da_nil)) da_nil)) (hlen := (alen_cons (alen_cons alen_nil)))))) ds_nil)
    (ds_one (ds_ret (de_var (pv 3)))))))))
abbrev st_p_law_words : Stmt := topS 51
abbrev N_p_law_words : List Str := ["flow", "counts", "most", "rows", "turn", "more", "word", "some", "box"]
theorem sc_p_law_words : FnScope N_p_law_words ["flow", "counts", "most"] (defScope st_p_law_words) := ⟨rfl, rfl, rfl, by decide +kernel, rfl, by decide +kernel, by decide +kernel⟩
theorem ok_p_law_words {f : Addr} {fd : FuncData} (F : Fun K "_law_words" "_law_words" st_p_law_words f fd) (hm : mg "_law_words" = some (.ref f)) (b : Binds K fd ["flow", "counts", "most"] []) (T : Top K mg) (H_p_law_can : Fok P wd ⟨K, mg⟩ base 1 "_law_can" 3 F_p_law_can) (H_p_law_next : Fok P wd ⟨K, mg⟩ base 1 "_law_next" 3 F_p_law_next) (H_p_law_some : Fok P wd ⟨K, mg⟩ base 1 "_law_some" 1 F_p_law_some) : Fok P wd ⟨K, mg⟩ base 2 "_law_words" 3 F_p_law_words :=
  fok_of (N := N_p_law_words) F sc_p_law_words hm b (fun cdv A outer s H E c =>
    (ds_cons (ds_set (fun te h => ps_set (i := 3) sc_p_law_words.nd rfl (Or.inl rfl) h) (de_lst (da_cons (de_tup (da_cons (de_tupD da_nil) (da_cons (de_call H_p_law_some (by decide) c.hr c.tk (by rfl) (by rfl) (da_cons (de_var (pv 0)) da_nil) (hlen := (alen_cons alen_nil))) da_nil))) da_nil)))
    (ds_cons (ds_forF c.po c.calm (di_rng1 (by rfl) T.range (da_cons (de_callB (jc_sum c.calm) (by rfl) T.sum (by decide +kernel) (da_cons (de_var (pv 1)) da_nil)) da_nil)) (dg_name (pg_name (i := 4) sc_p_law_words.nd rfl (Or.inl rfl))) (ds_cons (ds_set (fun te h => ps_set (i := 5) sc_p_law_words.nd rfl (Or.inl rfl) h) (de_lstL da_nil))
    (ds_cons (ds_for c.po c.calm (di_seq (de_var (pv 3))) (dg_tup c.calm (dg_cons (dg_name (pg_name (i := 6) sc_p_law_words.nd rfl (Or.inl rfl))) (dg_cons (dg_name (pg_name (i := 7) sc_p_law_words.nd rfl (Or.inl rfl))) dg_nil))) (ds_one (ds_for c.po c.calm (di_rng1 (by rfl) T.range (da_cons (de_ix (jo_ix c.u1) (de_var (pv 0)) de_int (fun _ _ => rfl)) da_nil)) (dg_name (pg_name (i := 8) sc_p_law_words.nd rfl (Or.inl rfl))) (ds_one (ds_if (PW.pt (dw_and (dt_cmp jo_lt (de_methK PySem.F.slot_tuple_count PySem.F.type_tuple_count (jm_countK c.u1) (de_var (pv 6)) (da_cons (de_var (pv 8)) da_nil)) (de_ix (jo_ix c.u1) (de_var (pv 1)) (de_var (pv 8)) (fun _ _ => rfl)) (nomark _)) (dw_and1 (dt_truth (de_call H_p_law_can (by decide) c.hr c.tk (by rfl) (by rfl) (da_cons (de_var (pv 0)) (da_cons (de_var (pv 7)) (da_cons (de_var (pv 8)) da_nil))) (hlen := (alen_cons (alen_cons (alen_cons alen_nil))))))))) (ds_one (ds_expr (de_meth PySem.F.slot_list_append PySem.F.type_list_append jm_append (de_var (pv 5)) (da_cons (de_tup (da_cons (de_op jo_addK (de_var (pv 6)) (de_tupD (da_cons (de_var (pv 8)) da_nil))) (da_cons (de_call H_p_law_next (by decide) c.hr c.tk (by rfl) (by rfl) (da_cons (de_var (pv 0)) (da_cons (de_var (pv 7)) (da_cons (de_var (pv 8)) da_nil))) (hlen := (alen_cons (alen_cons (alen_cons alen_nil))))) da_nil))) da_nil)))) ds_nil)))))
    (ds_cons (ds_set (fun te h => ps_set (i := 3) sc_p_law_words.nd rfl (Or.inl rfl) h) (de_var (pv 5)))
    (ds_one (ds_if (dt_cmp jo_gt (de_callB jc_len (by rfl) T.len (by decide +kernel) (da_cons (de_var (pv 3)) da_nil)) (de_var (pv 2)) (nomark _)) (ds_one (ds_ret de_non)) ds_nil))))))
    (ds_one (ds_ret (de_lc (own := [("word", 6), ("some", 7)]) (by decide) (.inl rfl) (pe_lc (own := [("word", 6), ("some", 7)]) c.calm sc_p_law_words.nd (di_seq (de_var (pv 3))) (blkOk_by (N := N_p_law_words) (sc := defScope st_p_law_words) (by decide +kernel)) (fun _ _ _ _ _ => (dg_tup (c.blk _ _ _ _ _).calm (dg_cons (dg_name (pg_name (i := 6) sc_p_law_words.nd rfl (Or.inl rfl))) (dg_cons (dg_name (pg_name (i := 7) sc_p_law_words.nd rfl (Or.inl rfl))) dg_nil)))) (fun _ _ _ _ _ => dts_nil) (fun _ _ _ _ _ => (de_var (pv 6))))))))))
abbrev st_p_is_whole : Stmt := topS 11
abbrev N_p_is_whole : List Str := ["value"]
theorem sc_p_is_whole : FnScope N_p_is_whole ["value"] (defScope st_p_is_whole) := ⟨rfl, rfl, rfl, by decide +kernel, rfl, by decide +kernel, by decide +kernel⟩
theorem ok_p_is_whole {f : Addr} {fd : FuncData} (F : Fun K "is_whole" "is_whole" st_p_is_whole f fd) (hm : mg "is_whole" = some (.ref f)) (b : Binds K fd ["value"] []) (T : Top K mg)  : Fok P wd ⟨K, mg⟩ base 1 "is_whole" 1 F_p_is_whole :=
  fok_of (N := N_p_is_whole) F sc_p_is_whole hm b (fun cdv A outer s H E c =>
    (ds_one (ds_ret (de_and (jc_isi (x := "isinstance") (by decide) (de_var (pv 0)) (pe_bltn (v := .ty "int") (by rfl) T.int (by decide +kernel) rfl) (by rfl) T.isinstance) (de_one (de_not (jc_isi (x := "isinstance") (by decide) (de_var (pv 0)) (pe_bltn (v := .ty "bool") (by rfl) T.bool (by decide +kernel) rfl) (by rfl) T.isinstance)))))))
abbrev st_p_is_number : Stmt := topS 12
abbrev N_p_is_number : List Str := ["value", "low", "high"]
theorem sc_p_is_number : FnScope N_p_is_number ["value", "low", "high"] (defScope st_p_is_number) := ⟨rfl, rfl, rfl, by decide +kernel, rfl, by decide +kernel, by decide +kernel⟩
theorem ok_p_is_number {f : Addr} {fd : FuncData} (F : Fun K "is_number" "is_number" st_p_is_number f fd) (hm : mg "is_number" = some (.ref f)) (b : Binds K fd ["value", "low", "high"] []) (T : Top K mg) (H_p_is_whole : Fok P wd ⟨K, mg⟩ base 1 "is_whole" 1 F_p_is_whole) : Fok P wd ⟨K, mg⟩ base 2 "is_number" 3 F_p_is_number :=
  fok_of (N := N_p_is_number) F sc_p_is_number hm b (fun cdv A outer s H E c =>
    (ds_one (ds_ret (de_and (de_call H_p_is_whole (by decide) c.hr c.tk (by rfl) (by rfl) (da_cons (de_var (pv 0)) da_nil) (hlen := (alen_cons alen_nil))) (de_one (de_chain jo_le jo_le (de_var (pv 1)) (de_var (pv 0)) (de_var (pv 2))))))))
abbrev st_p_is_row : Stmt := topS 14
abbrev N_p_is_row : List Str := ["value", "many"]
theorem sc_p_is_row : FnScope N_p_is_row ["value", "many"] (defScope st_p_is_row) := ⟨rfl, rfl, rfl, by decide +kernel, rfl, by decide +kernel, by decide +kernel⟩
theorem ok_p_is_row {f : Addr} {fd : FuncData} (F : Fun K "is_row" "is_row" st_p_is_row f fd) (hm : mg "is_row" = some (.ref f)) (b : Binds K fd ["value", "many"] []) (T : Top K mg)  : Fok P wd ⟨K, mg⟩ base 1 "is_row" 2 F_p_is_row :=
  fok_of (N := N_p_is_row) F sc_p_is_row hm b (fun cdv A outer s H E c =>
    (ds_one (ds_ret (de_and (jc_isi (x := "isinstance") (by decide) (de_var (pv 0)) (pe_bltn (v := .ty "tuple") (by rfl) T.tuple (by decide +kernel) rfl) (by rfl) T.isinstance) (de_one (de_cmp (jo_eq c.u64) (de_callB jc_len (by rfl) T.len (by decide +kernel) (da_cons (de_var (pv 0)) da_nil)) (de_var (pv 1)) (nomark _)))))))
abbrev st_p_check_counts : Stmt := topS 17
abbrev N_p_check_counts : List Str := ["flow", "counts", "index", "many"]
theorem sc_p_check_counts : FnScope N_p_check_counts ["flow", "counts"] (defScope st_p_check_counts) := ⟨rfl, rfl, rfl, by decide +kernel, rfl, by decide +kernel, by decide +kernel⟩
theorem ok_p_check_counts {f : Addr} {fd : FuncData} (F : Fun K "check_counts" "check_counts" st_p_check_counts f fd) (hm : mg "check_counts" = some (.ref f)) (b : Binds K fd ["flow", "counts"] []) (T : Top K mg) (H_p_is_number : Fok P wd ⟨K, mg⟩ base 2 "is_number" 3 F_p_is_number) (H_p_is_row : Fok P wd ⟨K, mg⟩ base 1 "is_row" 2 F_p_is_row) : Fok P wd ⟨K, mg⟩ base 3 "check_counts" 2 F_p_check_counts :=
  fok_of (N := N_p_check_counts) F sc_p_check_counts hm b (fun cdv A outer s H E c =>
    (ds_cons (ds_if (dt_not (dt_truth (de_call H_p_is_row (by decide) c.hr c.tk (by rfl) (by rfl) (da_cons (de_var (pv 1)) (da_cons (de_ix (jo_ix c.u1) (de_var (pv 0)) de_int (fun _ _ => rfl)) da_nil)) (hlen := (alen_cons (alen_cons alen_nil)))))) (ds_one ds_never) ds_nil)
    (ds_one (ds_for c.po c.calm (di_enum (by rfl) T.enumerate (da_cons (de_var (pv 1)) da_nil)) (dg_tup c.calm (dg_cons (dg_name (pg_name (i := 2) sc_p_check_counts.nd rfl (Or.inl rfl))) (dg_cons (dg_name (pg_name (i := 3) sc_p_check_counts.nd rfl (Or.inl rfl))) dg_nil))) (ds_one (ds_if (dt_not (dt_truth (de_call H_p_is_number (by decide) c.hr c.tk (by rfl) (by rfl) (da_cons (de_var (pv 3)) (da_cons de_int (da_cons (de_c (pe_glob (v := .int 200) (by rfl) T.c_MOST_COUNT.choose_spec ⟨_, rfl⟩) fun _ => rfl) da_nil))) (hlen := (alen_cons (alen_cons (alen_cons alen_nil))))))) (ds_one ds_never) ds_nil))))))
abbrev st_p_is_box : Stmt := topS 13
abbrev N_p_is_box : List Str := ["value", "boxes"]
theorem sc_p_is_box : FnScope N_p_is_box ["value", "boxes"] (defScope st_p_is_box) := ⟨rfl, rfl, rfl, by decide +kernel, rfl, by decide +kernel, by decide +kernel⟩
theorem ok_p_is_box {f : Addr} {fd : FuncData} (F : Fun K "is_box" "is_box" st_p_is_box f fd) (hm : mg "is_box" = some (.ref f)) (b : Binds K fd ["value", "boxes"] []) (T : Top K mg) (H_p_is_number : Fok P wd ⟨K, mg⟩ base 2 "is_number" 3 F_p_is_number) : Fok P wd ⟨K, mg⟩ base 3 "is_box" 2 F_p_is_box :=
  fok_of (N := N_p_is_box) F sc_p_is_box hm b (fun cdv A outer s H E c =>
    (ds_one (ds_ret (de_call H_p_is_number (by decide) c.hr c.tk (by rfl) (by rfl) (da_cons (de_var (pv 0)) (da_cons de_int (da_cons (de_op jo_sub (de_var (pv 1)) de_int) da_nil))) (hlen := (alen_cons (alen_cons (alen_cons alen_nil))))))))
abbrev st_p_is_pipe : Stmt := topS 15
abbrev N_p_is_pipe : List Str := ["value", "boxes", "one", "other", "give", "eat", "start"]
theorem sc_p_is_pipe : FnScope N_p_is_pipe ["value", "boxes"] (defScope st_p_is_pipe) := ⟨rfl, rfl, rfl, by decide +kernel, rfl, by decide +kernel, by decide +kernel⟩
theorem ok_p_is_pipe {f : Addr} {fd : FuncData} (F : Fun K "is_pipe" "is_pipe" st_p_is_pipe f fd) (hm : mg "is_pipe" = some (.ref f)) (b : Binds K fd ["value", "boxes"] []) (T : Top K mg) (H_p_is_box : Fok P wd ⟨K, mg⟩ base 3 "is_box" 2 F_p_is_box) (H_p_is_number : Fok P wd ⟨K, mg⟩ base 2 "is_number" 3 F_p_is_number) (H_p_is_row : Fok P wd ⟨K, mg⟩ base 1 "is_row" 2 F_p_is_row) : Fok P wd ⟨K, mg⟩ base 4 "is_pipe" 2 F_p_is_pipe :=
  fok_of (N := N_p_is_pipe) F sc_p_is_pipe hm b (fun cdv A outer s H E c =>
    (ds_cons (ds_if (dt_not (dt_truth (de_call H_p_is_row (by decide) c.hr c.tk (by rfl) (by rfl) (da_cons (de_var (pv 0)) (da_cons de_int da_nil)) (hlen := (alen_cons (alen_cons alen_nil)))))) (ds_one (ds_ret de_bl)) ds_nil)
    (ds_cons (ds_asg (de_var (pv 0)) (dg_tup c.calm (dg_cons (dg_name (pg_name (i := 2) sc_p_is_pipe.nd rfl (Or.inl rfl))) (dg_cons (dg_name (pg_name (i := 3) sc_p_is_pipe.nd rfl (Or.inl rfl))) (dg_cons (dg_name (pg_name (i := 4) sc_p_is_pipe.nd rfl (Or.inl rfl))) (dg_cons (dg_name (pg_name (i := 5) sc_p_is_pipe.nd rfl (Or.inl rfl))) (dg_cons (dg_name (pg_name (i := 6) sc_p_is_pipe.nd rfl (Or.inl rfl))) dg_nil)))))))
    (ds_cons (ds_if (PW.pt (dw_or (dt_not (dt_truth (de_call H_p_is_box (by decide) c.hr c.tk (by rfl) (by rfl) (da_cons (de_var (pv 2)) (da_cons (de_var (pv 1)) da_nil)) (hlen := (alen_cons (alen_cons alen_nil)))))) (dw_or1 (dt_not (dt_truth (de_call H_p_is_box (by decide) c.hr c.tk (by rfl) (by rfl) (da_cons (de_var (pv 3)) (da_cons (de_var (pv 1)) da_nil)) (hlen := (alen_cons (alen_cons alen_nil))))))))) (ds_one (ds_ret de_bl)) ds_nil)
    (ds_cons (ds_if (PW.pt (dw_or (dt_not (dt_truth (de_call H_p_is_number (by decide) c.hr c.tk (by rfl) (by rfl) (da_cons (de_var (pv 4)) (da_cons de_int (da_cons (de_c (pe_glob (v := .int 999) (by rfl) T.c_MOST_RATE.choose_spec ⟨_, rfl⟩) fun _ => rfl) da_nil))) (hlen := (alen_cons (alen_cons (alen_cons alen_nil))))))) (dw_or1 (dt_not (dt_truth (de_call H_p_is_number (by decide) c.hr c.tk (by rfl) (by rfl) (da_cons (de_var (pv 5)) (da_cons de_int (da_cons (de_c (pe_glob (v := .int 999) (by rfl) T.c_MOST_RATE.choose_spec ⟨_, rfl⟩) fun _ => rfl) da_nil))) (hlen := (alen_cons (alen_cons (alen_cons alen_nil)))))))))) (ds_one (ds_ret de_bl)) ds_nil)
    (ds_one (ds_ret (de_call H_p_is_number (by decide) c.hr c.tk (by rfl) (by rfl) (da_cons (de_var (pv 6)) (da_cons de_int (da_cons (de_c (pe_glob (v := .int 99999) (by rfl) T.c_MOST_TOKENS.choose_spec ⟨_, rfl⟩) fun _ => rfl) da_nil))) (hlen := (alen_cons (alen_cons (alen_cons alen_nil))))))))))))
abbrev st_p_check_flow : Stmt := topS 16
abbrev N_p_check_flow : List Str := ["flow", "boxes", "pipes", "index", "pipe"]
theorem sc_p_check_flow : FnScope N_p_check_flow ["flow"] (defScope st_p_check_flow) := ⟨rfl, rfl, rfl, by decide +kernel, rfl, by decide +kernel, by decide +kernel⟩
theorem ok_p_check_flow {f : Addr} {fd : FuncData} (F : Fun K "check_flow" "check_flow" st_p_check_flow f fd) (hm : mg "check_flow" = some (.ref f)) (b : Binds K fd ["flow"] []) (T : Top K mg) (H_p_is_number : Fok P wd ⟨K, mg⟩ base 2 "is_number" 3 F_p_is_number) (H_p_is_pipe : Fok P wd ⟨K, mg⟩ base 4 "is_pipe" 2 F_p_is_pipe) (H_p_is_row : Fok P wd ⟨K, mg⟩ base 1 "is_row" 2 F_p_is_row) : Fok P wd ⟨K, mg⟩ base 5 "check_flow" 1 F_p_check_flow :=
  fok_of (N := N_p_check_flow) F sc_p_check_flow hm b (fun cdv A outer s H E c =>
    (ds_cons (ds_if (dt_not (dt_truth (de_call H_p_is_row (by decide) c.hr c.tk (by rfl) (by rfl) (da_cons (de_var (pv 0)) (da_cons de_int da_nil)) (hlen := (alen_cons (alen_cons alen_nil)))))) (ds_one ds_never) ds_nil)
    (ds_cons (ds_asg (de_var (pv 0)) (dg_tup c.calm (dg_cons (dg_name (pg_name (i := 1) sc_p_check_flow.nd rfl (Or.inl rfl))) (dg_cons (dg_name (pg_name (i := 2) sc_p_check_flow.nd rfl (Or.inl rfl))) dg_nil))))
    (ds_cons (ds_if (PW.pt (dw_or (dt_not (dt_truth (de_call H_p_is_number (by decide) c.hr c.tk (by rfl) (by rfl) (da_cons (de_var (pv 1)) (da_cons de_int (da_cons (de_c (pe_glob (v := .int 8) (by rfl) T.c_MOST_BOXES.choose_spec ⟨_, rfl⟩) fun _ => rfl) da_nil))) (hlen := (alen_cons (alen_cons (alen_cons alen_nil))))))) (dw_or (dt_not (dt_truth (jc_isi (x := "isinstance") (by decide) (de_var (pv 2)) (pe_bltn (v := .ty "tuple") (by rfl) T.tuple (by decide +kernel) rfl) (by rfl) T.isinstance))) (dw_or1 (dt_cmp jo_gt (de_callB jc_len (by rfl) T.len (by decide +kernel) (da_cons (de_var (pv 2)) da_nil)) (de_c (pe_glob (v := .int 16) (by rfl) T.c_MOST_PIPES.choose_spec ⟨_, rfl⟩) fun _ => rfl) (nomark _)))))) (ds_one ds_never) ds_nil)
    (ds_one (ds_for c.po c.calm (di_enum (by rfl) T.enumerate (da_cons (de_var (pv 2)) da_nil)) (dg_tup c.calm (dg_cons (dg_name (pg_name (i := 3) sc_p_check_flow.nd rfl (Or.inl rfl))) (dg_cons (dg_name (pg_name (i := 4) sc_p_check_flow.nd rfl (Or.inl rfl))) dg_nil))) (ds_one (ds_if (dt_not (dt_truth (de_call H_p_is_pipe (by decide) c.hr c.tk (by rfl) (by rfl) (da_cons (de_var (pv 4)) (da_cons (de_var (pv 1)) da_nil)) (hlen := (alen_cons (alen_cons alen_nil)))))) (ds_one ds_never) ds_nil))))))))
abbrev st_p_firings_in_a_row : Stmt := topS 25
abbrev N_p_firings_in_a_row : List Str := ["pipes", "held", "entries", "most", "many", "place", "one", "other", "give", "eat", "_", "loss"]
theorem sc_p_firings_in_a_row : FnScope N_p_firings_in_a_row ["pipes", "held", "entries", "most"] (defScope st_p_firings_in_a_row) := ⟨rfl, rfl, rfl, by decide +kernel, rfl, by decide +kernel, by decide +kernel⟩
theorem ok_p_firings_in_a_row {f : Addr} {fd : FuncData} (F : Fun K "firings_in_a_row" "firings_in_a_row" st_p_firings_in_a_row f fd) (hm : mg "firings_in_a_row" = some (.ref f)) (b : Binds K fd ["pipes", "held", "entries", "most"] []) (T : Top K mg)  : Fok P wd ⟨K, mg⟩ base 1 "firings_in_a_row" 4 F_p_firings_in_a_row :=
  fok_of (N := N_p_firings_in_a_row) F sc_p_firings_in_a_row hm b (fun cdv A outer s H E c =>
    (ds_cons (ds_set (fun te h => ps_set (i := 4) sc_p_firings_in_a_row.nd rfl (Or.inl rfl) h) (de_var (pv 3)))
    (ds_cons (ds_for c.po c.calm (di_seq (de_var (pv 2))) (dg_name (pg_name (i := 5) sc_p_firings_in_a_row.nd rfl (Or.inl rfl))) (ds_cons (ds_asg (de_ix (jo_ix c.u1) (de_var (pv 0)) (de_var (pv 5)) (fun _ _ => rfl)) (dg_tup c.calm (dg_cons (dg_name (pg_name (i := 6) sc_p_firings_in_a_row.nd rfl (Or.inl rfl))) (dg_cons (dg_name (pg_name (i := 7) sc_p_firings_in_a_row.nd rfl (Or.inl rfl))) (dg_cons (dg_name (pg_name (i := 8) sc_p_firings_in_a_row.nd rfl (Or.inl rfl))) (dg_cons (dg_name (pg_name (i := 9) sc_p_firings_in_a_row.nd rfl (Or.inl rfl))) (dg_cons (dg_name (pg_name (i := 10) sc_p_firings_in_a_row.nd rfl (Or.inl rfl))) dg_nil)))))))
    (ds_cons (ds_if (dt_cmp jo_lt (de_ix (jo_ix c.u1) (de_var (pv 1)) (de_var (pv 5)) (fun _ _ => rfl)) (de_var (pv 9)) (nomark _)) (ds_one (ds_ret de_int)) ds_nil)
    (ds_cons (ds_set (fun te h => ps_set (i := 11) sc_p_firings_in_a_row.nd rfl (Or.inl rfl) h) (de_if (dt_cmp (jo_eq c.u64) (de_var (pv 6)) (de_var (pv 7)) (nomark _)) (de_op jo_sub (de_var (pv 9)) (de_var (pv 8))) (de_var (pv 9))))
    (ds_one (ds_if (dt_cmp jo_gt (de_var (pv 11)) de_int (nomark _)) (ds_one (ds_set (fun te h => ps_set (i := 4) sc_p_firings_in_a_row.nd rfl (Or.inl rfl) h) (de_callB (jc_min2 c.calm) (by rfl) T.min (by decide +kernel) (da_cons (de_var (pv 4)) (da_cons (de_op jo_add (de_op jo_div (de_op jo_sub (de_ix (jo_ix c.u1) (de_var (pv 1)) (de_var (pv 5)) (fun _ _ => rfl)) (de_var (pv 9))) (de_var (pv 11))) de_int) da_nil))))) ds_nil))))))
    (ds_one (ds_ret (de_var (pv 4)))))))
abbrev st_p_pipes_at : Stmt := topS 24
abbrev N_p_pipes_at : List Str := ["pipes", "end", "boxes", "rows", "place", "pipe", "_"]
theorem sc_p_pipes_at : FnScope N_p_pipes_at ["pipes", "end", "boxes"] (defScope st_p_pipes_at) := ⟨rfl, rfl, rfl, by decide +kernel, rfl, by decide +kernel, by decide +kernel⟩
theorem ok_p_pipes_at {f : Addr} {fd : FuncData} (F : Fun K "pipes_at" "pipes_at" st_p_pipes_at f fd) (hm : mg "pipes_at" = some (.ref f)) (b : Binds K fd ["pipes", "end", "boxes"] []) (T : Top K mg)  : Fok P wd ⟨K, mg⟩ base 1 "pipes_at" 3 F_p_pipes_at :=
  fok_of (N := N_p_pipes_at) F sc_p_pipes_at hm b (fun cdv A outer s H E c =>
    (ds_cons (ds_setT (ps_setLc (i := 3) (own := [("_", 6)]) c.calm sc_p_pipes_at.nd rfl rfl (sw_true rfl rfl rfl (by decide +kernel)) (di_rng1 (by rfl) T.range (da_cons (de_var (pv 2)) da_nil)) (blkOk_by (N := N_p_pipes_at) (sc := defScope st_p_pipes_at) (by decide +kernel)) (fun _ _ _ _ _ => (dg_name (pg_name (i := 6) sc_p_pipes_at.nd rfl (Or.inl rfl)))) (fun _ _ _ _ _ => dts_nil) (fun _ _ _ _ _ => (de_lstL da_nil))) (lcUse (by decide) (.inl rfl)))
    (ds_cons (ds_for c.po c.calm (di_enum (by rfl) T.enumerate (da_cons (de_var (pv 0)) da_nil)) (dg_tup c.calm (dg_cons (dg_name (pg_name (i := 4) sc_p_pipes_at.nd rfl (Or.inl rfl))) (dg_cons (dg_name (pg_name (i := 5) sc_p_pipes_at.nd rfl (Or.inl rfl))) dg_nil))) (ds_one (ds_expr (de_meth PySem.F.slot_list_append PySem.F.type_list_append jm_append (de_ix (jo_ix c.u1) (de_var (pv 3)) (de_ix (jo_ix c.u1) (de_var (pv 5)) (de_var (pv 1)) (fun _ _ => rfl)) (fun _ _ => rfl)) (da_cons (de_var (pv 4)) da_nil)))))
    (ds_one (ds_ret (de_var (pv 3)))))))
abbrev st_p_most_counts : Stmt := topS 23
abbrev N_p_most_counts : List Str := ["pipes", "counts", "exits", "entries", "held", "done", "waiting", "box", "many", "place", "pipe", "_"]
theorem sc_p_most_counts : FnScope N_p_most_counts ["pipes", "counts"] (defScope st_p_most_counts) := ⟨rfl, rfl, rfl, by decide +kernel, rfl, by decide +kernel, by decide +kernel⟩
theorem ok_p_most_counts {f : Addr} {fd : FuncData} (F : Fun K "most_counts" "most_counts" st_p_most_counts f fd) (hm : mg "most_counts" = some (.ref f)) (b : Binds K fd ["pipes", "counts"] []) (T : Top K mg) (H_p_firings_in_a_row : Fok P wd ⟨K, mg⟩ base 1 "firings_in_a_row" 4 F_p_firings_in_a_row) (H_p_pipes_at : Fok P wd ⟨K, mg⟩ base 1 "pipes_at" 3 F_p_pipes_at) : Fok P wd ⟨K, mg⟩ base 2 "most_counts" 2 F_p_most_counts :=
  fok_of (N := N_p_most_counts) F sc_p_most_counts hm b (fun cdv A outer s H E c =>
    (ds_cons (ds_set (fun te h => ps_set (i := 2) sc_p_most_counts.nd rfl (Or.inl rfl) h) (de_call H_p_pipes_at (by decide) c.hr c.tk (by rfl) (by rfl) (da_cons (de_var (pv 0)) (da_cons de_int (da_cons (de_callB jc_len (by rfl) T.len (by decide +kernel) (da_cons (de_var (pv 1)) da_nil)) da_nil))) (hlen := (alen_cons (alen_cons (alen_cons alen_nil))))))
    (ds_cons (ds_set (fun te h => ps_set (i := 3) sc_p_most_counts.nd rfl (Or.inl rfl) h) (de_call H_p_pipes_at (by decide) c.hr c.tk (by rfl) (by rfl) (da_cons (de_var (pv 0)) (da_cons de_int (da_cons (de_callB jc_len (by rfl) T.len (by decide +kernel) (da_cons (de_var (pv 1)) da_nil)) da_nil))) (hlen := (alen_cons (alen_cons (alen_cons alen_nil))))))
    (ds_cons (ds_setT (ps_setLc (i := 4) (own := [("pipe", 10)]) c.calm sc_p_most_counts.nd rfl rfl (sw_true rfl rfl rfl (by decide +kernel)) (di_seq (de_var (pv 0))) (blkOk_by (N := N_p_most_counts) (sc := defScope st_p_most_counts) (by decide +kernel)) (fun _ _ _ _ _ => (dg_name (pg_name (i := 10) sc_p_most_counts.nd rfl (Or.inl rfl)))) (fun _ _ _ _ _ => dts_nil) (fun _ _ _ _ _ => (de_ix (jo_ix (c.blk _ _ _ _ _).u1) (de_var (pv 10)) de_int (fun _ _ => rfl)))) (lcUse (by decide) (.inr rfl)))
    (ds_cons (ds_setT (ps_setLc (i := 5) (own := [("_", 11)]) c.calm sc_p_most_counts.nd rfl rfl (sw_true rfl rfl rfl (by decide +kernel)) (di_seq (de_var (pv 1))) (blkOk_by (N := N_p_most_counts) (sc := defScope st_p_most_counts) (by decide +kernel)) (fun _ _ _ _ _ => (dg_name (pg_name (i := 11) sc_p_most_counts.nd rfl (Or.inl rfl)))) (fun _ _ _ _ _ => dts_nil) (fun _ _ _ _ _ => de_int)) (lcUse (by decide) (.inr rfl)))
    (ds_cons (ds_set (fun te h => ps_set (i := 6) sc_p_most_counts.nd rfl (Or.inl rfl) h) (de_lstRgL c.calm (by rfl) T.list (by rfl) T.range (de_callB jc_len (by rfl) T.len (by decide +kernel) (da_cons (de_var (pv 1)) da_nil))))
    (ds_cons (ds_while c.po (dt_truth (de_var (pv 6))) (ds_cons (ds_set (fun te h => ps_set (i := 7) sc_p_most_counts.nd rfl (Or.inl rfl) h) (de_meth0 PySem.F.slot_list_pop PySem.F.type_list_pop jm_pop (de_var (pv 6))))
    (ds_cons (ds_set (fun te h => ps_set (i := 8) sc_p_most_counts.nd rfl (Or.inl rfl) h) (de_call H_p_firings_in_a_row (by decide) c.hr c.tk (by rfl) (by rfl) (da_cons (de_var (pv 0)) (da_cons (de_var (pv 4)) (da_cons (de_ix (jo_ix c.u1) (de_var (pv 3)) (de_var (pv 7)) (fun _ _ => rfl)) (da_cons (de_op jo_sub (de_ix (jo_ix c.u1) (de_var (pv 1)) (de_var (pv 7)) (fun _ _ => rfl)) (de_ix (jo_ix c.u1) (de_var (pv 5)) (de_var (pv 7)) (fun _ _ => rfl))) da_nil)))) (hlen := (alen_cons (alen_cons (alen_cons (alen_cons alen_nil)))))))
    (ds_cons (ds_if (dt_cmp (jo_eq c.u64) (de_var (pv 8)) de_int (nomark _)) (ds_one ds_continue) ds_nil)
    (ds_cons (ds_putAug (de_var (pv 5)) (de_var (pv 7)) (de_var (pv 8)) ji_add c.u1)
    (ds_cons (ds_for c.po c.calm (di_seq (de_ix (jo_ix c.u1) (de_var (pv 3)) (de_var (pv 7)) (fun _ _ => rfl))) (dg_name (pg_name (i := 9) sc_p_most_counts.nd rfl (Or.inl rfl))) (ds_one (ds_putAug (de_var (pv 4)) (de_var (pv 9)) (de_op jo_mul (de_var (pv 8)) (de_ix (jo_ix c.u1) (de_ix (jo_ix c.u1) (de_var (pv 0)) (de_var (pv 9)) (fun _ _ => rfl)) de_int (fun _ _ => rfl))) ji_sub c.u1)))
    (ds_one (ds_for c.po c.calm (di_seq (de_ix (jo_ix c.u1) (de_var (pv 2)) (de_var (pv 7)) (fun _ _ => rfl))) (dg_name (pg_name (i := 9) sc_p_most_counts.nd rfl (Or.inl rfl))) (ds_cons (ds_putAug (de_var (pv 4)) (de_var (pv 9)) (de_op jo_mul (de_var (pv 8)) (de_ix (jo_ix c.u1) (de_ix (jo_ix c.u1) (de_var (pv 0)) (de_var (pv 9)) (fun _ _ => rfl)) de_int (fun _ _ => rfl))) ji_add c.u1)
    (ds_one (ds_expr (de_meth PySem.F.slot_list_append PySem.F.type_list_append jm_append (de_var (pv 6)) (da_cons (de_ix (jo_ix c.u1) (de_ix (jo_ix c.u1) (de_var (pv 0)) (de_var (pv 9)) (fun _ _ => rfl)) de_int (fun _ _ => rfl)) da_nil)))))))))))))
    (ds_one (ds_ret (de_callTy jc_tuple (by rfl) T.tuple (by decide +kernel) (da_cons (de_var (pv 5)) da_nil)))))))))))
abbrev st_p_most_done : Stmt := topS 31
abbrev N_p_most_done : List Str := ["flow", "counts"]
theorem sc_p_most_done : FnScope N_p_most_done ["flow", "counts"] (defScope st_p_most_done) := ⟨rfl, rfl, rfl, by decide +kernel, rfl, by decide +kernel, by decide +kernel⟩
theorem ok_p_most_done {f : Addr} {fd : FuncData} (F : Fun K "most_done" "most_done" st_p_most_done f fd) (hm : mg "most_done" = some (.ref f)) (b : Binds K fd ["flow", "counts"] []) (T : Top K mg) (H_p_check_counts : Fok P wd ⟨K, mg⟩ base 3 "check_counts" 2 F_p_check_counts) (H_p_check_flow : Fok P wd ⟨K, mg⟩ base 5 "check_flow" 1 F_p_check_flow) (H_p_most_counts : Fok P wd ⟨K, mg⟩ base 2 "most_counts" 2 F_p_most_counts) : Fok P wd ⟨K, mg⟩ base 6 "most_done" 2 F_p_most_done :=
  fok_of (N := N_p_most_done) F sc_p_most_done hm b (fun cdv A outer s H E c =>
    (ds_cons (ds_expr (de_call H_p_check_flow (by decide) c.hr c.tk (by rfl) (by rfl) (da_cons (de_var (pv 0)) da_nil) (hlen := (alen_cons alen_nil))))
    (ds_cons (ds_expr (de_call H_p_check_counts (by decide) c.hr c.tk (by rfl) (by rfl) (da_cons (de_var (pv 0)) (da_cons (de_var (pv 1)) da_nil)) (hlen := (alen_cons (alen_cons alen_nil)))))
    (ds_one (ds_ret (de_call H_p_most_counts (by decide) c.hr c.tk (by rfl) (by rfl) (da_cons (de_ix (jo_ix c.u1) (de_var (pv 0)) de_int (fun _ _ => rfl)) (da_cons (de_var (pv 1)) da_nil)) (hlen := (alen_cons (alen_cons alen_nil)))))))))
abbrev st_p_can_do : Stmt := topS 30
abbrev N_p_can_do : List Str := ["flow", "counts"]
theorem sc_p_can_do : FnScope N_p_can_do ["flow", "counts"] (defScope st_p_can_do) := ⟨rfl, rfl, rfl, by decide +kernel, rfl, by decide +kernel, by decide +kernel⟩
theorem ok_p_can_do {f : Addr} {fd : FuncData} (F : Fun K "can_do" "can_do" st_p_can_do f fd) (hm : mg "can_do" = some (.ref f)) (b : Binds K fd ["flow", "counts"] []) (T : Top K mg) (H_p_most_done : Fok P wd ⟨K, mg⟩ base 6 "most_done" 2 F_p_most_done) : Fok P wd ⟨K, mg⟩ base 7 "can_do" 2 F_p_can_do :=
  fok_of (N := N_p_can_do) F sc_p_can_do hm b (fun cdv A outer s H E c =>
    (ds_one (ds_ret (de_cmp (jo_eq c.u64) (de_call H_p_most_done (by decide) c.hr c.tk (by rfl) (by rfl) (da_cons (de_var (pv 0)) (da_cons (de_var (pv 1)) da_nil)) (hlen := (alen_cons (alen_cons alen_nil)))) (de_var (pv 1)) (nomark _)))))
abbrev st_p_multiplied : Stmt := topS 27
abbrev N_p_multiplied : List Str := ["numbers", "whole", "number"]
theorem sc_p_multiplied : FnScope N_p_multiplied ["numbers"] (defScope st_p_multiplied) := ⟨rfl, rfl, rfl, by decide +kernel, rfl, by decide +kernel, by decide +kernel⟩
theorem ok_p_multiplied {f : Addr} {fd : FuncData} (F : Fun K "multiplied" "multiplied" st_p_multiplied f fd) (hm : mg "multiplied" = some (.ref f)) (b : Binds K fd ["numbers"] []) (T : Top K mg)  : Fok P wd ⟨K, mg⟩ base 1 "multiplied" 1 F_p_multiplied :=
  fok_of (N := N_p_multiplied) F sc_p_multiplied hm b (fun cdv A outer s H E c =>
    (ds_cons (ds_set (fun te h => ps_set (i := 1) sc_p_multiplied.nd rfl (Or.inl rfl) h) de_int)
    (ds_cons (ds_for c.po c.calm (di_seq (de_var (pv 0))) (dg_name (pg_name (i := 2) sc_p_multiplied.nd rfl (Or.inl rfl))) (ds_one (ds_aug (i := 1) sc_p_multiplied.nd rfl (Or.inl rfl) (de_var (pv 2)) ji_mul (.inl rfl))))
    (ds_one (ds_ret (de_var (pv 1)))))))
abbrev st_p_left_on : Stmt := topS 22
abbrev N_p_left_on : List Str := ["pipes", "counts", "one", "other", "give", "eat", "start"]
theorem sc_p_left_on : FnScope N_p_left_on ["pipes", "counts"] (defScope st_p_left_on) := ⟨rfl, rfl, rfl, by decide +kernel, rfl, by decide +kernel, by decide +kernel⟩
theorem ok_p_left_on {f : Addr} {fd : FuncData} (F : Fun K "left_on" "left_on" st_p_left_on f fd) (hm : mg "left_on" = some (.ref f)) (b : Binds K fd ["pipes", "counts"] []) (T : Top K mg)  : Fok P wd ⟨K, mg⟩ base 1 "left_on" 2 F_p_left_on :=
  fok_of (N := N_p_left_on) F sc_p_left_on hm b (fun cdv A outer s H E c =>
    (ds_one (ds_ret (de_callTy jc_tuple (by rfl) T.tuple (by decide +kernel) (da_cons (de_lc (own := [("one", 2), ("other", 3), ("give", 4), ("eat", 5), ("start", 6)]) (by decide) (.inl rfl) (pe_lc (own := [("one", 2), ("other", 3), ("give", 4), ("eat", 5), ("start", 6)]) c.calm sc_p_left_on.nd (di_seq (de_var (pv 0))) (blkOk_by (N := N_p_left_on) (sc := defScope st_p_left_on) (by decide +kernel)) (fun _ _ _ _ _ => (dg_tup (c.blk _ _ _ _ _).calm (dg_cons (dg_name (pg_name (i := 2) sc_p_left_on.nd rfl (Or.inl rfl))) (dg_cons (dg_name (pg_name (i := 3) sc_p_left_on.nd rfl (Or.inl rfl))) (dg_cons (dg_name (pg_name (i := 4) sc_p_left_on.nd rfl (Or.inl rfl))) (dg_cons (dg_name (pg_name (i := 5) sc_p_left_on.nd rfl (Or.inl rfl))) (dg_cons (dg_name (pg_name (i := 6) sc_p_left_on.nd rfl (Or.inl rfl))) dg_nil))))))) (fun _ _ _ _ _ => dts_nil) (fun _ _ _ _ _ => (de_op jo_sub (de_op jo_add (de_var (pv 6)) (de_op jo_mul (de_var (pv 4)) (de_ix (jo_ix (c.blk _ _ _ _ _).u1) (de_var (pv 1)) (de_var (pv 2)) (fun _ _ => rfl)))) (de_op jo_mul (de_var (pv 5)) (de_ix (jo_ix (c.blk _ _ _ _ _).u1) (de_var (pv 1)) (de_var (pv 3)) (fun _ _ => rfl))))))) da_nil)))))
abbrev st_p_short_pipes : Stmt := topS 19
abbrev N_p_short_pipes : List Str := ["pipes", "held", "box", "place", "pipe"]
theorem sc_p_short_pipes : FnScope N_p_short_pipes ["pipes", "held", "box"] (defScope st_p_short_pipes) := ⟨rfl, rfl, rfl, by decide +kernel, rfl, by decide +kernel, by decide +kernel⟩
theorem ok_p_short_pipes {f : Addr} {fd : FuncData} (F : Fun K "short_pipes" "short_pipes" st_p_short_pipes f fd) (hm : mg "short_pipes" = some (.ref f)) (b : Binds K fd ["pipes", "held", "box"] []) (T : Top K mg)  : Fok P wd ⟨K, mg⟩ base 1 "short_pipes" 3 F_p_short_pipes :=
  fok_of (N := N_p_short_pipes) F sc_p_short_pipes hm b (fun cdv A outer s H E c =>
    (ds_one (ds_ret (de_lc (own := [("place", 3), ("pipe", 4)]) (by decide) (.inl rfl) (pe_lc (own := [("place", 3), ("pipe", 4)]) c.calm sc_p_short_pipes.nd (di_enum (by rfl) T.enumerate (da_cons (de_var (pv 0)) da_nil)) (blkOk_by (N := N_p_short_pipes) (sc := defScope st_p_short_pipes) (by decide +kernel)) (fun _ _ _ _ _ => (dg_tup (c.blk _ _ _ _ _).calm (dg_cons (dg_name (pg_name (i := 3) sc_p_short_pipes.nd rfl (Or.inl rfl))) (dg_cons (dg_name (pg_name (i := 4) sc_p_short_pipes.nd rfl (Or.inl rfl))) dg_nil)))) (fun _ _ _ _ _ => (dts_one (PW.pt (dw_and (dt_cmp (jo_eq (c.blk _ _ _ _ _).u64) (de_ix (jo_ix (c.blk _ _ _ _ _).u1) (de_var (pv 4)) de_int (fun _ _ => rfl)) (de_var (pv 2)) (nomark _)) (dw_and1 (dt_cmp jo_lt (de_ix (jo_ix (c.blk _ _ _ _ _).u1) (de_var (pv 1)) (de_var (pv 3)) (fun _ _ => rfl)) (de_ix (jo_ix (c.blk _ _ _ _ _).u1) (de_var (pv 4)) de_int (fun _ _ => rfl)) (nomark _))))))) (fun _ _ _ _ _ => (de_var (pv 3))))))))
abbrev st_p_one_firing_on : Stmt := topS 34
abbrev N_p_one_firing_on : List Str := ["pipes", "counts", "numbers", "longer", "done", "number", "held", "box", "many", "more"]
theorem sc_p_one_firing_on : FnScope N_p_one_firing_on ["pipes", "counts", "numbers"] (defScope st_p_one_firing_on) := ⟨rfl, rfl, rfl, by decide +kernel, rfl, by decide +kernel, by decide +kernel⟩
theorem ok_p_one_firing_on {f : Addr} {fd : FuncData} (F : Fun K "one_firing_on" "one_firing_on" st_p_one_firing_on f fd) (hm : mg "one_firing_on" = some (.ref f)) (b : Binds K fd ["pipes", "counts", "numbers"] []) (T : Top K mg) (H_p_left_on : Fok P wd ⟨K, mg⟩ base 1 "left_on" 2 F_p_left_on) (H_p_short_pipes : Fok P wd ⟨K, mg⟩ base 1 "short_pipes" 3 F_p_short_pipes) : Fok P wd ⟨K, mg⟩ base 2 "one_firing_on" 3 F_p_one_firing_on :=
  fok_of (N := N_p_one_firing_on) F sc_p_one_firing_on hm b (fun cdv A outer s H E c =>
    (ds_cons (ds_set (fun te h => ps_set (i := 3) sc_p_one_firing_on.nd rfl (Or.inl rfl) h) de_dctTL)
    (ds_cons (ds_for c.po c.calm (di_itemsT (de_var (pv 2))) (dg_tup c.calm (dg_cons (dg_name (pg_name (i := 4) sc_p_one_firing_on.nd rfl (Or.inl rfl))) (dg_cons (dg_name (pg_name (i := 5) sc_p_one_firing_on.nd rfl (Or.inl rfl))) dg_nil))) (ds_cons (ds_set (fun te h => ps_set (i := 6) sc_p_one_firing_on.nd rfl (Or.inl rfl) h) (de_call H_p_left_on (by decide) c.hr c.tk (by rfl) (by rfl) (da_cons (de_var (pv 0)) (da_cons (de_var (pv 4)) da_nil)) (hlen := (alen_cons (alen_cons alen_nil)))))
    (ds_one (ds_for c.po c.calm (di_enum (by rfl) T.enumerate (da_cons (de_var (pv 4)) da_nil)) (dg_tup c.calm (dg_cons (dg_name (pg_name (i := 7) sc_p_one_firing_on.nd rfl (Or.inl rfl))) (dg_cons (dg_name (pg_name (i := 8) sc_p_one_firing_on.nd rfl (Or.inl rfl))) dg_nil))) (ds_cons (ds_if (PW.pt (dw_or (dt_cmp (jo_eq c.u64) (de_var (pv 8)) (de_ix (jo_ix c.u1) (de_var (pv 1)) (de_var (pv 7)) (fun _ _ => rfl)) (nomark _)) (dw_or1 (dt_truth (de_call H_p_short_pipes (by decide) c.hr c.tk (by rfl) (by rfl) (da_cons (de_var (pv 0)) (da_cons (de_var (pv 6)) (da_cons (de_var (pv 7)) da_nil))) (hlen := (alen_cons (alen_cons (alen_cons alen_nil))))))))) (ds_one ds_continue) ds_nil)
    (ds_cons (ds_set (fun te h => ps_set (i := 9) sc_p_one_firing_on.nd rfl (Or.inl rfl) h) (de_op jo_add (de_op jo_add (de_slice (de_var (pv 4)) dp_none (dp_some (de_var (pv 7)))) (de_tup (da_cons (de_op jo_add (de_var (pv 8)) de_int) da_nil))) (de_slice (de_var (pv 4)) (dp_some (de_op jo_add (de_var (pv 7)) de_int)) dp_none)))
    (ds_one (ds_put (de_var (pv 3)) (de_var (pv 9)) (de_op jo_add (de_get2T c.u1 (de_var (pv 3)) (de_var (pv 9)) de_int) (de_var (pv 5))) c.u1))))))))
    (ds_one (ds_ret (de_var (pv 3)))))))
abbrev st_p_ways : Stmt := topS 33
abbrev N_p_ways : List Str := ["flow", "counts", "numbers", "_", "many"]
theorem sc_p_ways : FnScope N_p_ways ["flow", "counts"] (defScope st_p_ways) := ⟨rfl, rfl, rfl, by decide +kernel, rfl, by decide +kernel, by decide +kernel⟩
theorem ok_p_ways {f : Addr} {fd : FuncData} (F : Fun K "ways" "ways" st_p_ways f fd) (hm : mg "ways" = some (.ref f)) (b : Binds K fd ["flow", "counts"] []) (T : Top K mg) (H_p_check_counts : Fok P wd ⟨K, mg⟩ base 3 "check_counts" 2 F_p_check_counts) (H_p_check_flow : Fok P wd ⟨K, mg⟩ base 5 "check_flow" 1 F_p_check_flow) (H_p_multiplied : Fok P wd ⟨K, mg⟩ base 1 "multiplied" 1 F_p_multiplied) (H_p_one_firing_on : Fok P wd ⟨K, mg⟩ base 2 "one_firing_on" 3 F_p_one_firing_on) : Fok P wd ⟨K, mg⟩ base 6 "ways" 2 F_p_ways :=
  fok_of (N := N_p_ways) F sc_p_ways hm b (fun cdv A outer s H E c =>
    (ds_cons (ds_expr (de_call H_p_check_flow (by decide) c.hr c.tk (by rfl) (by rfl) (da_cons (de_var (pv 0)) da_nil) (hlen := (alen_cons alen_nil))))
    (ds_cons (ds_expr (de_call H_p_check_counts (by decide) c.hr c.tk (by rfl) (by rfl) (da_cons (de_var (pv 0)) (da_cons (de_var (pv 1)) da_nil)) (hlen := (alen_cons (alen_cons alen_nil)))))
    (ds_cons (ds_if (dt_cmp jo_gt (de_call H_p_multiplied (by decide) c.hr c.tk (by rfl) (by rfl) (da_cons (de_lc (own := [("many", 4)]) (by decide) (.inl rfl) (pe_lc (own := [("many", 4)]) c.calm sc_p_ways.nd (di_seq (de_var (pv 1))) (blkOk_by (N := N_p_ways) (sc := defScope st_p_ways) (by decide +kernel)) (fun _ _ _ _ _ => (dg_name (pg_name (i := 4) sc_p_ways.nd rfl (Or.inl rfl)))) (fun _ _ _ _ _ => dts_nil) (fun _ _ _ _ _ => (de_op jo_add (de_var (pv 4)) de_int)))) da_nil) (hlen := (alen_cons alen_nil))) (de_c (pe_glob (v := .int 3000) (by rfl) T.c_MOST_STATES.choose_spec ⟨_, rfl⟩) fun _ => rfl) (nomark _)) (ds_one ds_never) ds_nil)
    (ds_cons (ds_set (fun te h => ps_set (i := 2) sc_p_ways.nd rfl (Or.inl rfl) h) (de_dispT c.u1 (de_callTy jc_tuple (by rfl) T.tuple (by decide +kernel) (da_cons (de_lc (own := [("_", 3)]) (by decide) (.inl rfl) (pe_lc (own := [("_", 3)]) c.calm sc_p_ways.nd (di_seq (de_var (pv 1))) (blkOk_by (N := N_p_ways) (sc := defScope st_p_ways) (by decide +kernel)) (fun _ _ _ _ _ => (dg_name (pg_name (i := 3) sc_p_ways.nd rfl (Or.inl rfl)))) (fun _ _ _ _ _ => dts_nil) (fun _ _ _ _ _ => de_int))) da_nil)) de_int))
    (ds_cons (ds_for c.po c.calm (di_rng1 (by rfl) T.range (da_cons (de_callB (jc_sum c.calm) (by rfl) T.sum (by decide +kernel) (da_cons (de_var (pv 1)) da_nil)) da_nil)) (dg_name (pg_name (i := 3) sc_p_ways.nd rfl (Or.inl rfl))) (ds_one (ds_set (fun te h => ps_set (i := 2) sc_p_ways.nd rfl (Or.inl rfl) h) (de_call H_p_one_firing_on (by decide) c.hr c.tk (by rfl) (by rfl) (da_cons (de_ix (jo_ix c.u1) (de_var (pv 0)) de_int (fun _ _ => rfl)) (da_cons (de_var (pv 1)) (da_cons (de_var (pv 2)) da_nil))) (hlen := (alen_cons (alen_cons (alen_cons alen_nil))))))))
    (ds_one (ds_ret (de_get2T c.u1 (de_var (pv 2)) (de_var (pv 1)) de_int)))))))))
abbrev st_p_held_behind : Stmt := topS 20
abbrev N_p_held_behind : List Str := ["pipes", "held", "box", "behind", "place", "one", "other", "give", "eat", "_"]
theorem sc_p_held_behind : FnScope N_p_held_behind ["pipes", "held", "box"] (defScope st_p_held_behind) := ⟨rfl, rfl, rfl, by decide +kernel, rfl, by decide +kernel, by decide +kernel⟩
theorem ok_p_held_behind {f : Addr} {fd : FuncData} (F : Fun K "held_behind" "held_behind" st_p_held_behind f fd) (hm : mg "held_behind" = some (.ref f)) (b : Binds K fd ["pipes", "held", "box"] []) (T : Top K mg)  : Fok P wd ⟨K, mg⟩ base 1 "held_behind" 3 F_p_held_behind :=
  fok_of (N := N_p_held_behind) F sc_p_held_behind hm b (fun cdv A outer s H E c =>
    (ds_cons (ds_set (fun te h => ps_set (i := 3) sc_p_held_behind.nd rfl (Or.inl rfl) h) (de_callTy jc_listL (by rfl) T.list (by decide +kernel) (da_cons (de_var (pv 1)) da_nil)))
    (ds_cons (ds_for c.po c.calm (di_enum (by rfl) T.enumerate (da_cons (de_var (pv 0)) da_nil)) (dg_tup c.calm (dg_cons (dg_name (pg_name (i := 4) sc_p_held_behind.nd rfl (Or.inl rfl))) (dg_cons (dg_tup c.calm (dg_cons (dg_name (pg_name (i := 5) sc_p_held_behind.nd rfl (Or.inl rfl))) (dg_cons (dg_name (pg_name (i := 6) sc_p_held_behind.nd rfl (Or.inl rfl))) (dg_cons (dg_name (pg_name (i := 7) sc_p_held_behind.nd rfl (Or.inl rfl))) (dg_cons (dg_name (pg_name (i := 8) sc_p_held_behind.nd rfl (Or.inl rfl))) (dg_cons (dg_name (pg_name (i := 9) sc_p_held_behind.nd rfl (Or.inl rfl))) dg_nil)))))) dg_nil))) (ds_cons (ds_if (dt_cmp (jo_eq c.u64) (de_var (pv 6)) (de_var (pv 2)) (nomark _)) (ds_one (ds_putAug (de_var (pv 3)) (de_var (pv 4)) (de_var (pv 8)) ji_sub c.u1)) ds_nil)
    (ds_one (ds_if (dt_cmp (jo_eq c.u64) (de_var (pv 5)) (de_var (pv 2)) (nomark _)) (ds_one (ds_putAug (de_var (pv 3)) (de_var (pv 4)) (de_var (pv 7)) ji_add c.u1)) ds_nil))))
    (ds_one (ds_ret (de_callTy jc_tuple (by rfl) T.tuple (by decide +kernel) (da_cons (de_var (pv 3)) da_nil)))))))
abbrev st_p_least_word : Stmt := topS 26
abbrev N_p_least_word : List Str := ["pipes", "counts", "held", "left", "word", "box", "pipe", "many"]
theorem sc_p_least_word : FnScope N_p_least_word ["pipes", "counts"] (defScope st_p_least_word) := ⟨rfl, rfl, rfl, by decide +kernel, rfl, by decide +kernel, by decide +kernel⟩
theorem ok_p_least_word {f : Addr} {fd : FuncData} (F : Fun K "least_word" "least_word" st_p_least_word f fd) (hm : mg "least_word" = some (.ref f)) (b : Binds K fd ["pipes", "counts"] []) (T : Top K mg) (H_p_held_behind : Fok P wd ⟨K, mg⟩ base 1 "held_behind" 3 F_p_held_behind) (H_p_most_counts : Fok P wd ⟨K, mg⟩ base 2 "most_counts" 2 F_p_most_counts) (H_p_short_pipes : Fok P wd ⟨K, mg⟩ base 1 "short_pipes" 3 F_p_short_pipes) : Fok P wd ⟨K, mg⟩ base 3 "least_word" 2 F_p_least_word :=
  fok_of (N := N_p_least_word) F sc_p_least_word hm b (fun cdv A outer s H E c =>
    (ds_cons (ds_if (dt_cmp (jo_ne c.u64) (de_call H_p_most_counts (by decide) c.hr c.tk (by rfl) (by rfl) (da_cons (de_var (pv 0)) (da_cons (de_var (pv 1)) da_nil)) (hlen := (alen_cons (alen_cons alen_nil)))) (de_var (pv 1)) (nomark _)) (ds_one (ds_ret de_non)) ds_nil)
    (ds_cons (ds_set (fun te h => ps_set (i := 2) sc_p_least_word.nd rfl (Or.inr rfl) h) (de_callTy jc_tuple (by rfl) T.tuple (by decide +kernel) (da_cons (de_lc (own := [("pipe", 6)]) (by decide) (.inl rfl) (pe_lc (own := [("pipe", 6)]) c.calm sc_p_least_word.nd (di_seq (de_var (pv 0))) (blkOk_by (N := N_p_least_word) (sc := defScope st_p_least_word) (by decide +kernel)) (fun _ _ _ _ _ => (dg_name (pg_name (i := 6) sc_p_least_word.nd rfl (Or.inl rfl)))) (fun _ _ _ _ _ => dts_nil) (fun _ _ _ _ _ => (de_ix (jo_ix (c.blk _ _ _ _ _).u1) (de_var (pv 6)) de_int (fun _ _ => rfl))))) da_nil)))
    (ds_cons (ds_set (fun te h => ps_set (i := 3) sc_p_least_word.nd rfl (Or.inl rfl) h) (de_callTy jc_listL (by rfl) T.list (by decide +kernel) (da_cons (de_var (pv 1)) da_nil)))
    (ds_cons (ds_set (fun te h => ps_set (i := 4) sc_p_least_word.nd rfl (Or.inl rfl) h) (de_lstL da_nil))
    (ds_cons (ds_while c.po (dt_truth (de_callB (jc_any c.calm) (by rfl) T.any (by decide +kernel) (da_cons (de_var (pv 3)) da_nil))) (ds_cons (ds_set (fun te h => ps_set (i := 5) sc_p_least_word.nd rfl (Or.inl rfl) h) (de_callB (jc_min1 c.calm c.u1) (by rfl) T.min (by decide +kernel) (da_cons (de_lc (own := [("box", 5), ("many", 7)]) (by decide) (.inl rfl) (pe_lc (own := [("box", 5), ("many", 7)]) c.calm sc_p_least_word.nd (di_enum (by rfl) T.enumerate (da_cons (de_var (pv 3)) da_nil)) (blkOk_by (N := N_p_least_word) (sc := defScope st_p_least_word) (by decide +kernel)) (fun _ _ _ _ _ => (dg_tup (c.blk _ _ _ _ _).calm (dg_cons (dg_name (pg_name (i := 5) sc_p_least_word.nd rfl (Or.inl rfl))) (dg_cons (dg_name (pg_name (i := 7) sc_p_least_word.nd rfl (Or.inl rfl))) dg_nil)))) (fun _ _ _ _ _ => (dts_one (PW.pt (dw_and (dt_truth (de_var (pv 7))) (dw_and1 (dt_not (dt_truth (de_call H_p_short_pipes (by decide) (c.blk _ _ _ _ _).hr (c.blk _ _ _ _ _).tk (by rfl) (by rfl) (da_cons (de_var (pv 0)) (da_cons (de_var (pv 2)) (da_cons (de_var (pv 5)) da_nil))) (hlen := (alen_cons (alen_cons (alen_cons alen_nil)))))))))))) (fun _ _ _ _ _ => (de_var (pv 5))))) da_nil)))
    (ds_cons (ds_putAug (de_var (pv 3)) (de_var (pv 5)) de_int ji_sub c.u1)
    (ds_cons (ds_expr (de_meth PySem.F.slot_list_append PySem.F.type_list_append jm_append (de_var (pv 4)) (da_cons (de_var (pv 5)) da_nil)))
    (ds_one (ds_set (fun te h => ps_set (i := 2) sc_p_least_word.nd rfl (Or.inr rfl) h) (de_call H_p_held_behind (by decide) c.hr c.tk (by rfl) (by rfl) (da_cons (de_var (pv 0)) (da_cons (de_var (pv 2)) (da_cons (de_var (pv 5)) da_nil))) (hlen := (alen_cons (alen_cons (alen_cons alen_nil)))))))))))
    (ds_one (ds_ret (de_callTy jc_tuple (by rfl) T.tuple (by decide +kernel) (da_cons (de_var (pv 4)) da_nil))))))))))
abbrev st_p_word_for : Stmt := topS 32
abbrev N_p_word_for : List Str := ["flow", "counts"]
theorem sc_p_word_for : FnScope N_p_word_for ["flow", "counts"] (defScope st_p_word_for) := ⟨rfl, rfl, rfl, by decide +kernel, rfl, by decide +kernel, by decide +kernel⟩
theorem ok_p_word_for {f : Addr} {fd : FuncData} (F : Fun K "word_for" "word_for" st_p_word_for f fd) (hm : mg "word_for" = some (.ref f)) (b : Binds K fd ["flow", "counts"] []) (T : Top K mg) (H_p_check_counts : Fok P wd ⟨K, mg⟩ base 3 "check_counts" 2 F_p_check_counts) (H_p_check_flow : Fok P wd ⟨K, mg⟩ base 5 "check_flow" 1 F_p_check_flow) (H_p_least_word : Fok P wd ⟨K, mg⟩ base 3 "least_word" 2 F_p_least_word) : Fok P wd ⟨K, mg⟩ base 6 "word_for" 2 F_p_word_for :=
  fok_of (N := N_p_word_for) F sc_p_word_for hm b (fun cdv A outer s H E c =>
    (ds_cons (ds_expr (de_call H_p_check_flow (by decide) c.hr c.tk (by rfl) (by rfl) (da_cons (de_var (pv 0)) da_nil) (hlen := (alen_cons alen_nil))))
    (ds_cons (ds_expr (de_call H_p_check_counts (by decide) c.hr c.tk (by rfl) (by rfl) (da_cons (de_var (pv 0)) (da_cons (de_var (pv 1)) da_nil)) (hlen := (alen_cons (alen_cons alen_nil)))))
    (ds_one (ds_ret (de_call H_p_least_word (by decide) c.hr c.tk (by rfl) (by rfl) (da_cons (de_ix (jo_ix c.u1) (de_var (pv 0)) de_int (fun _ _ => rfl)) (da_cons (de_var (pv 1)) da_nil)) (hlen := (alen_cons (alen_cons alen_nil)))))))))
abbrev st_p_law : Stmt := topS 53
abbrev N_p_law : List Str := ["script", "row", "flow", "counts", "words"]
theorem sc_p_law : FnScope N_p_law ["script"] (defScope st_p_law) := ⟨rfl, rfl, rfl, by decide +kernel, rfl, by decide +kernel, by decide +kernel⟩
theorem ok_p_law {f : Addr} {fd : FuncData} (F : Fun K "law" "law" st_p_law f fd) (T : Top K mg) (H_p_law_alike : Fok P wd ⟨K, mg⟩ base 9 "_law_alike" 2 (F_p_law_alike 8)) (H_p_law_any : Fok P wd ⟨K, mg⟩ base 2 "_law_any" 1 F_p_law_any) (H_p_law_counts : Fok P wd ⟨K, mg⟩ base 2 "_law_counts" 3 F_p_law_counts) (H_p_law_live : Fok P wd ⟨K, mg⟩ base 4 "_law_live" 3 F_p_law_live) (H_p_law_pick : Fok P wd ⟨K, mg⟩ base 2 "_law_pick" 2 F_p_law_pick) (H_p_law_words : Fok P wd ⟨K, mg⟩ base 2 "_law_words" 3 F_p_law_words) (H_p_can_do : Fok P wd ⟨K, mg⟩ base 7 "can_do" 2 F_p_can_do) (H_p_ways : Fok P wd ⟨K, mg⟩ base 6 "ways" 2 F_p_ways) (H_p_word_for : Fok P wd ⟨K, mg⟩ base 6 "word_for" 2 F_p_word_for) : FnOk P wd K mg base (L2.CX P wd) 10 f fd ["script"] (spF ⟨K, mg⟩ 1 F_p_law) :=
  fn_ok (N := N_p_law) F sc_p_law (fun cdv A outer s H E c =>
    (ds_cons (ds_set (fun te h => ps_set (i := 1) sc_p_law.nd rfl (Or.inl rfl) h) (de_lstL (da_cons (de_var (pv 0)) (da_cons de_int (da_cons de_int (da_cons de_int da_nil))))))
    (ds_cons (ds_set (fun te h => ps_set (i := 2) sc_p_law.nd rfl (Or.inl rfl) h) (de_call H_p_law_pick (by decide) c.hr c.tk (by rfl) (by rfl) (da_cons (de_var (pv 1)) (da_cons (de_lst (da_cons (de_call H_p_law_any (by decide) c.hr c.tk (by rfl) (by rfl) (da_cons (de_var (pv 1)) da_nil) (hlen := (alen_cons alen_nil))) (da_cons (de_call H_p_law_live (by decide) c.hr c.tk (by rfl) (by rfl) (da_cons (de_var (pv 1)) (da_cons de_int (da_cons de_int da_nil))) (hlen := (alen_cons (alen_cons (alen_cons alen_nil))))) da_nil))) da_nil)) (hlen := (alen_cons (alen_cons alen_nil)))))
    (ds_cons (ds_set (fun te h => ps_set (i := 3) sc_p_law.nd rfl (Or.inl rfl) h) (de_call H_p_law_counts (by decide) c.hr c.tk (by rfl) (by rfl) (da_cons (de_var (pv 1)) (da_cons (de_var (pv 2)) (da_cons de_int da_nil))) (hlen := (alen_cons (alen_cons (alen_cons alen_nil))))))
    (ds_cons (ds_set (fun te h => ps_set (i := 4) sc_p_law.nd rfl (Or.inl rfl) h) (de_call H_p_law_words (by decide) c.hr c.tk (by rfl) (by rfl) (da_cons (de_var (pv 2)) (da_cons (de_var (pv 3)) (da_cons de_int da_nil))) (hlen := (alen_cons (alen_cons (alen_cons alen_nil))))))
    (ds_cons (ds_if (dt_isN (de_var (pv 4))) (ds_one (ds_ret (de_or (de_cmp jo_gt (de_call H_p_ways (by decide) c.hr c.tk (by rfl) (by rfl) (da_cons (de_var (pv 2)) (da_cons (de_var (pv 3)) da_nil)) (hlen := (alen_cons (alen_cons alen_nil)))) de_int (nomark _)) (de_one (de_not (de_call H_p_can_do (by decide) c.hr c.tk (by rfl) (by rfl) (da_cons (de_var (pv 2)) (da_cons (de_var (pv 3)) da_nil)) (hlen := (alen_cons (alen_cons alen_nil))))))))) ds_nil)
    (ds_cons (ds_if (dt_not (dt_truth (de_call H_p_law_alike (by decide) c.hr c.tk (by rfl) (by rfl) (da_cons (de_call H_p_ways (by decide) c.hr c.tk (by rfl) (by rfl) (da_cons (de_var (pv 2)) (da_cons (de_var (pv 3)) da_nil)) (hlen := (alen_cons (alen_cons alen_nil)))) (da_cons (de_callB jc_len (by rfl) T.len (by decide +kernel) (da_cons (de_var (pv 4)) da_nil)) da_nil)) (hlen := (alen_cons (alen_cons alen_nil)))))) (ds_one (ds_ret de_bl)) ds_nil)
    (ds_one (ds_ret (de_call H_p_law_alike (by decide) c.hr c.tk (by rfl) (by rfl) (da_cons (de_call H_p_word_for (by decide) c.hr c.tk (by rfl) (by rfl) (da_cons (de_var (pv 2)) (da_cons (de_var (pv 3)) da_nil)) (hlen := (alen_cons (alen_cons alen_nil)))) (da_cons (de_if (dt_cmp (jo_neU c.u64) (de_var (pv 4)) (de_lst da_nil) (nomark _)) (de_callB (jc_minU c.calm c.u64) (by rfl) T.min (by decide +kernel) (da_cons (de_var (pv 4)) da_nil)) de_non) da_nil)) (hlen := (alen_cons (alen_cons alen_nil)))))))))))))
end
end K11
set_option Elab.async false
set_option linter.all false
set_option maxRecDepth 100000
set_option maxHeartbeats 4000000
namespace K11
open PySem PySem.Spec PyProof.Rows L2 J
def spLaw (K : PySem.W.Frag) : Sp := fun vs H Q _ => ∃ (a : Addr) (ns : List Int), vs = [.ref a] ∧ SqL K H a (ns.map V.int) ∧ ns.length ≤ 63 ∧ ∀ H', Q (.bl true) H'
theorem ints_rd {g : G} {w : W} : ∀ ns : List Int, RDs g w (ns.map D.int) (ns.map V.int)
  | [] => rfl
  | n :: ns => RDs.cons (show RD g w (.int n) (.int n) from rfl) (ints_rd ns)
theorem law_sp {g : G} (ok : ∀ ns : List Int, ns.length ≤ 63 → ∃ S, F_p_law [.rdl (ns.map D.int)] [] = .ok (.bl true) S) : ∀ vs H Q E, spLaw g.K vs H Q E → spF g 1 F_p_law vs H Q E := fun vs H Q E ⟨a, ns, e, hS, hl, q⟩ => by
  obtain ⟨S, hF⟩ := ok ns hl
  refine ⟨⟨fun _ => False, [], H⟩, [.rdl (ns.map D.int)], [], rfl, ⟨List.nodup_nil, by simp, fun _ z => z.elim, fun _ z => z.elim⟩, ?_, ⟨rfl, by simp⟩, rfl, ?_⟩
  · subst e
    refine RDs.one ⟨a, _, rfl, ?_, ints_rd ns⟩
    exact hS.elim (fun h => .inl ⟨h, fun z => z⟩) .inr
  · rw [hF]
    intro v w' _ _ _ r _
    cases r
    exact q _

theorem all_mk {l : PySem.W.OpenLaw} {w : World} {K : PySem.W.Frag} {h : Heap} {mg : Str → Option Value} {fa : Addr} (X : K.In h) (G : h.Ns mainGlobals mg) (hfa : mg "law" = some (.ref fa))
    (ok : ∀ ns : List Int, ns.length ≤ 63 → ∃ S, F_p_law [.rdl (ns.map D.int)] [] = .ok (.bl true) S)
    {f0 : Addr} {od0 an0 : Option Addr} {sl0 : Array (Option Value)} {oc0 kV0 dc0 pm0 cd0 ct0 : Value}
    {f1 : Addr} {od1 an1 : Option Addr} {sl1 : Array (Option Value)} {oc1 kV1 dc1 pm1 cd1 ct1 : Value}
    {f2 : Addr} {od2 an2 : Option Addr} {sl2 : Array (Option Value)} {oc2 kV2 dc2 pm2 cd2 ct2 : Value}
    {f3 : Addr} {od3 an3 : Option Addr} {sl3 : Array (Option Value)} {oc3 kV3 dc3 pm3 cd3 ct3 : Value}
    {f4 : Addr} {od4 an4 : Option Addr} {sl4 : Array (Option Value)} {oc4 kV4 dc4 pm4 cd4 ct4 : Value}
    {f5 : Addr} {od5 an5 : Option Addr} {sl5 : Array (Option Value)} {oc5 kV5 dc5 pm5 cd5 ct5 : Value}
    {f6 : Addr} {od6 an6 : Option Addr} {sl6 : Array (Option Value)} {oc6 kV6 dc6 pm6 cd6 ct6 : Value}
    {f7 : Addr} {od7 an7 : Option Addr} {sl7 : Array (Option Value)} {oc7 kV7 dc7 pm7 cd7 ct7 : Value}
    {f8 : Addr} {od8 an8 : Option Addr} {sl8 : Array (Option Value)} {oc8 kV8 dc8 pm8 cd8 ct8 : Value}
    {f9 : Addr} {od9 an9 : Option Addr} {sl9 : Array (Option Value)} {oc9 kV9 dc9 pm9 cd9 ct9 : Value}
    {f10 : Addr} {od10 an10 : Option Addr} {sl10 : Array (Option Value)} {oc10 kV10 dc10 pm10 cd10 ct10 : Value}
    {f11 : Addr} {od11 an11 : Option Addr} {sl11 : Array (Option Value)} {oc11 kV11 dc11 pm11 cd11 ct11 : Value}
    {f12 : Addr} {od12 an12 : Option Addr} {sl12 : Array (Option Value)} {oc12 kV12 dc12 pm12 cd12 ct12 : Value}
    {f13 : Addr} {od13 an13 : Option Addr} {sl13 : Array (Option Value)} {oc13 kV13 dc13 pm13 cd13 ct13 : Value}
    {f14 : Addr} {od14 an14 : Option Addr} {sl14 : Array (Option Value)} {oc14 kV14 dc14 pm14 cd14 ct14 : Value}
    {f15 : Addr} {od15 an15 : Option Addr} {sl15 : Array (Option Value)} {oc15 kV15 dc15 pm15 cd15 ct15 : Value}
    {f16 : Addr} {od16 an16 : Option Addr} {sl16 : Array (Option Value)} {oc16 kV16 dc16 pm16 cd16 ct16 : Value}
    {f17 : Addr} {od17 an17 : Option Addr} {sl17 : Array (Option Value)} {oc17 kV17 dc17 pm17 cd17 ct17 : Value}
    {f18 : Addr} {od18 an18 : Option Addr} {sl18 : Array (Option Value)} {oc18 kV18 dc18 pm18 cd18 ct18 : Value}
    {f19 : Addr} {od19 an19 : Option Addr} {sl19 : Array (Option Value)} {oc19 kV19 dc19 pm19 cd19 ct19 : Value}
    {f20 : Addr} {od20 an20 : Option Addr} {sl20 : Array (Option Value)} {oc20 kV20 dc20 pm20 cd20 ct20 : Value}
    {f21 : Addr} {od21 an21 : Option Addr} {sl21 : Array (Option Value)} {oc21 kV21 dc21 pm21 cd21 ct21 : Value}
    {f22 : Addr} {od22 an22 : Option Addr} {sl22 : Array (Option Value)} {oc22 kV22 dc22 pm22 cd22 ct22 : Value}
    {f23 : Addr} {od23 an23 : Option Addr} {sl23 : Array (Option Value)} {oc23 kV23 dc23 pm23 cd23 ct23 : Value}
    {f24 : Addr} {od24 an24 : Option Addr} {sl24 : Array (Option Value)} {oc24 kV24 dc24 pm24 cd24 ct24 : Value}
    {f25 : Addr} {od25 an25 : Option Addr} {sl25 : Array (Option Value)} {oc25 kV25 dc25 pm25 cd25 ct25 : Value}
    {f26 : Addr} {od26 an26 : Option Addr} {sl26 : Array (Option Value)} {oc26 kV26 dc26 pm26 cd26 ct26 : Value}
    {f27 : Addr} {od27 an27 : Option Addr} {sl27 : Array (Option Value)} {oc27 kV27 dc27 pm27 cd27 ct27 : Value}
    {f28 : Addr} {od28 an28 : Option Addr} {sl28 : Array (Option Value)} {oc28 kV28 dc28 pm28 cd28 ct28 : Value}
    {f29 : Addr} {od29 an29 : Option Addr} {sl29 : Array (Option Value)} {oc29 kV29 dc29 pm29 cd29 ct29 : Value}
    {f30 : Addr} {od30 an30 : Option Addr} {sl30 : Array (Option Value)} {oc30 kV30 dc30 pm30 cd30 ct30 : Value}
    {f31 : Addr} {od31 an31 : Option Addr} {sl31 : Array (Option Value)} {oc31 kV31 dc31 pm31 cd31 ct31 : Value}
    {f32 : Addr} {od32 an32 : Option Addr} {sl32 : Array (Option Value)} {oc32 kV32 dc32 pm32 cd32 ct32 : Value}
    {f33 : Addr} {od33 an33 : Option Addr} {sl33 : Array (Option Value)} {oc33 kV33 dc33 pm33 cd33 ct33 : Value}
    {f34 : Addr} {od34 an34 : Option Addr} {sl34 : Array (Option Value)} {oc34 kV34 dc34 pm34 cd34 ct34 : Value}
    {f35 : Addr} {od35 an35 : Option Addr} {sl35 : Array (Option Value)} {oc35 kV35 dc35 pm35 cd35 ct35 : Value}
    {f36 : Addr} {od36 an36 : Option Addr} {sl36 : Array (Option Value)} {oc36 kV36 dc36 pm36 cd36 ct36 : Value}
    {f37 : Addr} {od37 an37 : Option Addr} {sl37 : Array (Option Value)} {oc37 kV37 dc37 pm37 cd37 ct37 : Value}
    {t_MOST_BOXES : Tok}
    {t_MOST_COUNT : Tok}
    {t_MOST_PIPES : Tok}
    {t_MOST_RATE : Tok}
    {t_MOST_STATES : Tok}
    {t_MOST_TOKENS : Tok}
    (a0 : PySem.W.nsIn K mainGlobals "_law_alike" = some (some (.ref f0))) (l0 : K.lookup f0 = some ⟨oc0, od0, .func (PySem.W.fnOf "_law_alike" "_law_alike" (defArgs st_p_law_alike) (defBody st_p_law_alike) (defScope st_p_law_alike) .none kV0 dc0 pm0 an0 cd0 ct0), sl0⟩) (c0 : PySem.W.codeIn K cd0 "_law_alike" = true) (k0 : PySem.W.keepIn K (.ref f0) = true)
    (a1 : PySem.W.nsIn K mainGlobals "_law_taken" = some (some (.ref f1))) (l1 : K.lookup f1 = some ⟨oc1, od1, .func (PySem.W.fnOf "_law_taken" "_law_taken" (defArgs st_p_law_taken) (defBody st_p_law_taken) (defScope st_p_law_taken) .none kV1 dc1 pm1 an1 cd1 ct1), sl1⟩) (c1 : PySem.W.codeIn K cd1 "_law_taken" = true) (k1 : PySem.W.keepIn K (.ref f1) = true)
    (a2 : PySem.W.nsIn K mainGlobals "_law_any" = some (some (.ref f2))) (l2 : K.lookup f2 = some ⟨oc2, od2, .func (PySem.W.fnOf "_law_any" "_law_any" (defArgs st_p_law_any) (defBody st_p_law_any) (defScope st_p_law_any) .none kV2 dc2 pm2 an2 cd2 ct2), sl2⟩) (c2 : PySem.W.codeIn K cd2 "_law_any" = true) (k2 : PySem.W.keepIn K (.ref f2) = true)
    (a3 : PySem.W.nsIn K mainGlobals "_law_counts" = some (some (.ref f3))) (l3 : K.lookup f3 = some ⟨oc3, od3, .func (PySem.W.fnOf "_law_counts" "_law_counts" (defArgs st_p_law_counts) (defBody st_p_law_counts) (defScope st_p_law_counts) .none kV3 dc3 pm3 an3 cd3 ct3), sl3⟩) (c3 : PySem.W.codeIn K cd3 "_law_counts" = true) (k3 : PySem.W.keepIn K (.ref f3) = true)
    (a4 : PySem.W.nsIn K mainGlobals "_law_can" = some (some (.ref f4))) (l4 : K.lookup f4 = some ⟨oc4, od4, .func (PySem.W.fnOf "_law_can" "_law_can" (defArgs st_p_law_can) (defBody st_p_law_can) (defScope st_p_law_can) .none kV4 dc4 pm4 an4 cd4 ct4), sl4⟩) (c4 : PySem.W.codeIn K cd4 "_law_can" = true) (k4 : PySem.W.keepIn K (.ref f4) = true)
    (a5 : PySem.W.nsIn K mainGlobals "_law_next" = some (some (.ref f5))) (l5 : K.lookup f5 = some ⟨oc5, od5, .func (PySem.W.fnOf "_law_next" "_law_next" (defArgs st_p_law_next) (defBody st_p_law_next) (defScope st_p_law_next) .none kV5 dc5 pm5 an5 cd5 ct5), sl5⟩) (c5 : PySem.W.codeIn K cd5 "_law_next" = true) (k5 : PySem.W.keepIn K (.ref f5) = true)
    (a6 : PySem.W.nsIn K mainGlobals "_law_some" = some (some (.ref f6))) (l6 : K.lookup f6 = some ⟨oc6, od6, .func (PySem.W.fnOf "_law_some" "_law_some" (defArgs st_p_law_some) (defBody st_p_law_some) (defScope st_p_law_some) .none kV6 dc6 pm6 an6 cd6 ct6), sl6⟩) (c6 : PySem.W.codeIn K cd6 "_law_some" = true) (k6 : PySem.W.keepIn K (.ref f6) = true)
    (a7 : PySem.W.nsIn K mainGlobals "_law_do" = some (some (.ref f7))) (l7 : K.lookup f7 = some ⟨oc7, od7, .func (PySem.W.fnOf "_law_do" "_law_do" (defArgs st_p_law_do) (defBody st_p_law_do) (defScope st_p_law_do) .none kV7 dc7 pm7 an7 cd7 ct7), sl7⟩) (c7 : PySem.W.codeIn K cd7 "_law_do" = true) (k7 : PySem.W.keepIn K (.ref f7) = true)
    (a8 : PySem.W.nsIn K mainGlobals "_law_gcd" = some (some (.ref f8))) (l8 : K.lookup f8 = some ⟨oc8, od8, .func (PySem.W.fnOf "_law_gcd" "_law_gcd" (defArgs st_p_law_gcd) (defBody st_p_law_gcd) (defScope st_p_law_gcd) .none kV8 dc8 pm8 an8 cd8 ct8), sl8⟩) (c8 : PySem.W.codeIn K cd8 "_law_gcd" = true) (k8 : PySem.W.keepIn K (.ref f8) = true)
    (a9 : PySem.W.nsIn K mainGlobals "_law_pick" = some (some (.ref f9))) (l9 : K.lookup f9 = some ⟨oc9, od9, .func (PySem.W.fnOf "_law_pick" "_law_pick" (defArgs st_p_law_pick) (defBody st_p_law_pick) (defScope st_p_law_pick) .none kV9 dc9 pm9 an9 cd9 ct9), sl9⟩) (c9 : PySem.W.codeIn K cd9 "_law_pick" = true) (k9 : PySem.W.keepIn K (.ref f9) = true)
    (a10 : PySem.W.nsIn K mainGlobals "_law_flow" = some (some (.ref f10))) (l10 : K.lookup f10 = some ⟨oc10, od10, .func (PySem.W.fnOf "_law_flow" "_law_flow" (defArgs st_p_law_flow) (defBody st_p_law_flow) (defScope st_p_law_flow) .none kV10 dc10 pm10 an10 cd10 ct10), sl10⟩) (c10 : PySem.W.codeIn K cd10 "_law_flow" = true) (k10 : PySem.W.keepIn K (.ref f10) = true)
    (a11 : PySem.W.nsIn K mainGlobals "_law_joined" = some (some (.ref f11))) (l11 : K.lookup f11 = some ⟨oc11, od11, .func (PySem.W.fnOf "_law_joined" "_law_joined" (defArgs st_p_law_joined) (defBody st_p_law_joined) (defScope st_p_law_joined) .none kV11 dc11 pm11 an11 cd11 ct11), sl11⟩) (c11 : PySem.W.codeIn K cd11 "_law_joined" = true) (k11 : PySem.W.keepIn K (.ref f11) = true)
    (a12 : PySem.W.nsIn K mainGlobals "_law_ratio" = some (some (.ref f12))) (l12 : K.lookup f12 = some ⟨oc12, od12, .func (PySem.W.fnOf "_law_ratio" "_law_ratio" (defArgs st_p_law_ratio) (defBody st_p_law_ratio) (defScope st_p_law_ratio) .none kV12 dc12 pm12 an12 cd12 ct12), sl12⟩) (c12 : PySem.W.codeIn K cd12 "_law_ratio" = true) (k12 : PySem.W.keepIn K (.ref f12) = true)
    (a13 : PySem.W.nsIn K mainGlobals "_law_round" = some (some (.ref f13))) (l13 : K.lookup f13 = some ⟨oc13, od13, .func (PySem.W.fnOf "_law_round" "_law_round" (defArgs st_p_law_round) (defBody st_p_law_round) (defScope st_p_law_round) .none kV13 dc13 pm13 an13 cd13 ct13), sl13⟩) (c13 : PySem.W.codeIn K cd13 "_law_round" = true) (k13 : PySem.W.keepIn K (.ref f13) = true)
    (a14 : PySem.W.nsIn K mainGlobals "_law_with" = some (some (.ref f14))) (l14 : K.lookup f14 = some ⟨oc14, od14, .func (PySem.W.fnOf "_law_with" "_law_with" (defArgs st_p_law_with) (defBody st_p_law_with) (defScope st_p_law_with) .none kV14 dc14 pm14 an14 cd14 ct14), sl14⟩) (c14 : PySem.W.codeIn K cd14 "_law_with" = true) (k14 : PySem.W.keepIn K (.ref f14) = true)
    (a15 : PySem.W.nsIn K mainGlobals "_law_live" = some (some (.ref f15))) (l15 : K.lookup f15 = some ⟨oc15, od15, .func (PySem.W.fnOf "_law_live" "_law_live" (defArgs st_p_law_live) (defBody st_p_law_live) (defScope st_p_law_live) .none kV15 dc15 pm15 an15 cd15 ct15), sl15⟩) (c15 : PySem.W.codeIn K cd15 "_law_live" = true) (k15 : PySem.W.keepIn K (.ref f15) = true)
    (a16 : PySem.W.nsIn K mainGlobals "_law_words" = some (some (.ref f16))) (l16 : K.lookup f16 = some ⟨oc16, od16, .func (PySem.W.fnOf "_law_words" "_law_words" (defArgs st_p_law_words) (defBody st_p_law_words) (defScope st_p_law_words) .none kV16 dc16 pm16 an16 cd16 ct16), sl16⟩) (c16 : PySem.W.codeIn K cd16 "_law_words" = true) (k16 : PySem.W.keepIn K (.ref f16) = true)
    (a17 : PySem.W.nsIn K mainGlobals "is_whole" = some (some (.ref f17))) (l17 : K.lookup f17 = some ⟨oc17, od17, .func (PySem.W.fnOf "is_whole" "is_whole" (defArgs st_p_is_whole) (defBody st_p_is_whole) (defScope st_p_is_whole) .none kV17 dc17 pm17 an17 cd17 ct17), sl17⟩) (c17 : PySem.W.codeIn K cd17 "is_whole" = true) (k17 : PySem.W.keepIn K (.ref f17) = true)
    (a18 : PySem.W.nsIn K mainGlobals "is_number" = some (some (.ref f18))) (l18 : K.lookup f18 = some ⟨oc18, od18, .func (PySem.W.fnOf "is_number" "is_number" (defArgs st_p_is_number) (defBody st_p_is_number) (defScope st_p_is_number) .none kV18 dc18 pm18 an18 cd18 ct18), sl18⟩) (c18 : PySem.W.codeIn K cd18 "is_number" = true) (k18 : PySem.W.keepIn K (.ref f18) = true)
    (a19 : PySem.W.nsIn K mainGlobals "is_row" = some (some (.ref f19))) (l19 : K.lookup f19 = some ⟨oc19, od19, .func (PySem.W.fnOf "is_row" "is_row" (defArgs st_p_is_row) (defBody st_p_is_row) (defScope st_p_is_row) .none kV19 dc19 pm19 an19 cd19 ct19), sl19⟩) (c19 : PySem.W.codeIn K cd19 "is_row" = true) (k19 : PySem.W.keepIn K (.ref f19) = true)
    (a20 : PySem.W.nsIn K mainGlobals "check_counts" = some (some (.ref f20))) (l20 : K.lookup f20 = some ⟨oc20, od20, .func (PySem.W.fnOf "check_counts" "check_counts" (defArgs st_p_check_counts) (defBody st_p_check_counts) (defScope st_p_check_counts) .none kV20 dc20 pm20 an20 cd20 ct20), sl20⟩) (c20 : PySem.W.codeIn K cd20 "check_counts" = true) (k20 : PySem.W.keepIn K (.ref f20) = true)
    (a21 : PySem.W.nsIn K mainGlobals "is_box" = some (some (.ref f21))) (l21 : K.lookup f21 = some ⟨oc21, od21, .func (PySem.W.fnOf "is_box" "is_box" (defArgs st_p_is_box) (defBody st_p_is_box) (defScope st_p_is_box) .none kV21 dc21 pm21 an21 cd21 ct21), sl21⟩) (c21 : PySem.W.codeIn K cd21 "is_box" = true) (k21 : PySem.W.keepIn K (.ref f21) = true)
    (a22 : PySem.W.nsIn K mainGlobals "is_pipe" = some (some (.ref f22))) (l22 : K.lookup f22 = some ⟨oc22, od22, .func (PySem.W.fnOf "is_pipe" "is_pipe" (defArgs st_p_is_pipe) (defBody st_p_is_pipe) (defScope st_p_is_pipe) .none kV22 dc22 pm22 an22 cd22 ct22), sl22⟩) (c22 : PySem.W.codeIn K cd22 "is_pipe" = true) (k22 : PySem.W.keepIn K (.ref f22) = true)
    (a23 : PySem.W.nsIn K mainGlobals "check_flow" = some (some (.ref f23))) (l23 : K.lookup f23 = some ⟨oc23, od23, .func (PySem.W.fnOf "check_flow" "check_flow" (defArgs st_p_check_flow) (defBody st_p_check_flow) (defScope st_p_check_flow) .none kV23 dc23 pm23 an23 cd23 ct23), sl23⟩) (c23 : PySem.W.codeIn K cd23 "check_flow" = true) (k23 : PySem.W.keepIn K (.ref f23) = true)
    (a24 : PySem.W.nsIn K mainGlobals "firings_in_a_row" = some (some (.ref f24))) (l24 : K.lookup f24 = some ⟨oc24, od24, .func (PySem.W.fnOf "firings_in_a_row" "firings_in_a_row" (defArgs st_p_firings_in_a_row) (defBody st_p_firings_in_a_row) (defScope st_p_firings_in_a_row) .none kV24 dc24 pm24 an24 cd24 ct24), sl24⟩) (c24 : PySem.W.codeIn K cd24 "firings_in_a_row" = true) (k24 : PySem.W.keepIn K (.ref f24) = true)
    (a25 : PySem.W.nsIn K mainGlobals "pipes_at" = some (some (.ref f25))) (l25 : K.lookup f25 = some ⟨oc25, od25, .func (PySem.W.fnOf "pipes_at" "pipes_at" (defArgs st_p_pipes_at) (defBody st_p_pipes_at) (defScope st_p_pipes_at) .none kV25 dc25 pm25 an25 cd25 ct25), sl25⟩) (c25 : PySem.W.codeIn K cd25 "pipes_at" = true) (k25 : PySem.W.keepIn K (.ref f25) = true)
    (a26 : PySem.W.nsIn K mainGlobals "most_counts" = some (some (.ref f26))) (l26 : K.lookup f26 = some ⟨oc26, od26, .func (PySem.W.fnOf "most_counts" "most_counts" (defArgs st_p_most_counts) (defBody st_p_most_counts) (defScope st_p_most_counts) .none kV26 dc26 pm26 an26 cd26 ct26), sl26⟩) (c26 : PySem.W.codeIn K cd26 "most_counts" = true) (k26 : PySem.W.keepIn K (.ref f26) = true)
    (a27 : PySem.W.nsIn K mainGlobals "most_done" = some (some (.ref f27))) (l27 : K.lookup f27 = some ⟨oc27, od27, .func (PySem.W.fnOf "most_done" "most_done" (defArgs st_p_most_done) (defBody st_p_most_done) (defScope st_p_most_done) .none kV27 dc27 pm27 an27 cd27 ct27), sl27⟩) (c27 : PySem.W.codeIn K cd27 "most_done" = true) (k27 : PySem.W.keepIn K (.ref f27) = true)
    (a28 : PySem.W.nsIn K mainGlobals "can_do" = some (some (.ref f28))) (l28 : K.lookup f28 = some ⟨oc28, od28, .func (PySem.W.fnOf "can_do" "can_do" (defArgs st_p_can_do) (defBody st_p_can_do) (defScope st_p_can_do) .none kV28 dc28 pm28 an28 cd28 ct28), sl28⟩) (c28 : PySem.W.codeIn K cd28 "can_do" = true) (k28 : PySem.W.keepIn K (.ref f28) = true)
    (a29 : PySem.W.nsIn K mainGlobals "multiplied" = some (some (.ref f29))) (l29 : K.lookup f29 = some ⟨oc29, od29, .func (PySem.W.fnOf "multiplied" "multiplied" (defArgs st_p_multiplied) (defBody st_p_multiplied) (defScope st_p_multiplied) .none kV29 dc29 pm29 an29 cd29 ct29), sl29⟩) (c29 : PySem.W.codeIn K cd29 "multiplied" = true) (k29 : PySem.W.keepIn K (.ref f29) = true)
    (a30 : PySem.W.nsIn K mainGlobals "left_on" = some (some (.ref f30))) (l30 : K.lookup f30 = some ⟨oc30, od30, .func (PySem.W.fnOf "left_on" "left_on" (defArgs st_p_left_on) (defBody st_p_left_on) (defScope st_p_left_on) .none kV30 dc30 pm30 an30 cd30 ct30), sl30⟩) (c30 : PySem.W.codeIn K cd30 "left_on" = true) (k30 : PySem.W.keepIn K (.ref f30) = true)
    (a31 : PySem.W.nsIn K mainGlobals "short_pipes" = some (some (.ref f31))) (l31 : K.lookup f31 = some ⟨oc31, od31, .func (PySem.W.fnOf "short_pipes" "short_pipes" (defArgs st_p_short_pipes) (defBody st_p_short_pipes) (defScope st_p_short_pipes) .none kV31 dc31 pm31 an31 cd31 ct31), sl31⟩) (c31 : PySem.W.codeIn K cd31 "short_pipes" = true) (k31 : PySem.W.keepIn K (.ref f31) = true)
    (a32 : PySem.W.nsIn K mainGlobals "one_firing_on" = some (some (.ref f32))) (l32 : K.lookup f32 = some ⟨oc32, od32, .func (PySem.W.fnOf "one_firing_on" "one_firing_on" (defArgs st_p_one_firing_on) (defBody st_p_one_firing_on) (defScope st_p_one_firing_on) .none kV32 dc32 pm32 an32 cd32 ct32), sl32⟩) (c32 : PySem.W.codeIn K cd32 "one_firing_on" = true) (k32 : PySem.W.keepIn K (.ref f32) = true)
    (a33 : PySem.W.nsIn K mainGlobals "ways" = some (some (.ref f33))) (l33 : K.lookup f33 = some ⟨oc33, od33, .func (PySem.W.fnOf "ways" "ways" (defArgs st_p_ways) (defBody st_p_ways) (defScope st_p_ways) .none kV33 dc33 pm33 an33 cd33 ct33), sl33⟩) (c33 : PySem.W.codeIn K cd33 "ways" = true) (k33 : PySem.W.keepIn K (.ref f33) = true)
    (a34 : PySem.W.nsIn K mainGlobals "held_behind" = some (some (.ref f34))) (l34 : K.lookup f34 = some ⟨oc34, od34, .func (PySem.W.fnOf "held_behind" "held_behind" (defArgs st_p_held_behind) (defBody st_p_held_behind) (defScope st_p_held_behind) .none kV34 dc34 pm34 an34 cd34 ct34), sl34⟩) (c34 : PySem.W.codeIn K cd34 "held_behind" = true) (k34 : PySem.W.keepIn K (.ref f34) = true)
    (a35 : PySem.W.nsIn K mainGlobals "least_word" = some (some (.ref f35))) (l35 : K.lookup f35 = some ⟨oc35, od35, .func (PySem.W.fnOf "least_word" "least_word" (defArgs st_p_least_word) (defBody st_p_least_word) (defScope st_p_least_word) .none kV35 dc35 pm35 an35 cd35 ct35), sl35⟩) (c35 : PySem.W.codeIn K cd35 "least_word" = true) (k35 : PySem.W.keepIn K (.ref f35) = true)
    (a36 : PySem.W.nsIn K mainGlobals "word_for" = some (some (.ref f36))) (l36 : K.lookup f36 = some ⟨oc36, od36, .func (PySem.W.fnOf "word_for" "word_for" (defArgs st_p_word_for) (defBody st_p_word_for) (defScope st_p_word_for) .none kV36 dc36 pm36 an36 cd36 ct36), sl36⟩) (c36 : PySem.W.codeIn K cd36 "word_for" = true) (k36 : PySem.W.keepIn K (.ref f36) = true)
    (a37 : PySem.W.nsIn K mainGlobals "law" = some (some (.ref f37))) (l37 : K.lookup f37 = some ⟨oc37, od37, .func (PySem.W.fnOf "law" "law" (defArgs st_p_law) (defBody st_p_law) (defScope st_p_law) .none kV37 dc37 pm37 an37 cd37 ct37), sl37⟩) (c37 : PySem.W.codeIn K cd37 "law" = true) (k37 : PySem.W.keepIn K (.ref f37) = true)
    (z_abs : PySem.W.nsIn K mainGlobals "abs" = some none)
    (z_any : PySem.W.nsIn K mainGlobals "any" = some none)
    (z_bool : PySem.W.nsIn K mainGlobals "bool" = some none)
    (z_enumerate : PySem.W.nsIn K mainGlobals "enumerate" = some none)
    (z_int : PySem.W.nsIn K mainGlobals "int" = some none)
    (z_isinstance : PySem.W.nsIn K mainGlobals "isinstance" = some none)
    (z_len : PySem.W.nsIn K mainGlobals "len" = some none)
    (z_list : PySem.W.nsIn K mainGlobals "list" = some none)
    (z_min : PySem.W.nsIn K mainGlobals "min" = some none)
    (z_range : PySem.W.nsIn K mainGlobals "range" = some none)
    (z_str : PySem.W.nsIn K mainGlobals "str" = some none)
    (z_sum : PySem.W.nsIn K mainGlobals "sum" = some none)
    (z_tuple : PySem.W.nsIn K mainGlobals "tuple" = some none)
    (z_MOST_BOXES : PySem.W.nsIn K mainGlobals "MOST_BOXES" = some (some (.int 8 t_MOST_BOXES)))
    (z_MOST_COUNT : PySem.W.nsIn K mainGlobals "MOST_COUNT" = some (some (.int 200 t_MOST_COUNT)))
    (z_MOST_PIPES : PySem.W.nsIn K mainGlobals "MOST_PIPES" = some (some (.int 16 t_MOST_PIPES)))
    (z_MOST_RATE : PySem.W.nsIn K mainGlobals "MOST_RATE" = some (some (.int 999 t_MOST_RATE)))
    (z_MOST_STATES : PySem.W.nsIn K mainGlobals "MOST_STATES" = some (some (.int 3000 t_MOST_STATES)))
    (z_MOST_TOKENS : PySem.W.nsIn K mainGlobals "MOST_TOKENS" = some (some (.int 99999 t_MOST_TOKENS))) :
    ∃ fd : FuncData, (∀ (s : Shared) (v : Value), BindsTo s fd ⟨[v], []⟩ [("script", v)]) ∧ ∀ base : Heap, K.In base → base.Ns mainGlobals mg → FnOk l.prog w K mg base (L2.CX l.prog w) 10 fa fd ["script"] (spLaw K) := by
  have e := hfa.symm.trans (PySem.W.mg_of X G a37)
  cases e
  have T : Top K mg := { abs := PySem.W.mg_none_of X G z_abs, any := PySem.W.mg_none_of X G z_any, bool := PySem.W.mg_none_of X G z_bool, enumerate := PySem.W.mg_none_of X G z_enumerate, int := PySem.W.mg_none_of X G z_int, isinstance := PySem.W.mg_none_of X G z_isinstance, len := PySem.W.mg_none_of X G z_len, list := PySem.W.mg_none_of X G z_list, min := PySem.W.mg_none_of X G z_min, range := PySem.W.mg_none_of X G z_range, str := PySem.W.mg_none_of X G z_str, sum := PySem.W.mg_none_of X G z_sum, tuple := PySem.W.mg_none_of X G z_tuple, c_MOST_BOXES := ⟨t_MOST_BOXES, PySem.W.mg_of X G z_MOST_BOXES⟩, c_MOST_COUNT := ⟨t_MOST_COUNT, PySem.W.mg_of X G z_MOST_COUNT⟩, c_MOST_PIPES := ⟨t_MOST_PIPES, PySem.W.mg_of X G z_MOST_PIPES⟩, c_MOST_RATE := ⟨t_MOST_RATE, PySem.W.mg_of X G z_MOST_RATE⟩, c_MOST_STATES := ⟨t_MOST_STATES, PySem.W.mg_of X G z_MOST_STATES⟩, c_MOST_TOKENS := ⟨t_MOST_TOKENS, PySem.W.mg_of X G z_MOST_TOKENS⟩ }
  have F0 := fun_mk (st := st_p_law_alike) l0 c0 k0
  have b0 := F0.binds (ps := ["found", "due"]) fun _ _ _ _ _ _ us hl => match us, hl with | [_, _], _ => rfl
  have F1 := fun_mk (st := st_p_law_taken) l1 c1 k1
  have b1 := F1.binds (ps := ["row", "many"]) fun _ _ _ _ _ _ us hl => match us, hl with | [_, _], _ => rfl
  have F2 := fun_mk (st := st_p_law_any) l2 c2 k2
  have b2 := F2.binds (ps := ["row"]) fun _ _ _ _ _ _ us hl => match us, hl with | [_], _ => rfl
  have F3 := fun_mk (st := st_p_law_counts) l3 c3 k3
  have b3 := F3.binds (ps := ["row", "flow", "most"]) fun _ _ _ _ _ _ us hl => match us, hl with | [_, _, _], _ => rfl
  have F4 := fun_mk (st := st_p_law_can) l4 c4 k4
  have b4 := F4.binds (ps := ["flow", "some", "box"]) fun _ _ _ _ _ _ us hl => match us, hl with | [_, _, _], _ => rfl
  have F5 := fun_mk (st := st_p_law_next) l5 c5 k5
  have b5 := F5.binds (ps := ["flow", "some", "box"]) fun _ _ _ _ _ _ us hl => match us, hl with | [_, _, _], _ => rfl
  have F6 := fun_mk (st := st_p_law_some) l6 c6 k6
  have b6 := F6.binds (ps := ["flow"]) fun _ _ _ _ _ _ us hl => match us, hl with | [_], _ => rfl
  have F7 := fun_mk (st := st_p_law_do) l7 c7 k7
  have b7 := F7.binds (ps := ["flow", "counts"]) fun _ _ _ _ _ _ us hl => match us, hl with | [_, _], _ => rfl
  have F8 := fun_mk (st := st_p_law_gcd) l8 c8 k8
  have b8 := F8.binds (ps := ["one", "other"]) fun _ _ _ _ _ _ us hl => match us, hl with | [_, _], _ => rfl
  have F9 := fun_mk (st := st_p_law_pick) l9 c9 k9
  have b9 := F9.binds (ps := ["row", "things"]) fun _ _ _ _ _ _ us hl => match us, hl with | [_, _], _ => rfl
  have F10 := fun_mk (st := st_p_law_flow) l10 c10 k10
  have b10 := F10.binds (ps := ["row", "most", "top"]) fun _ _ _ _ _ _ us hl => match us, hl with | [_, _, _], _ => rfl
  have F11 := fun_mk (st := st_p_law_joined) l11 c11 k11
  have b11 := F11.binds (ps := ["flow", "box", "both"]) fun _ _ _ _ _ _ us hl => match us, hl with | [_, _, _], _ => rfl
  have F12 := fun_mk (st := st_p_law_ratio) l12 c12 k12
  have b12 := F12.binds (ps := ["numerator", "denominator"]) fun _ _ _ _ _ _ us hl => match us, hl with | [_, _], _ => rfl
  have F13 := fun_mk (st := st_p_law_round) l13 c13 k13
  have b13 := F13.binds (ps := ["flow"]) fun _ _ _ _ _ _ us hl => match us, hl with | [_], _ => rfl
  have F14 := fun_mk (st := st_p_law_with) l14 c14 k14
  have b14 := F14.binds (ps := ["flow", "some"]) fun _ _ _ _ _ _ us hl => match us, hl with | [_, _], _ => rfl
  have F15 := fun_mk (st := st_p_law_live) l15 c15 k15
  have b15 := F15.binds (ps := ["row", "most", "top"]) fun _ _ _ _ _ _ us hl => match us, hl with | [_, _, _], _ => rfl
  have F16 := fun_mk (st := st_p_law_words) l16 c16 k16
  have b16 := F16.binds (ps := ["flow", "counts", "most"]) fun _ _ _ _ _ _ us hl => match us, hl with | [_, _, _], _ => rfl
  have F17 := fun_mk (st := st_p_is_whole) l17 c17 k17
  have b17 := F17.binds (ps := ["value"]) fun _ _ _ _ _ _ us hl => match us, hl with | [_], _ => rfl
  have F18 := fun_mk (st := st_p_is_number) l18 c18 k18
  have b18 := F18.binds (ps := ["value", "low", "high"]) fun _ _ _ _ _ _ us hl => match us, hl with | [_, _, _], _ => rfl
  have F19 := fun_mk (st := st_p_is_row) l19 c19 k19
  have b19 := F19.binds (ps := ["value", "many"]) fun _ _ _ _ _ _ us hl => match us, hl with | [_, _], _ => rfl
  have F20 := fun_mk (st := st_p_check_counts) l20 c20 k20
  have b20 := F20.binds (ps := ["flow", "counts"]) fun _ _ _ _ _ _ us hl => match us, hl with | [_, _], _ => rfl
  have F21 := fun_mk (st := st_p_is_box) l21 c21 k21
  have b21 := F21.binds (ps := ["value", "boxes"]) fun _ _ _ _ _ _ us hl => match us, hl with | [_, _], _ => rfl
  have F22 := fun_mk (st := st_p_is_pipe) l22 c22 k22
  have b22 := F22.binds (ps := ["value", "boxes"]) fun _ _ _ _ _ _ us hl => match us, hl with | [_, _], _ => rfl
  have F23 := fun_mk (st := st_p_check_flow) l23 c23 k23
  have b23 := F23.binds (ps := ["flow"]) fun _ _ _ _ _ _ us hl => match us, hl with | [_], _ => rfl
  have F24 := fun_mk (st := st_p_firings_in_a_row) l24 c24 k24
  have b24 := F24.binds (ps := ["pipes", "held", "entries", "most"]) fun _ _ _ _ _ _ us hl => match us, hl with | [_, _, _, _], _ => rfl
  have F25 := fun_mk (st := st_p_pipes_at) l25 c25 k25
  have b25 := F25.binds (ps := ["pipes", "end", "boxes"]) fun _ _ _ _ _ _ us hl => match us, hl with | [_, _, _], _ => rfl
  have F26 := fun_mk (st := st_p_most_counts) l26 c26 k26
  have b26 := F26.binds (ps := ["pipes", "counts"]) fun _ _ _ _ _ _ us hl => match us, hl with | [_, _], _ => rfl
  have F27 := fun_mk (st := st_p_most_done) l27 c27 k27
  have b27 := F27.binds (ps := ["flow", "counts"]) fun _ _ _ _ _ _ us hl => match us, hl with | [_, _], _ => rfl
  have F28 := fun_mk (st := st_p_can_do) l28 c28 k28
  have b28 := F28.binds (ps := ["flow", "counts"]) fun _ _ _ _ _ _ us hl => match us, hl with | [_, _], _ => rfl
  have F29 := fun_mk (st := st_p_multiplied) l29 c29 k29
  have b29 := F29.binds (ps := ["numbers"]) fun _ _ _ _ _ _ us hl => match us, hl with | [_], _ => rfl
  have F30 := fun_mk (st := st_p_left_on) l30 c30 k30
  have b30 := F30.binds (ps := ["pipes", "counts"]) fun _ _ _ _ _ _ us hl => match us, hl with | [_, _], _ => rfl
  have F31 := fun_mk (st := st_p_short_pipes) l31 c31 k31
  have b31 := F31.binds (ps := ["pipes", "held", "box"]) fun _ _ _ _ _ _ us hl => match us, hl with | [_, _, _], _ => rfl
  have F32 := fun_mk (st := st_p_one_firing_on) l32 c32 k32
  have b32 := F32.binds (ps := ["pipes", "counts", "numbers"]) fun _ _ _ _ _ _ us hl => match us, hl with | [_, _, _], _ => rfl
  have F33 := fun_mk (st := st_p_ways) l33 c33 k33
  have b33 := F33.binds (ps := ["flow", "counts"]) fun _ _ _ _ _ _ us hl => match us, hl with | [_, _], _ => rfl
  have F34 := fun_mk (st := st_p_held_behind) l34 c34 k34
  have b34 := F34.binds (ps := ["pipes", "held", "box"]) fun _ _ _ _ _ _ us hl => match us, hl with | [_, _, _], _ => rfl
  have F35 := fun_mk (st := st_p_least_word) l35 c35 k35
  have b35 := F35.binds (ps := ["pipes", "counts"]) fun _ _ _ _ _ _ us hl => match us, hl with | [_, _], _ => rfl
  have F36 := fun_mk (st := st_p_word_for) l36 c36 k36
  have b36 := F36.binds (ps := ["flow", "counts"]) fun _ _ _ _ _ _ us hl => match us, hl with | [_, _], _ => rfl
  have F37 := fun_mk (st := st_p_law) l37 c37 k37
  have b37 := F37.binds (ps := ["script"]) fun _ _ _ _ _ _ us hl => match us, hl with | [_], _ => rfl
  refine ⟨PySem.W.fnOf "law" "law" (defArgs st_p_law) (defBody st_p_law) (defScope st_p_law) .none kV37 dc37 pm37 an37 cd37 ct37, fun s v => .of_eq rfl, fun base _ _ => ?_⟩
  have H0 := ok_p_law_alike (P := l.prog) (wd := w) (base := base) F0 (PySem.W.mg_of X G a0) b0 T 
  have H1 := ok_p_law_taken (P := l.prog) (wd := w) (base := base) F1 (PySem.W.mg_of X G a1) b1 T 
  have H2 := ok_p_law_any (P := l.prog) (wd := w) (base := base) F2 (PySem.W.mg_of X G a2) b2 T H1
  have H3 := ok_p_law_counts (P := l.prog) (wd := w) (base := base) F3 (PySem.W.mg_of X G a3) b3 T H1
  have H4 := ok_p_law_can (P := l.prog) (wd := w) (base := base) F4 (PySem.W.mg_of X G a4) b4 T 
  have H5 := ok_p_law_next (P := l.prog) (wd := w) (base := base) F5 (PySem.W.mg_of X G a5) b5 T 
  have H6 := ok_p_law_some (P := l.prog) (wd := w) (base := base) F6 (PySem.W.mg_of X G a6) b6 T 
  have H7 := ok_p_law_do (P := l.prog) (wd := w) (base := base) F7 (PySem.W.mg_of X G a7) b7 T H4 H5 H6
  have H8 := ok_p_law_gcd (P := l.prog) (wd := w) (base := base) F8 (PySem.W.mg_of X G a8) b8 T 
  have H9 := ok_p_law_pick (P := l.prog) (wd := w) (base := base) F9 (PySem.W.mg_of X G a9) b9 T H1
  have H10 := ok_p_law_flow (P := l.prog) (wd := w) (base := base) F10 (PySem.W.mg_of X G a10) b10 T H8 H9 H1
  have H11 := ok_p_law_joined (P := l.prog) (wd := w) (base := base) F11 (PySem.W.mg_of X G a11) b11 T 
  have H12 := ok_p_law_ratio (P := l.prog) (wd := w) (base := base) F12 (PySem.W.mg_of X G a12) b12 T H8
  have H13 := ok_p_law_round (P := l.prog) (wd := w) (base := base) F13 (PySem.W.mg_of X G a13) b13 T H8 H11 H12
  have H14 := ok_p_law_with (P := l.prog) (wd := w) (base := base) F14 (PySem.W.mg_of X G a14) b14 T 
  have H15 := ok_p_law_live (P := l.prog) (wd := w) (base := base) F15 (PySem.W.mg_of X G a15) b15 T H7 H10 H9 H13 H6 H14
  have H16 := ok_p_law_words (P := l.prog) (wd := w) (base := base) F16 (PySem.W.mg_of X G a16) b16 T H4 H5 H6
  have H17 := ok_p_is_whole (P := l.prog) (wd := w) (base := base) F17 (PySem.W.mg_of X G a17) b17 T 
  have H18 := ok_p_is_number (P := l.prog) (wd := w) (base := base) F18 (PySem.W.mg_of X G a18) b18 T H17
  have H19 := ok_p_is_row (P := l.prog) (wd := w) (base := base) F19 (PySem.W.mg_of X G a19) b19 T 
  have H20 := ok_p_check_counts (P := l.prog) (wd := w) (base := base) F20 (PySem.W.mg_of X G a20) b20 T H18 H19
  have H21 := ok_p_is_box (P := l.prog) (wd := w) (base := base) F21 (PySem.W.mg_of X G a21) b21 T H18
  have H22 := ok_p_is_pipe (P := l.prog) (wd := w) (base := base) F22 (PySem.W.mg_of X G a22) b22 T H21 H18 H19
  have H23 := ok_p_check_flow (P := l.prog) (wd := w) (base := base) F23 (PySem.W.mg_of X G a23) b23 T H18 H22 H19
  have H24 := ok_p_firings_in_a_row (P := l.prog) (wd := w) (base := base) F24 (PySem.W.mg_of X G a24) b24 T 
  have H25 := ok_p_pipes_at (P := l.prog) (wd := w) (base := base) F25 (PySem.W.mg_of X G a25) b25 T 
  have H26 := ok_p_most_counts (P := l.prog) (wd := w) (base := base) F26 (PySem.W.mg_of X G a26) b26 T H24 H25
  have H27 := ok_p_most_done (P := l.prog) (wd := w) (base := base) F27 (PySem.W.mg_of X G a27) b27 T H20 H23 H26
  have H28 := ok_p_can_do (P := l.prog) (wd := w) (base := base) F28 (PySem.W.mg_of X G a28) b28 T H27
  have H29 := ok_p_multiplied (P := l.prog) (wd := w) (base := base) F29 (PySem.W.mg_of X G a29) b29 T 
  have H30 := ok_p_left_on (P := l.prog) (wd := w) (base := base) F30 (PySem.W.mg_of X G a30) b30 T 
  have H31 := ok_p_short_pipes (P := l.prog) (wd := w) (base := base) F31 (PySem.W.mg_of X G a31) b31 T 
  have H32 := ok_p_one_firing_on (P := l.prog) (wd := w) (base := base) F32 (PySem.W.mg_of X G a32) b32 T H30 H31
  have H33 := ok_p_ways (P := l.prog) (wd := w) (base := base) F33 (PySem.W.mg_of X G a33) b33 T H20 H23 H29 H32
  have H34 := ok_p_held_behind (P := l.prog) (wd := w) (base := base) F34 (PySem.W.mg_of X G a34) b34 T 
  have H35 := ok_p_least_word (P := l.prog) (wd := w) (base := base) F35 (PySem.W.mg_of X G a35) b35 T H34 H26 H31
  have H36 := ok_p_word_for (P := l.prog) (wd := w) (base := base) F36 (PySem.W.mg_of X G a36) b36 T H20 H23 H35
  exact (ok_p_law (P := l.prog) (wd := w) (base := base) F37 T H0 H2 H3 H15 H9 H16 H28 H33 H36).imp (law_sp (g := ⟨K, mg⟩) ok)
theorem no_exc {P : Program} {w : World} {H : Hp} {s : Shared} {e : Value} {s' : Shared} (h : L2.CX P w [] H s (fun _ _ _ => False) e s') : False := by
  obtain ⟨_, _, _, _, _, _, _, _, _, _, _, _, z⟩ := h
  exact z
end K11
set_option linter.all false
set_option maxRecDepth 100000
/-! Reckoning: each rule fires only when what stands ahead is a value. -/
namespace J
open PySem (Str)
variable {E : Env} {S : List D} {d x y z : D} {ds xs : List D}
@[simp] theorem bind_exc {α β : Type} (c : Str) (fs : List (Str × D)) (S : List D) (k : α → List D → R β) : (R.exc c fs S).bind k = .exc c fs S := id rfl
@[simp] theorem bind_bad {α β : Type} (k : α → List D → R β) : (R.bad : R α).bind k = .bad := id rfl
/-! variables -/
@[simp] theorem ev_var0 : eVar 0 (some d :: E) S = .ok d S := id rfl
@[simp] theorem ev_varS (i : Nat) (o : Option D) : eVar (i + 1) (o :: E) S = eVar i E S := id rfl
@[simp] theorem ev_c : eC d E S = .ok d S := id rfl
/-! expressions -/
def kOp1 (f : D → D → List D → R D) (b : ME) (E : Env) (x : D) (S : List D) : R D := (b E S).bind (fun y S2 => f x y S2)
def kOp2 (f : D → D → List D → R D) (x : D) (y : D) (S : List D) : R D := f x y S
@[simp] theorem ev_op (f : D → D → List D → R D) (a b : ME) : eOp f a b E S = (a E S).bind (kOp1 f b E) := id rfl
@[simp] theorem kop1 (f : D → D → List D → R D) (b : ME) : kOp1 f b E x S = (b E S).bind (kOp2 f x) := id rfl
@[simp] theorem kop2 (f : D → D → List D → R D) : kOp2 f x y S = f x y S := id rfl
@[simp] theorem ev_un (f : D → List D → R D) (a : ME) : eUn f a E S = (a E S).bind f := id rfl
@[simp] theorem ev_nil : aNil E S = .ok [] S := id rfl
def kCons1 (r : MA) (E : Env) (x : D) (S : List D) : R (List D) := (r E S).bind fun xs S2 => .ok (x :: xs) S2
def kCons2 (x : D) (xs : List D) (S : List D) : R (List D) := .ok (x :: xs) S
@[simp] theorem ev_cons (a : ME) (r : MA) : aCons a r E S = (a E S).bind (kCons1 r E) := id rfl
@[simp] theorem kcons1 (r : MA) : kCons1 r E x S = (r E S).bind (kCons2 x) := id rfl
@[simp] theorem kcons2 : kCons2 x xs S = .ok (x :: xs) S := id rfl
@[simp] theorem ev_args (f : List D → List D → R D) (a : MA) : eArgs f a E S = (a E S).bind f := id rfl
def kIf (a b : ME) (E : Env) (c : Bool) (S : List D) : R D := if c = true then a E S else b E S
@[simp] theorem ev_if (t : MT) (a b : ME) : eIf t a b E S = (t E S).bind (kIf a b E) := id rfl
@[simp] theorem kif_t (a b : ME) : kIf a b E true S = a E S := id rfl
@[simp] theorem kif_f (a b : ME) : kIf a b E false S = b E S := id rfl
def kAnd (b : ME) (E : Env) (x : D) (S : List D) : R D := onBl x fun c => if c = true then b E S else .ok (.bl false) S
@[simp] theorem ev_and (a b : ME) : eAnd a b E S = (a E S).bind (kAnd b E) := id rfl
@[simp] theorem kand_t (b : ME) : kAnd b E (.bl true) S = b E S := id rfl
@[simp] theorem kand_f (b : ME) : kAnd b E (.bl false) S = .ok (.bl false) S := id rfl
def kOr (b : ME) (E : Env) (x : D) (S : List D) : R D := onBl x fun c => if c = true then .ok (.bl true) S else b E S
@[simp] theorem ev_or (a b : ME) : eOr a b E S = (a E S).bind (kOr b E) := id rfl
@[simp] theorem kor_t (b : ME) : kOr b E (.bl true) S = .ok (.bl true) S := id rfl
@[simp] theorem kor_f (b : ME) : kOr b E (.bl false) S = b E S := id rfl
def kNot (x : D) (S : List D) : R D := onBl x fun c => .ok (.bl (!c)) S
@[simp] theorem ev_not (a : ME) : eNot a E S = (a E S).bind kNot := id rfl
@[simp] theorem knot_b (c : Bool) : kNot (.bl c) S = .ok (.bl (!c)) S := id rfl
def kCh1 (f h : D → D → List D → R D) (b c : ME) (E : Env) (x : D) (S : List D) : R D := (b E S).bind fun y S2 => (f x y S2).bind fun t S3 => onBl t fun k => if k = true then (c E S3).bind fun z S4 => h y z S4 else .ok (.bl false) S3
def kCh2 (f h : D → D → List D → R D) (c : ME) (E : Env) (x y : D) (S : List D) : R D := (f x y S).bind fun t S3 => onBl t fun k => if k = true then (c E S3).bind fun z S4 => h y z S4 else .ok (.bl false) S3
def kCh3 (h : D → D → List D → R D) (c : ME) (E : Env) (y t : D) (S : List D) : R D := onBl t fun k => if k = true then (c E S).bind fun z S4 => h y z S4 else .ok (.bl false) S
@[simp] theorem ev_chain (f h : D → D → List D → R D) (a b c : ME) : eChain f h a b c E S = (a E S).bind (kCh1 f h b c E) := id rfl
@[simp] theorem kch1 (f h : D → D → List D → R D) (b c : ME) : kCh1 f h b c E x S = (b E S).bind (kCh2 f h c E x) := id rfl
@[simp] theorem kch2 (f h : D → D → List D → R D) (c : ME) : kCh2 f h c E x y S = (f x y S).bind (kCh3 h c E y) := id rfl
@[simp] theorem kch3_t (h : D → D → List D → R D) (c : ME) : kCh3 h c E y (.bl true) S = (c E S).bind (kOp2 h y) := id rfl
@[simp] theorem kch3_f (h : D → D → List D → R D) (c : ME) : kCh3 h c E y (.bl false) S = .ok (.bl false) S := id rfl
/-! tests -/
def kTV (x : D) (S : List D) : R Bool := onBl x fun c => .ok c S
@[simp] theorem ev_tv (a : ME) : tV a E S = (a E S).bind kTV := id rfl
@[simp] theorem ktv (c : Bool) : kTV (.bl c) S = .ok c S := id rfl
def kTT (x : D) (S : List D) : R Bool := match truth S x with
  | some c => .ok c S
  | none => .bad
@[simp] theorem ev_tr (a : ME) : tTr a E S = (a E S).bind kTT := id rfl
@[simp] theorem ktt_bl (c : Bool) : kTT (.bl c) S = .ok c S := id rfl
@[simp] theorem ktt_int (i : Int) : kTT (.int i) S = .ok (!decide (i = 0)) S := id rfl
@[simp] theorem ktt_tup : kTT (.tup ds) S = .ok (!ds.isEmpty) S := id rfl
@[simp] theorem ktt_lst : kTT (.lst ds) S = .ok (!ds.isEmpty) S := id rfl
@[simp] theorem ktt_non : kTT .non S = .ok false S := id rfl
def kTAnd (b : MT) (E : Env) (c : Bool) (S : List D) : R Bool := if c = true then b E S else .ok false S
@[simp] theorem ev_tand (a b : MT) : tAnd a b E S = (a E S).bind (kTAnd b E) := id rfl
@[simp] theorem ktand_t (b : MT) : kTAnd b E true S = b E S := id rfl
@[simp] theorem ktand_f (b : MT) : kTAnd b E false S = .ok false S := id rfl
def kTOr (b : MT) (E : Env) (c : Bool) (S : List D) : R Bool := if c = true then .ok true S else b E S
@[simp] theorem ev_tor (a b : MT) : tOr a b E S = (a E S).bind (kTOr b E) := id rfl
@[simp] theorem ktor_t (b : MT) : kTOr b E true S = .ok true S := id rfl
@[simp] theorem ktor_f (b : MT) : kTOr b E false S = b E S := id rfl
def kTNot (c : Bool) (S : List D) : R Bool := .ok (!c) S
@[simp] theorem ev_tnot (a : MT) : tNot a E S = (a E S).bind kTNot := id rfl
@[simp] theorem ktnot (c : Bool) : kTNot c S = .ok (!c) S := id rfl
@[simp] theorem ev_tyes : tYes E S = .ok true S := id rfl
/-! statements -/
def kSeq (b : MS) : O → O
  | .nx E1 S1 => b E1 S1
  | o => o
@[simp] theorem ev_seq (a b : MS) : sSeq a b E S = kSeq b (a E S) := by
  unfold sSeq kSeq
  cases a E S <;> rfl
@[simp] theorem kseq_nx (b : MS) : kSeq b (.nx E S) = b E S := id rfl
@[simp] theorem kseq_rt (b : MS) : kSeq b (.rt d S) = .rt d S := id rfl
@[simp] theorem kseq_bk (b : MS) : kSeq b (.bk E S) = .bk E S := id rfl
@[simp] theorem kseq_ct (b : MS) : kSeq b (.ct E S) = .ct E S := id rfl
@[simp] theorem kseq_bad (b : MS) : kSeq b .bad = .bad := id rfl
@[simp] theorem kseq_exc (b : MS) (c : Str) (fs : List (Str × D)) : kSeq b (.exc c fs E S) = .exc c fs E S := id rfl
@[simp] theorem ev_next : sNext E S = .nx E S := id rfl
@[simp] theorem ev_break : sBreak E S = .bk E S := id rfl
@[simp] theorem ev_cont : sCont E S = .ct E S := id rfl
@[simp] theorem ev_never : sNever E S = .bad := id rfl
@[simp] theorem ev_retN : sRetN E S = .rt .non S := id rfl
def kExpr (E : Env) (_ : D) (S : List D) : O := .nx E S
@[simp] theorem ev_expr (a : ME) : sExpr a E S = (a E S).toO E (kExpr E) := id rfl
@[simp] theorem kexpr : kExpr E d S = .nx E S := id rfl
def kRet (d : D) (S : List D) : O := .rt d S
@[simp] theorem ev_ret (a : ME) : sRet a E S = (a E S).toO E kRet := id rfl
@[simp] theorem kret : kRet d S = .rt d S := id rfl
def kSIf (a b : MS) (E : Env) (c : Bool) (S : List D) : O := if c = true then a E S else b E S
@[simp] theorem ev_sif (t : MT) (a b : MS) : sIf t a b E S = (t E S).tO E (kSIf a b E) := id rfl
@[simp] theorem ksif_t (a b : MS) : kSIf a b E true S = a E S := id rfl
@[simp] theorem ksif_f (a b : MS) : kSIf a b E false S = b E S := id rfl
def kSet (i : Nat) (E : Env) (d : D) (S : List D) : O := .nx (E.set i (some d)) S
@[simp] theorem ev_set (i : Nat) (a : ME) : sSet i a E S = (a E S).toO E (kSet i E) := id rfl
@[simp] theorem kset (i : Nat) : kSet i E d S = .nx (E.set i (some d)) S := id rfl
def kAug1 (f : D → D → List D → R D) (i : Nat) (x : D) (E : Env) (y : D) (S : List D) : O := (f x y S).toO E (kSet i E)
def kAug0 (f : D → D → List D → R D) (i : Nat) (a : ME) (E : Env) (x : D) (S : List D) : O := (a E S).toO E (kAug1 f i x E)
@[simp] theorem ev_aug (i : Nat) (f : D → D → List D → R D) (a : ME) : sAug i f a E S = (eVar i E S).toO E (kAug0 f i a E) := by
  unfold sAug eVar
  split <;> rfl
@[simp] theorem kaug0 (f : D → D → List D → R D) (i : Nat) (a : ME) : kAug0 f i a E x S = (a E S).toO E (kAug1 f i x E) := id rfl
@[simp] theorem kaug1 (f : D → D → List D → R D) (i : Nat) : kAug1 f i x E y S = (f x y S).toO E (kSet i E) := id rfl
def kAsg (t : Tg) (E : Env) (d : D) (S : List D) : O := match t.bind d E with
  | some E1 => .nx E1 S
  | none => .bad
@[simp] theorem ev_asg (t : Tg) (a : ME) : sAsg t a E S = (a E S).toO E (kAsg t E) := id rfl
def kA (o : Option Env) (S : List D) : O := match o with
  | some E1 => .nx E1 S
  | none => .bad
@[simp] theorem kA_s : kA (some E) S = .nx E S := id rfl
@[simp] theorem kasg' (t : Tg) : kAsg t E d S = kA (t.bind d E) S := by
  unfold kAsg kA
  cases t.bind d E <;> rfl
theorem kasg {t : Tg} {E1 : Env} (h : t.bind d E = some E1) : kAsg t E d S = .nx E1 S := by simp [kAsg, h]
def kPar (is_ : List Nat) (E : Env) : R (List D) → O
  | .ok ds S1 => match Tg.binds (is_.map .nm) ds E with
    | some E1 => .nx E1 S1
    | none => .bad
  | .exc c fs S1 => .exc c fs E S1
  | .bad => .bad
@[simp] theorem ev_par (is_ : List Nat) (a : MA) : sPar is_ a E S = kPar is_ E (a E S) := by
  unfold sPar kPar
  cases a E S <;> rfl
@[simp] theorem kpar2 (i j : Nat) (a b : D) : kPar [i, j] E (.ok [a, b] S) = .nx ((E.set i (some a)).set j (some b)) S := id rfl
@[simp] theorem kpar3 (i j k : Nat) (a b c : D) : kPar [i, j, k] E (.ok [a, b, c] S) = .nx (((E.set i (some a)).set j (some b)).set k (some c)) S := id rfl
@[simp] theorem bind_nm (i : Nat) : (Tg.nm i).bind d E = some (E.set i (some d)) := id rfl
@[simp] theorem bind_tp (ts : List Tg) : (Tg.tp ts).bind (.tup ds) E = Tg.binds ts ds E := id rfl
@[simp] theorem binds_nil : Tg.binds [] [] E = some E := id rfl
@[simp] theorem binds_cons (i : Nat) (ts : List Tg) : Tg.binds (.nm i :: ts) (d :: ds) E = Tg.binds ts ds (E.set i (some d)) := id rfl
@[simp] theorem binds_tp (us ts : List Tg) : Tg.binds (.tp us :: ts) (.tup xs :: ds) E = (Tg.binds us xs E).bind fun E1 => Tg.binds ts ds E1 := by
  simp only [Tg.binds, Tg.bind]
  cases Tg.binds us xs E <;> rfl
/-! o[i] = e -/
def kPut2 (x v : D) (E : Env) (k : D) (S : List D) : O := match putAt x k v S with
  | some S4 => .nx E S4
  | none => .bad
def kPut1 (i : ME) (v : D) (E : Env) (x : D) (S : List D) : O := (i E S).toO E (kPut2 x v E)
def kPut0 (o i : ME) (E : Env) (v : D) (S : List D) : O := (o E S).toO E (kPut1 i v E)
@[simp] theorem ev_put (o i e : ME) : sPut o i e E S = (e E S).toO E (kPut0 o i E) := id rfl
@[simp] theorem kput0 (o i : ME) : kPut0 o i E d S = (o E S).toO E (kPut1 i d E) := id rfl
@[simp] theorem kput1 (i : ME) (v : D) : kPut1 i v E x S = (i E S).toO E (kPut2 x v E) := id rfl
def kPA4 (x k : D) (E : Env) (v : D) (S : List D) : O := kPut2 x v E k S
def kPA3 (f : D → D → List D → R D) (x k y : D) (E : Env) (z : D) (S : List D) : O := (f y z S).toO E (kPA4 x k E)
def kPA2 (f : D → D → List D → R D) (e : ME) (x k : D) (E : Env) (y : D) (S : List D) : O := (e E S).toO E (kPA3 f x k y E)
def kPA1 (f : D → D → List D → R D) (e : ME) (x : D) (E : Env) (k : D) (S : List D) : O := (oIx x k S).toO E (kPA2 f e x k E)
def kPA0 (f : D → D → List D → R D) (i e : ME) (E : Env) (x : D) (S : List D) : O := (i E S).toO E (kPA1 f e x E)
@[simp] theorem ev_putAug (f : D → D → List D → R D) (o i e : ME) : sPutAug f o i e E S = (o E S).toO E (kPA0 f i e E) := id rfl
@[simp] theorem kpa0 (f : D → D → List D → R D) (i e : ME) : kPA0 f i e E x S = (i E S).toO E (kPA1 f e x E) := id rfl
@[simp] theorem kpa1 (f : D → D → List D → R D) (e : ME) : kPA1 f e x E y S = (oIx x y S).toO E (kPA2 f e x y E) := id rfl
@[simp] theorem kpa2 (f : D → D → List D → R D) (e : ME) : kPA2 f e x y E z S = (e E S).toO E (kPA3 f x y z E) := id rfl
@[simp] theorem kpa3 (f : D → D → List D → R D) (k v : D) : kPA3 f x y k E v S = (f k v S).toO E (kPA4 x y E) := id rfl
@[simp] theorem kpa4 (v : D) : kPA4 x y E v S = kPut2 x v E y S := id rfl
/-! operators by values -/
@[simp] theorem o_add (i j : Int) : oAdd (.int i) (.int j) S = .ok (.int (i + j)) S := id rfl
@[simp] theorem i_add (i j : Int) : iAdd (.int i) (.int j) S = .ok (.int (i + j)) S := id rfl
theorem o_addT (h : xs.length + ds.length ≤ SL) : oAdd (.tup xs) (.tup ds) S = .ok (.tup (xs ++ ds)) S := by simp [oAdd, h]
theorem o_addL {x y : D} (h1 : lstOf S x = some xs) (h2 : lstOf S y = some ds) (h : xs.length + ds.length ≤ SL) : oAdd x y S = .ok (.lst (xs ++ ds)) S := by
  unfold oAdd
  split
  · simp [lstOf] at h1
  · simp [lstOf] at h1
  · rw [h1, h2]; simp [h]
@[simp] theorem o_sub (i j : Int) : oSub (.int i) (.int j) S = .ok (.int (i - j)) S := id rfl
theorem o_mul {i j : Int} (h : smallI i = true ∨ smallI j = true) : oMul (.int i) (.int j) S = .ok (.int (i * j)) S := by simp [oMul, h]
theorem o_div {i j : Int} (h : 0 < j) (h2 : j < 1073741824) : oDiv (.int i) (.int j) S = .ok (.int (i / j)) S := by
  have : j ≠ 0 ∧ j.natAbs < 1073741824 := ⟨by omega, by omega⟩
  simp only [oDiv, if_pos this, Int.fdiv_eq_ediv_of_nonneg _ (Int.le_of_lt h)]
theorem o_mod {i j : Int} (h : 0 < j) : oMod (.int i) (.int j) S = .ok (.int (i % j)) S := by
  have : j ≠ 0 := by omega
  simp only [oMod, if_pos this, Int.fmod_eq_emod_of_nonneg _ (Int.le_of_lt h)]
@[simp] theorem o_lt (i j : Int) : oLt (.int i) (.int j) S = .ok (.bl (decide (i < j))) S := id rfl
@[simp] theorem o_le (i j : Int) : oLe (.int i) (.int j) S = .ok (.bl (decide (i ≤ j))) S := id rfl
@[simp] theorem o_gt (i j : Int) : oGt (.int i) (.int j) S = .ok (.bl (decide (j < i))) S := id rfl
@[simp] theorem o_ge (i j : Int) : oGe (.int i) (.int j) S = .ok (.bl (decide (j ≤ i))) S := id rfl
@[simp] theorem o_neg (i : Int) : oNeg (.int i) S = .ok (.int (-i)) S := id rfl
@[simp] theorem o_isN : oIsN x S = .ok (.bl x.isNon) S := id rfl
@[simp] theorem o_notN : oNotN x S = .ok (.bl (!x.isNon)) S := id rfl
theorem cmpOk_int (i : Int) : cmpOk (.int i) = true := rfl
@[simp] theorem o_eqI (i j : Int) : oEq (.int i) (.int j) S = .ok (.bl (decide (i = j))) S := id rfl
@[simp] theorem o_neI (i j : Int) : oNe (.int i) (.int j) S = .ok (.bl (!decide (i = j))) S := id rfl
theorem o_eq (h1 : cmpOk (seen S x) = true) (h2 : cmpOk (seen S y) = true) : oEq x y S = .ok (.bl (D.eqB (seen S x) (seen S y))) S := by simp [oEq, h1, h2]
theorem o_ne (h1 : cmpOk (seen S x) = true) (h2 : cmpOk (seen S y) = true) : oNe x y S = .ok (.bl (!D.eqB (seen S x) (seen S y))) S := by simp [oNe, h1, h2]
/-! subscripts -/
theorem atOf_nat {xs : List D} {i : Nat} {d : D} (h : xs[i]? = some d) : atOf xs (i : Int) = some d := by
  have hl := (List.getElem?_eq_some_iff.mp h).1
  have : ixOf xs.length (i : Int) = some i := by
    unfold ixOf
    rw [if_pos (by omega), if_pos (by omega)]
    simp
  simp [atOf, this, h]
@[simp] theorem atOf_nat' (xs : List D) (i : Nat) : atOf xs (i : Int) = xs[i]? := by
  cases h : xs[i]? with
  | some d => exact atOf_nat h
  | none =>
    have hl := List.getElem?_eq_none_iff.mp h
    have h2 : ixOf xs.length (i : Int) = none := by
      unfold ixOf
      rw [if_pos (by omega), if_neg (by omega)]
    unfold atOf
    rw [h2]
    rfl
@[simp] theorem at0 : atOf xs 0 = xs[0]? := atOf_nat' xs 0
@[simp] theorem at1 : atOf xs 1 = xs[1]? := atOf_nat' xs 1
@[simp] theorem at2 : atOf xs 2 = xs[2]? := atOf_nat' xs 2
@[simp] theorem at3 : atOf xs 3 = xs[3]? := atOf_nat' xs 3
@[simp] theorem at4 : atOf xs 4 = xs[4]? := atOf_nat' xs 4
theorem at_int {k : Int} (h : 0 ≤ k) : atOf xs k = xs[k.toNat]? := by
  obtain ⟨n, rfl⟩ := Int.eq_ofNat_of_zero_le h
  simp
@[simp] theorem at_last : atOf xs (-1) = xs.getLast? := by
  cases xs with
  | nil => rfl
  | cons d ds =>
    rw [List.getLast?_eq_getElem?]
    have : ixOf (d :: ds).length (-1) = some ((d :: ds).length - 1) := by
      unfold ixOf
      rw [if_neg (by omega), if_pos (by simp; omega)]
      congr 1
      simp
      omega
    unfold atOf
    rw [this]
    rfl
def okO (o : Option D) (S : List D) : R D := match o with
  | some d => .ok d S
  | none => .bad
@[simp] theorem okO_s : okO (some d) S = .ok d S := id rfl
def ixL (o : Option D) (k : Int) (S : List D) : R D := match o with
  | some (.lst xs) => okO (atOf xs k) S
  | some (.dct ks ds) => okO (getK ks ds (.inl k)) S
  | _ => .bad
@[simp] theorem ixL_l (k : Int) : ixL (some (.lst xs)) k S = okO (atOf xs k) S := id rfl
@[simp] theorem ixL_d (ks : List Ky) (k : Int) : ixL (some (.dct ks ds)) k S = okO (getK ks ds (.inl k)) S := id rfl
@[simp] theorem o_ixT (k : Int) : oIx (.tup xs) (.int k) S = okO (atOf xs k) S := by
  unfold oIx okO
  simp only [seqOf]
  all_goals (cases atOf xs k <;> rfl)
@[simp] theorem o_ixLs (k : Int) : oIx (.lst xs) (.int k) S = okO (atOf xs k) S := by
  unfold oIx okO
  simp only [seqOf]
  all_goals (cases atOf xs k <;> rfl)
@[simp] theorem o_ixR (k : Int) : oIx (.rdl xs) (.int k) S = okO (atOf xs k) S := by
  unfold oIx okO
  simp only [seqOf]
  all_goals (cases atOf xs k <;> rfl)
@[simp] theorem o_ixO (n : Nat) (k : Int) : oIx (.loc n) (.int k) S = ixL S[n]? k S := by
  unfold oIx ixL okO
  cases h : S[n]? with
  | none => simp only [seqOf, dctOf, h]
  | some v =>
    cases v with
    | lst xs =>
      simp only [seqOf, h]
      all_goals (cases atOf xs k <;> rfl)
    | dct ks ds =>
      simp only [seqOf, dctOf, keyOf, h]
      all_goals (cases getK ks ds (.inl k) <;> rfl)
    | _ => simp only [seqOf, dctOf, h]
/-! built-ins -/
@[simp] theorem b_int (i : Int) : bInt [.int i] S = .ok (.int i) S := id rfl
@[simp] theorem b_abs (i : Int) : bAbs [.int i] S = .ok (.int (if i < 0 then -i else i)) S := id rfl
@[simp] theorem b_tup2 (a b : D) : bTup [a, b] S = .ok (.tup [a, b]) S := id rfl
@[simp] theorem b_tup1 (a : D) : bTup [a] S = .ok (.tup [a]) S := id rfl
@[simp] theorem b_tup0 : bTup [] S = .ok (.tup []) S := id rfl
@[simp] theorem b_tup5 (a b c d e : D) : bTup [a, b, c, d, e] S = .ok (.tup [a, b, c, d, e]) S := id rfl
@[simp] theorem b_lst0 : bLst [] S = .ok (.lst []) S := id rfl
@[simp] theorem b_lst1 (a : D) : bLst [a] S = .ok (.lst [a]) S := id rfl
@[simp] theorem b_lst2 (a b : D) : bLst [a, b] S = .ok (.lst [a, b]) S := id rfl
@[simp] theorem b_lst3 (a b c : D) : bLst [a, b, c] S = .ok (.lst [a, b, c]) S := id rfl
@[simp] theorem b_lstL0 : bLstL [] S = .ok (.loc S.length) (S ++ [.lst []]) := id rfl
@[simp] theorem b_lstL1 (a : D) : bLstL [a] S = .ok (.loc S.length) (S ++ [.lst [a]]) := id rfl
@[simp] theorem b_lstL2 (a b : D) : bLstL [a, b] S = .ok (.loc S.length) (S ++ [.lst [a, b]]) := id rfl
@[simp] theorem b_lstL3 (a b c : D) : bLstL [a, b, c] S = .ok (.loc S.length) (S ++ [.lst [a, b, c]]) := id rfl
@[simp] theorem b_lstL4 (a b c d : D) : bLstL [a, b, c, d] S = .ok (.loc S.length) (S ++ [.lst [a, b, c, d]]) := id rfl
theorem b_len (h : seqOf S x = some xs) : bLen [x] S = .ok (.int xs.length) S := by simp [bLen, h]
@[simp] theorem b_lenT : bLen [.tup xs] S = .ok (.int xs.length) S := id rfl
@[simp] theorem b_lenL : bLen [.lst xs] S = .ok (.int xs.length) S := id rfl
@[simp] theorem b_lenR : bLen [.rdl xs] S = .ok (.int xs.length) S := id rfl
@[simp] theorem b_lenO (n : Nat) (h : S[n]? = some (.lst xs)) : bLen [.loc n] S = .ok (.int xs.length) S := by simp [bLen, seqOf, h]
@[simp] theorem b_tupleT : bTuple [.tup xs] S = .ok (.tup xs) S := id rfl
@[simp] theorem b_tupleL : bTuple [.lst xs] S = .ok (.tup xs) S := id rfl
def tupL (o : Option D) (S : List D) : R D := match o with
  | some (.lst xs) => .ok (.tup xs) S
  | _ => .bad
@[simp] theorem tupL_l : tupL (some (.lst xs)) S = .ok (.tup xs) S := id rfl
@[simp] theorem b_tupleO (n : Nat) : bTuple [.loc n] S = tupL S[n]? S := by
  unfold bTuple tupL
  cases h : S[n]? with
  | none => simp only [seqOf, h]
  | some v => cases v <;> simp only [seqOf, h]
@[simp] theorem b_listL : bListL [.tup xs] S = .ok (.loc S.length) (S ++ [.lst xs]) := id rfl
@[simp] theorem b_listL2 : bListL [.lst xs] S = .ok (.loc S.length) (S ++ [.lst xs]) := id rfl
def apL (o : Option D) (n : Nat) (y : D) (S : List D) : R D := match o with
  | some (.lst xs) => if xs.length < SL then .ok .non (S.set n (.lst (xs ++ [y]))) else .bad
  | _ => .bad
@[simp] theorem m_app (n : Nat) : mAppend (.loc n) [y] S = apL S[n]? n y S := by
  unfold apL
  cases h : S[n]? with
  | none => simp only [mAppend, h]
  | some v => cases v <;> simp only [mAppend, h]
@[simp] theorem apL_l (n : Nat) (hl : xs.length < SL) : apL (some (.lst xs)) n y S = .ok .non (S.set n (.lst (xs ++ [y]))) := by simp [apL, hl]
def kM1 (f : D → List D → List D → R D) (a : MA) (E : Env) (x : D) (S : List D) : R D := if (lstOf S x).isSome = true then (a E S).bind fun xs S2 => f x xs S2 else .bad
def kM2 (f : D → List D → List D → R D) (x : D) (xs : List D) (S : List D) : R D := f x xs S
@[simp] theorem ev_meth (f : D → List D → List D → R D) (o : ME) (a : MA) : eMeth f o a E S = (o E S).bind (kM1 f a E) := id rfl
def isL (o : Option D) : Bool := match o with
  | some (.lst _) => true
  | _ => false
@[simp] theorem isL_l : isL (some (.lst xs)) = true := id rfl
@[simp] theorem km1o {f : D → List D → List D → R D} {a : MA} {n : Nat} (h : isL S[n]? = true) : kM1 f a E (.loc n) S = (a E S).bind (fun xs S2 => f (.loc n) xs S2) := by
  unfold kM1
  rw [if_pos]
  cases h2 : S[n]? with
  | none => rw [h2] at h; cases h
  | some v => cases v <;> first | (rw [h2] at h; cases h; done) | simp only [lstOf, h2, Option.isSome]
@[simp] theorem km2 (f : D → List D → List D → R D) : kM2 f x xs S = f x xs S := id rfl
/-! slices -/
def kSl3 (x : D) (l h : Option Int) (S : List D) : R D := oSl x l h S
def kSl2 (hi : Option ME) (E : Env) (x : D) (l : Option Int) (S : List D) : R D := (ePart hi E S).bind fun h S3 => oSl x l h S3
def kSl1 (lo hi : Option ME) (E : Env) (x : D) (S : List D) : R D := (ePart lo E S).bind fun l S2 => (ePart hi E S2).bind fun h S3 => oSl x l h S3
@[simp] theorem ev_sl (a : ME) (lo hi : Option ME) : eSl a lo hi E S = (a E S).bind (kSl1 lo hi E) := id rfl
@[simp] theorem ksl1 (lo hi : Option ME) : kSl1 lo hi E x S = (ePart lo E S).bind (kSl2 hi E x) := id rfl
@[simp] theorem ksl2 (hi : Option ME) (l : Option Int) : kSl2 hi E x l S = (ePart hi E S).bind (kSl3 x l) := id rfl
@[simp] theorem ksl3 (l h : Option Int) : kSl3 x l h S = oSl x l h S := id rfl
@[simp] theorem part_none : ePart none E S = .ok none S := id rfl
def kPart (x : D) (S : List D) : R (Option Int) := match x with
  | .int i => .ok (some i) S
  | _ => .bad
@[simp] theorem part_some (m : ME) : ePart (some m) E S = (m E S).bind kPart := id rfl
@[simp] theorem kpart (i : Int) : kPart (.int i) S = .ok (some i) S := id rfl
@[simp] theorem o_slT (l h : Option Int) : oSl (.tup xs) l h S = .ok (.tup (cutOf xs l h)) S := id rfl
theorem cut_to {xs : List D} (k : Nat) : cutOf xs none (some (k : Int)) = xs.take k := by
  unfold cutOf sIxOf
  simp only [List.drop_zero, Nat.sub_zero]
  rw [if_neg (show ¬ ((k : Int) < 0) by omega), Int.toNat_natCast]
  by_cases h : k ≤ xs.length
  · rw [Nat.min_eq_left h]
  · rw [Nat.min_eq_right (by omega), List.take_of_length_le (Nat.le_refl _), List.take_of_length_le (by omega)]
theorem cut_from {xs : List D} (k : Nat) : cutOf xs (some (k : Int)) none = xs.drop k := by
  unfold cutOf sIxOf
  simp only
  rw [if_neg (show ¬ ((k : Int) < 0) by omega), Int.toNat_natCast]
  by_cases h : k ≤ xs.length
  · rw [Nat.min_eq_left h, List.take_of_length_le (by simp)]
  · rw [Nat.min_eq_right (by omega)]
    rw [List.drop_of_length_le (Nat.le_refl _), List.drop_of_length_le (by omega)]
    simp
/-! o[i] = v -/
def putL (o : Option D) (n : Nat) (k : Int) (v : D) (S : List D) : Option (List D) := match o with
  | some (.lst xs) => (ixOf xs.length k).map fun j => S.set n (.lst (xs.set j v))
  | some (.dct ks ds) => if ks.length < SL then some (S.set n (putAt.putK ks ds (.inl k) v)) else none
  | _ => none
@[simp] theorem put_loc (n : Nat) (k : Int) (v : D) : putAt (.loc n) (.int k) v S = putL S[n]? n k v S := by
  unfold putAt putL keyOf
  simp only
  cases h : S[n]? with
  | none => rfl
  | some w =>
    cases w with
    | lst xs =>
      simp only
      cases ixOf xs.length k <;> rfl
    | _ => rfl
@[simp] theorem putL_l (n : Nat) (k : Int) (v : D) : putL (some (.lst xs)) n k v S = (ixOf xs.length k).map fun j => S.set n (.lst (xs.set j v)) := id rfl
theorem ix_nat {n i : Nat} (h : i < n) : ixOf n (i : Int) = some i := by
  unfold ixOf
  rw [if_pos (by omega), if_pos (by omega)]
  simp
def kP (E : Env) (o : Option (List D)) : O := match o with
  | some S => .nx E S
  | none => .bad
@[simp] theorem kP_s : kP E (some S) = .nx E S := id rfl
@[simp] theorem kput2' {v k : D} : kPut2 x v E k S = kP E (putAt x k v S) := by
  unfold kPut2 kP
  cases putAt x k v S <;> rfl
@[simp] theorem toO_bad (k : D → List D → O) : (R.bad : R D).toO E k = .bad := id rfl
@[simp] theorem tO_bad (k : Bool → List D → O) : (R.bad : R Bool).tO E k = .bad := id rfl
@[simp] theorem wipe_nil : wipeE E [] = E := id rfl
@[simp] theorem wipe_cons (v : Nat) (vs : List Nat) : wipeE E (v :: vs) = (wipeE E vs).set v none := id rfl
/-! defs and calls -/
def kFn (n : Nat) : O → R D
  | .nx _ S1 => retF n .non S1
  | .rt d S1 => retF n d S1
  | .exc c fs _ S1 => excF n c fs S1
  | _ => .bad
theorem fn_ev (np nn : Nat) (b : MS) (h : ds.length = np) : fnF np nn b ds S = kFn S.length (b (ds.map some ++ List.replicate (nn - np) none) S) := by
  unfold fnF
  rw [if_pos h]
  cases b (ds.map some ++ List.replicate (nn - np) none) S <;> rfl
@[simp] theorem kfn_nx (n : Nat) : kFn n (.nx E S) = retF n .non S := id rfl
@[simp] theorem kfn_rt (n : Nat) : kFn n (.rt d S) = retF n d S := id rfl
theorem flats_all : ∀ ds : List D, D.flats ds = ds.all D.flat
  | [] => rfl
  | d :: ds => by simp [D.flats, flats_all ds]
theorem retF_flat (n : Nat) (h1 : n ≤ S.length) (h2 : (S.take n).all D.flat = true) (h3 : d.flat = true) : retF n d S = .ok d (S.take n) := by
  unfold retF
  rw [if_pos ⟨h1, h2⟩]
  simp [fz, h3]
@[simp] theorem retF_0 (h3 : d.flat = true) : retF 0 d S = .ok d [] := by
  rw [retF_flat 0 (Nat.zero_le _) rfl h3]
  rfl
@[simp] theorem retF_1 {s : D} (h3 : d.flat = true) (hs : s.flat = true) : retF 1 d (s :: S) = .ok d [s] := by
  rw [retF_flat 1 (by simp) (by simp [hs]) h3]
  rfl
theorem byRef_flat : ∀ (xs : List D) (k : Nat), D.flats xs = true → byRef xs k = some (xs, [])
  | [], _, _ => rfl
  | d :: r, k, h => by
    simp only [D.flats, Bool.and_eq_true] at h
    cases d with
    | loc n => simp [D.flat] at h
    | _ =>
      unfold byRef
      rw [if_pos h.1, byRef_flat r k h.2]
      rfl
def kC0 (S : List D) (r : R D) : R D := match r with
  | .ok d S' => if d.flat = true ∧ S'.length = 0 ∧ S'.all D.flat = true then .ok d S else .bad
  | .exc c fs S' => if S'.length = 0 ∧ S'.all D.flat = true ∧ fs.all (fun p => p.2.flat) = true then .exc c fs S else .bad
  | .bad => .bad
@[simp] theorem kc0 (h : d.flat = true) : kC0 S (.ok d []) = .ok d S := by simp [kC0, h]
theorem call0 (F : MF) (h : D.flats xs = true) : callF F xs S = kC0 S (F xs []) := by
  unfold callF kC0
  rw [byRef_flat xs 0 h]
  simp
  cases F xs [] with
  | ok d S' =>
    simp only
    by_cases hc : d.flat = true ∧ S' = [] ∧ ∀ x ∈ S', D.flat x = true
    · rw [if_pos hc]; simp [hc, setAll]
    · rw [if_neg hc]; simp at hc ⊢; intro a b; exact absurd (hc a b) (by subst b; simp)
  | exc c fs S' => 
    simp only
    cases S' <;> simp [setAll]
  | bad => rfl
def kC1 (n : Nat) (S : List D) (r : R D) : R D := match r with
  | .ok d S' => if d.flat = true ∧ S'.length = 1 ∧ S'.all D.flat = true then .ok d (setAll S [n] S') else .bad
  | .exc c fs S' => if S'.length = 1 ∧ S'.all D.flat = true ∧ fs.all (fun p => p.2.flat) = true then .exc c fs (setAll S [n] S') else .bad
  | .bad => .bad
@[simp] theorem kc1 {s : D} {n : Nat} (h : d.flat = true) (hs : s.flat = true) : kC1 n S (.ok d [s]) = .ok d (S.set n s) := by simp [kC1, h, hs, setAll]
theorem call1 (F : MF) {s : D} {n : Nat} (hS : S[n]? = some s) (hs : s.flat = true) (h : D.flats xs = true) : callF F (.loc n :: xs) S = kC1 n S (F (.loc 0 :: xs) [s]) := by
  have hb : byRef (.loc n :: xs) 0 = some (.loc 0 :: xs, [n]) := by
    unfold byRef
    rw [byRef_flat xs _ h]
    rfl
  unfold callF kC1
  rw [hb]
  simp only [List.mapM_cons, List.mapM_nil, hS]
  simp [hs]
  all_goals (cases F (.loc 0 :: xs) [s] <;> rfl)
@[simp] theorem call1' (F : MF) {s : D} (hs : s.flat = true) (h : D.flats xs = true) : callF F (.loc 0 :: xs) (s :: S) = kC1 0 (s :: S) (F (.loc 0 :: xs) [s]) := call1 F rfl hs h
@[simp] theorem callI (F : MF) (i : Int) (h : D.flats xs = true) : callF F (.int i :: xs) S = kC0 S (F (.int i :: xs) []) := call0 F (by simp [D.flats, D.flat, h])
@[simp] theorem callB (F : MF) (i : Bool) (h : D.flats xs = true) : callF F (.bl i :: xs) S = kC0 S (F (.bl i :: xs) []) := call0 F (by simp [D.flats, D.flat, h])
@[simp] theorem callT (F : MF) (h2 : D.flats ds = true) (h : D.flats xs = true) : callF F (.tup ds :: xs) S = kC0 S (F (.tup ds :: xs) []) := call0 F (by simp [D.flats, D.flat, h, h2])
@[simp] theorem callL (F : MF) (h2 : D.flats ds = true) (h : D.flats xs = true) : callF F (.lst ds :: xs) S = kC0 S (F (.lst ds :: xs) []) := call0 F (by simp [D.flats, D.flat, h, h2])
@[simp] theorem isNon_non : D.isNon .non = true := id rfl
@[simp] theorem isNon_int (i : Int) : D.isNon (.int i) = false := id rfl
@[simp] theorem isNon_tup (ds : List D) : D.isNon (.tup ds) = false := id rfl
@[simp] theorem isNon_lst (ds : List D) : D.isNon (.lst ds) = false := id rfl
@[simp] theorem fl_non : D.flat .non = true := id rfl
@[simp] theorem fl_bl (b : Bool) : D.flat (.bl b) = true := id rfl
@[simp] theorem fl_int (i : Int) : D.flat (.int i) = true := id rfl
@[simp] theorem fl_str (i : Str) : D.flat (.str i) = true := id rfl
@[simp] theorem fl_ty (i : String) : D.flat (.ty i) = true := id rfl
@[simp] theorem fl_tup (ds : List D) : D.flat (.tup ds) = D.flats ds := id rfl
@[simp] theorem fl_lst (ds : List D) : D.flat (.lst ds) = D.flats ds := id rfl
@[simp] theorem fl_rdl (ds : List D) : D.flat (.rdl ds) = D.flats ds := id rfl
@[simp] theorem fl_dct (ks : List Ky) (ds : List D) : D.flat (.dct ks ds) = D.flats ds := id rfl
@[simp] theorem fl_loc (n : Nat) : D.flat (.loc n) = false := id rfl
@[simp] theorem fls_nil : D.flats [] = true := id rfl
@[simp] theorem fls_cons (d : D) (ds : List D) : D.flats (d :: ds) = (d.flat && D.flats ds) := id rfl
@[simp] theorem flats_app : ∀ xs ys : List D, D.flats (xs ++ ys) = (D.flats xs && D.flats ys)
  | [], ys => by simp
  | x :: xs, ys => by simp [flats_app xs ys, Bool.and_assoc]
theorem flats_map {α : Type} (e : α → D) (h : ∀ a, (e a).flat = true) : ∀ xs : List α, D.flats (xs.map e) = true
  | [] => rfl
  | x :: xs => by simp [h, flats_map e h xs]
@[simp] theorem flats_ints (ns : List Int) : D.flats (ns.map D.int) = true := flats_map _ (fun _ => rfl) ns
/-! no steps within what stands behind -/
end J
set_option linter.all false
set_option maxRecDepth 100000
/-! Loops, comprehensions: by what is gone over. -/
namespace J
open PySem (Str)
variable {E : Env} {S : List D} {d x y z : D} {ds xs : List D}
structure Src.Is (src : Src) (S : List D) (ds : List D) : Prop where
  len : src.len = ds.length
  at_ : ∀ i, i < ds.length → src.at_ S i = ds[i]?
  alive : src.alive S = true
theorem is_its (ds S : List D) : (Src.its ds).Is S ds := ⟨rfl, fun _ _ => rfl, rfl⟩
theorem is_rng (lo : Int) (n : Nat) (S : List D) : (Src.rng lo n).Is S ((List.range n).map fun i => .int (lo + (i : Nat))) := ⟨by simp [Src.rng], fun i h => by simp at h; simp [Src.rng, h], rfl⟩
theorem is_enum {src : Src} (h : src.Is S ds) : src.enum.Is S (ds.mapIdx fun i d => .tup [.int (i : Nat), d]) := by
  refine ⟨by simp [Src.enum, h.len], fun i hi => ?_, h.alive⟩
  simp at hi
  simp [Src.enum, h.at_ i hi, hi]
theorem is_live {n : Nat} (h : S[n]? = some (.lst ds)) : (Src.live n ds.length).Is S ds := ⟨rfl, fun i _ => by simp [Src.live, h], by simp [Src.live, h]⟩
/-! steps to a loop -/
@[simp] theorem src_tup : srcOf S (.tup ds) = some (.its ds) := id rfl
@[simp] theorem src_lst : srcOf S (.lst ds) = some (.its ds) := id rfl
@[simp] theorem src_rdl : srcOf S (.rdl ds) = some (.its ds) := id rfl
theorem src_loc {n : Nat} (h : S[n]? = some (.lst ds)) : srcOf S (.loc n) = some (.live n ds.length) := by simp [srcOf, h]
def kSrc (o : Option Src) (S : List D) : R Src := match o with
  | some s => .ok s S
  | none => .bad
@[simp] theorem kSrc_s (s : Src) : kSrc (some s) S = .ok s S := id rfl
def kSeqI (x : D) (S : List D) : R Src := kSrc (srcOf S x) S
@[simp] theorem ev_iseq (a : ME) : iSeq a E S = (a E S).bind kSeqI := by
  unfold iSeq kSeqI kSrc
  cases a E S <;> rfl
@[simp] theorem kseqi : kSeqI x S = kSrc (srcOf S x) S := id rfl
def kEnum1 (o : Option Src) (S : List D) : R Src := match o with
  | some s => .ok s.enum S
  | none => .bad
@[simp] theorem kEnum_s (s : Src) : kEnum1 (some s) S = .ok s.enum S := id rfl
def kEnum (x : D) (S : List D) : R Src := kEnum1 (srcOf S x) S
@[simp] theorem ev_ienum (a : ME) : iEnum a E S = (a E S).bind kEnum := by
  unfold iEnum kEnum kEnum1
  cases a E S <;> rfl
@[simp] theorem kenum : kEnum x S = kEnum1 (srcOf S x) S := id rfl
def kZip2 (x y : D) (S : List D) : R Src := match srcOf S x, srcOf S y with
  | some s, some t => .ok (s.zip t) S
  | _, _ => .bad
def kZip1 (b : ME) (E : Env) (x : D) (S : List D) : R Src := (b E S).bind (kZip2 x)
@[simp] theorem ev_izip (a b : ME) : iZip a b E S = (a E S).bind (kZip1 b E) := id rfl
@[simp] theorem kzip1 (b : ME) : kZip1 b E x S = (b E S).bind (kZip2 x) := id rfl
@[simp] theorem kzip2 : kZip2 (.tup ds) (.tup xs) S = .ok ((Src.its ds).zip (.its xs)) S := id rfl
def kRng1 (x : D) (S : List D) : R Src := match x with
  | .int j => if okR j = true then .ok (.rng 0 j.toNat) S else .bad
  | _ => .bad
@[simp] theorem ev_rng1 (a : ME) : iRng1 a E S = (a E S).bind kRng1 := id rfl
theorem krng1 {j : Int} (h : 0 ≤ j) (h2 : j < 4611686018427387904) : kRng1 (.int j) S = .ok (.rng 0 j.toNat) S := by
  have : okR j = true := by simp [okR]; omega
  simp [kRng1, this]
theorem krng1n {j : Nat} (h2 : j < 1000000) : kRng1 (.int (j : Int)) S = .ok (.rng 0 j) S := by
  rw [krng1 (by omega) (by omega)]
  simp
def kRng3 (x y : D) (S : List D) : R Src := match x, y with
  | .int i, .int j => if okR i = true ∧ okR j = true then .ok (.rng i (j - i).toNat) S else .bad
  | _, _ => .bad
def kRng2 (b : ME) (E : Env) (x : D) (S : List D) : R Src := (b E S).bind (kRng3 x)
@[simp] theorem ev_rng2 (a b : ME) : iRng2 a b E S = (a E S).bind (kRng2 b E) := id rfl
@[simp] theorem krng2 (b : ME) : kRng2 b E x S = (b E S).bind (kRng3 x) := id rfl
theorem krng3 {i j : Int} (h : okR i = true) (h2 : okR j = true) : kRng3 (.int i) (.int j) S = .ok (.rng i (j - i).toNat) S := by simp [kRng3, h, h2]
def kFor (t : Tg) (b : MS) (E : Env) : R Src → O
  | .ok src S1 => forGo src t b S1.length src.len 0 E S1
  | .exc c fs S1 => .exc c fs E S1
  | .bad => .bad
@[simp] theorem ev_for (t : Tg) (m : MI) (b : MS) : sFor t m b E S = kFor t b E (m E S) := by
  unfold sFor kFor
  cases m E S <;> rfl
def forS (src : Src) (t : Tg) (b : MS) (E : Env) (S : List D) : O := forGo src t b S.length src.len 0 E S
@[simp] theorem kfor (t : Tg) (b : MS) (src : Src) : kFor t b E (.ok src S) = forS src t b E S := id rfl
def Turn (t : Tg) (b : MS) (n : Nat) (d : D) (E : Env) (S : List D) (Q : Env → List D → Prop) : Prop :=
  ∃ E1 E2 S2 E3 S3, t.bind d E = some E1 ∧ (b E1 S = .nx E2 S2 ∨ b E1 S = .ct E2 S2) ∧ gcE n E2 S2 = some (E3, S3) ∧ Q E3 S3
theorem forGo_inv {src : Src} {t : Tg} {b : MS} {n : Nat} (ds : List D) (I : Nat → Env → List D → Prop)
    (hi : ∀ i E S, I i E S → src.Is S ds)
    (hs : ∀ i d E S, I i E S → ds[i]? = some d → Turn t b n d E S (I (i + 1))) :
    ∀ (k i : Nat) (E : Env) (S : List D), i + k = ds.length → I i E S → ∃ E' S', forGo src t b n k i E S = .nx E' S' ∧ I ds.length E' S' := by
  intro k
  induction k with
  | zero =>
    intro i E S hk h
    have hik : i = ds.length := by omega
    subst hik
    refine ⟨E, S, ?_, h⟩
    unfold forGo
    rw [if_pos (hi _ _ _ h).alive]
  | succ k ih =>
    intro i E S hk h
    have hlt : i < ds.length := by omega
    obtain ⟨E1, E2, S2, E3, S3, h1, h2, h3, h4⟩ := hs i ds[i] E S h (by simp [hlt])
    obtain ⟨E', S', h5, h6⟩ := ih (i + 1) E3 S3 (by omega) h4
    refine ⟨E', S', ?_, h6⟩
    unfold forGo
    rw [if_pos (hi _ _ _ h).alive, (hi _ _ _ h).at_ i hlt]
    simp only [hlt, List.getElem?_eq_getElem, h1]
    rcases h2 with h2 | h2 <;> simp only [h2, h3, h5]
theorem for_inv {src : Src} {t : Tg} {b : MS} {E : Env} {S : List D} (ds : List D) (I : Nat → Env → List D → Prop)
    (h0 : I 0 E S) (hi : ∀ i E S, I i E S → src.Is S ds)
    (hs : ∀ i d E S' , I i E S' → ds[i]? = some d → Turn t b S.length d E S' (I (i + 1))) :
    ∃ E' S', forS src t b E S = .nx E' S' ∧ I ds.length E' S' := by
  unfold forS
  rw [(hi 0 E S h0).len]
  exact forGo_inv ds I hi hs ds.length 0 E S (by omega) h0
def TurnR (t : Tg) (b : MS) (n : Nat) (d : D) (E : Env) (S : List D) (Q : Env → List D → Prop) (Rq : D → List D → Prop) : Prop :=
  Turn t b n d E S Q ∨ ∃ E1 v S2, t.bind d E = some E1 ∧ b E1 S = .rt v S2 ∧ Rq v S2
theorem forGo_ret {src : Src} {t : Tg} {b : MS} {n : Nat} (ds : List D) (I : Nat → Env → List D → Prop) (Rq : D → List D → Prop)
    (hi : ∀ i E S, I i E S → src.Is S ds)
    (hs : ∀ i d E S, I i E S → ds[i]? = some d → TurnR t b n d E S (I (i + 1)) Rq) :
    ∀ (k i : Nat) (E : Env) (S : List D), i + k = ds.length → I i E S → (∃ E' S', forGo src t b n k i E S = .nx E' S' ∧ I ds.length E' S') ∨ ∃ v S', forGo src t b n k i E S = .rt v S' ∧ Rq v S' := by
  intro k
  induction k with
  | zero =>
    intro i E S hk h
    have hik : i = ds.length := by omega
    subst hik
    refine .inl ⟨E, S, ?_, h⟩
    unfold forGo
    rw [if_pos (hi _ _ _ h).alive]
  | succ k ih =>
    intro i E S hk h
    have hlt : i < ds.length := by omega
    unfold forGo
    rw [if_pos (hi _ _ _ h).alive, (hi _ _ _ h).at_ i hlt]
    rcases hs i ds[i] E S h (by simp [hlt]) with ⟨E1, E2, S2, E3, S3, h1, h2, h3, h4⟩ | ⟨E1, v, S2, h1, h2, h3⟩
    · have h5 := ih (i + 1) E3 S3 (by omega) h4
      simp only [hlt, List.getElem?_eq_getElem, h1]
      rcases h2 with h2 | h2 <;> simp only [h2, h3] <;> exact h5
    · right
      exact ⟨v, S2, by simp only [hlt, List.getElem?_eq_getElem, h1, h2], h3⟩
theorem rng_ret {lo : Int} {n : Nat} {t : Tg} {b : MS} {E : Env} {S : List D} (I : Nat → Env → List D → Prop) (Rq : D → List D → Prop) (h0 : I 0 E S)
    (hs : ∀ i E S', i < n → I i E S' → TurnR t b S.length (.int (lo + (i : Nat))) E S' (I (i + 1)) Rq) : (∃ E' S', forS (Src.rng lo n) t b E S = .nx E' S' ∧ I n E' S') ∨ ∃ v S', forS (Src.rng lo n) t b E S = .rt v S' ∧ Rq v S' := by
  have := forGo_ret (src := Src.rng lo n) (t := t) (b := b) (n := S.length) ((List.range n).map fun i => D.int (lo + (i : Nat))) I Rq (fun _ _ S _ => is_rng lo n S) (fun i d E S' h hd => by
    obtain ⟨hi, rfl⟩ := List.getElem?_eq_some_iff.mp hd
    simp only [List.getElem_map, List.getElem_range]
    exact hs i E S' (by simpa using hi) h) n 0 E S (by simp) h0
  rw [show ((List.range n).map fun i => D.int (lo + (i : Nat))).length = n by simp] at this
  exact this
theorem for_rng {lo : Int} {n : Nat} {t : Tg} {b : MS} {E : Env} {S : List D} (I : Nat → Env → List D → Prop) (h0 : I 0 E S)
    (hs : ∀ i E S', i < n → I i E S' → Turn t b S.length (.int (lo + (i : Nat))) E S' (I (i + 1))) : ∃ E' S', forS (Src.rng lo n) t b E S = .nx E' S' ∧ I n E' S' := by
  obtain ⟨E', S', h1, h2⟩ := for_inv ((List.range n).map fun i => D.int (lo + (i : Nat))) I h0 (fun _ _ S _ => is_rng lo n S) (fun i d E S' h hd => by
    obtain ⟨hi, rfl⟩ := List.getElem?_eq_some_iff.mp hd
    simp only [List.getElem_map, List.getElem_range]
    exact hs i E S' (by simpa using hi) h)
  exact ⟨E', S', h1, by simpa using h2⟩
theorem for_its {α : Type} (xs : List α) (enc : α → D) {t : Tg} {b : MS} {E : Env} {S : List D} (I : Nat → Env → List D → Prop) (h0 : I 0 E S)
    (hs : ∀ i E S' (h : i < xs.length), I i E S' → Turn t b S.length (enc xs[i]) E S' (I (i + 1))) : ∃ E' S', forS (Src.its (xs.map enc)) t b E S = .nx E' S' ∧ I xs.length E' S' := by
  obtain ⟨E', S', h1, h2⟩ := for_inv (xs.map enc) I h0 (fun _ _ S _ => is_its _ S) (fun i d E S' h hd => by
    obtain ⟨hi, rfl⟩ := List.getElem?_eq_some_iff.mp hd
    simp only [List.getElem_map]
    exact hs i E S' (by simpa using hi) h)
  exact ⟨E', S', h1, by simpa using h2⟩
theorem for_live {α : Type} (xs : List α) (enc : α → D) {n : Nat} {t : Tg} {b : MS} {E : Env} {S : List D} (I : Nat → Env → List D → Prop) (h0 : I 0 E S)
    (hi : ∀ i E S, I i E S → S[n]? = some (.lst (xs.map enc)))
    (hs : ∀ i E S' (h : i < xs.length), I i E S' → Turn t b S.length (enc xs[i]) E S' (I (i + 1))) : ∃ E' S', forS (Src.live n xs.length) t b E S = .nx E' S' ∧ I xs.length E' S' := by
  obtain ⟨E', S', h1, h2⟩ := for_inv (src := Src.live n xs.length) (xs.map enc) I h0 (fun i E S h => by have := is_live (hi i E S h); simpa using this) (fun i d E S' h hd => by
    obtain ⟨hi, rfl⟩ := List.getElem?_eq_some_iff.mp hd
    simp only [List.getElem_map]
    exact hs i E S' (by simpa using hi) h)
  exact ⟨E', S', h1, by simpa using h2⟩
theorem for_enum {α : Type} (xs : List α) (enc : α → D) {t : Tg} {b : MS} {E : Env} {S : List D} (I : Nat → Env → List D → Prop) (h0 : I 0 E S)
    (hs : ∀ i E S' (h : i < xs.length), I i E S' → Turn t b S.length (.tup [.int (i : Nat), enc xs[i]]) E S' (I (i + 1))) : ∃ E' S', forS (Src.enum (Src.its (xs.map enc))) t b E S = .nx E' S' ∧ I xs.length E' S' := by
  obtain ⟨E', S', h1, h2⟩ := for_inv ((xs.map enc).mapIdx fun i d => D.tup [.int (i : Nat), d]) I h0 (fun _ _ S _ => is_enum (is_its _ S)) (fun i d E S' h hd => by
    obtain ⟨hi, rfl⟩ := List.getElem?_eq_some_iff.mp hd
    simp only [List.getElem_mapIdx, List.getElem_map]
    exact hs i E S' (by simpa using hi) h)
  exact ⟨E', S', h1, by simpa using h2⟩
/-! a turn at which nothing new is left -/
theorem gc_same {n : Nat} (h : S.length = n) : gcE n E S = some (E, S) := by
  unfold gcE
  rw [if_pos h]
theorem turn_nx {t : Tg} {b : MS} {n : Nat} {E1 E2 : Env} {S2 : List D} {Q : Env → List D → Prop} (h1 : t.bind d E = some E1) (h2 : b E1 S = .nx E2 S2) (h3 : S2.length = n) (h4 : Q E2 S2) : Turn t b n d E S Q :=
  ⟨E1, E2, S2, E2, S2, h1, .inl h2, gc_same h3, h4⟩
/-! comprehensions -/
def kLc (w : Bool) (own : List Nat) (t : Tg) (c : MT) (e : ME) (E : Env) : R Src → R D
  | .ok src S1 => if src.len ≤ SL then (lcGo src t c e (wipeE E own) S1.length src.len 0 [] S1).bind fun acc S1 => if w = true then .ok (.loc S1.length) (S1 ++ [.lst acc]) else .ok (.lst acc) S1 else .bad
  | .exc c fs S1 => .exc c fs S1
  | .bad => .bad
def lcS (w : Bool) (src : Src) (own : List Nat) (t : Tg) (c : MT) (e : ME) (E : Env) (S : List D) : R D := kLc w own t c e E (.ok src S)
@[simp] theorem klc (w : Bool) (src : Src) (own : List Nat) (t : Tg) (c : MT) (e : ME) : kLc w own t c e E (.ok src S) = lcS w src own t c e E S := id rfl
@[simp] theorem ev_lc (own : List Nat) (t : Tg) (m : MI) (c : MT) (e : ME) : eLc own t m c e E S = kLc false own t c e E (m E S) := by
  unfold eLc kLc lcRun
  cases m E S with
  | ok src S1 =>
    simp only
    by_cases h : src.len ≤ SL
    · rw [if_pos h, if_pos h]; rfl
    · rw [if_neg h, if_neg h]; rfl
  | exc c fs S1 => rfl
  | bad => rfl
@[simp] theorem ev_lcL (own : List Nat) (t : Tg) (m : MI) (c : MT) (e : ME) : eLcL own t m c e E S = kLc true own t c e E (m E S) := by
  unfold eLcL kLc lcRun
  cases m E S with
  | ok src S1 =>
    simp only
    by_cases h : src.len ≤ SL
    · rw [if_pos h, if_pos h]; rfl
    · rw [if_neg h, if_neg h]; rfl
  | exc c fs S1 => rfl
  | bad => rfl
theorem lcGo_invN {src : Src} {t : Tg} {c : MT} {e : ME} {n : Nat} (ds : List D) (I : Nat → List D → List D → Prop)
    (hi : ∀ i acc S, I i acc S → src.Is S ds)
    (hs : ∀ i d acc S, I i acc S → ds[i]? = some d → ∃ E1, t.bind d E = some E1 ∧ ((∃ S1, c E1 S = .ok false S1 ∧ n ≤ S1.length ∧ I (i + 1) acc S1) ∨ ∃ S1 x S2, c E1 S = .ok true S1 ∧ e E1 S1 = .ok x S2 ∧ n ≤ S2.length ∧ I (i + 1) (acc ++ [x]) S2)) :
    ∀ (k i : Nat) (acc : List D) (S : List D), i + k = ds.length → I i acc S → ∃ acc' S', lcGo src t c e E n k i acc S = .ok acc' S' ∧ I ds.length acc' S' := by
  intro k
  induction k with
  | zero =>
    intro i acc S hk h
    have hik : i = ds.length := by omega
    subst hik
    refine ⟨acc, S, ?_, h⟩
    unfold lcGo
    rw [if_pos (hi _ _ _ h).alive]
  | succ k ih =>
    intro i acc S hk h
    have hlt : i < ds.length := by omega
    obtain ⟨E1, h1, h2⟩ := hs i ds[i] acc S h (by simp [hlt])
    unfold lcGo
    rw [if_pos (hi _ _ _ h).alive, (hi _ _ _ h).at_ i hlt]
    simp only [hlt, List.getElem?_eq_getElem, h1]
    rcases h2 with ⟨S1, h2, h3, h4⟩ | ⟨S1, x, S2, h2, h3, h4, h5⟩
    · simp only [h2, if_pos h3]
      exact ih (i + 1) acc S1 (by omega) h4
    · simp only [h2, h3, if_pos h4]
      exact ih (i + 1) (acc ++ [x]) S2 (by omega) h5
theorem lc_invN {src : Src} {own : List Nat} {t : Tg} {c : MT} {e : ME} (ds : List D) (I : Nat → List D → List D → Prop) (hl : ds.length ≤ SL) (h0 : I 0 [] S)
    (hi : ∀ i acc S, I i acc S → src.Is S ds)
    (hs : ∀ i d acc S', I i acc S' → ds[i]? = some d → ∃ E1, t.bind d (wipeE E own) = some E1 ∧ ((∃ S1, c E1 S' = .ok false S1 ∧ S.length ≤ S1.length ∧ I (i + 1) acc S1) ∨ ∃ S1 x S2, c E1 S' = .ok true S1 ∧ e E1 S1 = .ok x S2 ∧ S.length ≤ S2.length ∧ I (i + 1) (acc ++ [x]) S2)) :
    ∃ acc S', lcS false src own t c e E S = .ok (.lst acc) S' ∧ I ds.length acc S' := by
  obtain ⟨acc, S', h1, h2⟩ := lcGo_invN ds I hi hs ds.length 0 [] S (by omega) h0
  refine ⟨acc, S', ?_, h2⟩
  unfold lcS kLc
  simp only [(hi _ _ _ h0).len, if_pos hl, h1]
  rfl
theorem lcGo_inv {src : Src} {t : Tg} {c : MT} {e : ME} {n : Nat} (ds : List D) (I : Nat → List D → List D → Prop)
    (hi : ∀ i acc S, I i acc S → src.Is S ds)
    (hs : ∀ i d acc S, I i acc S → ds[i]? = some d → ∃ E1, t.bind d E = some E1 ∧ ((∃ S1, c E1 S = .ok false S1 ∧ S1.length = n ∧ I (i + 1) acc S1) ∨ ∃ S1 x S2, c E1 S = .ok true S1 ∧ e E1 S1 = .ok x S2 ∧ S2.length = n ∧ I (i + 1) (acc ++ [x]) S2)) :
    ∀ (k i : Nat) (acc : List D) (S : List D), i + k = ds.length → I i acc S → ∃ acc' S', lcGo src t c e E n k i acc S = .ok acc' S' ∧ I ds.length acc' S' :=
  lcGo_invN ds I hi fun i d acc S h e => by
    obtain ⟨E1, h1, h2⟩ := hs i d acc S h e
    refine ⟨E1, h1, h2.imp (fun ⟨S1, a, b, c⟩ => ⟨S1, a, Nat.le_of_eq b.symm, c⟩) fun ⟨S1, x, S2, a, b, c, d⟩ => ⟨S1, x, S2, a, b, Nat.le_of_eq c.symm, d⟩⟩
theorem lc_inv {src : Src} {own : List Nat} {t : Tg} {c : MT} {e : ME} (ds : List D) (I : Nat → List D → List D → Prop) (hl : ds.length ≤ SL) (h0 : I 0 [] S)
    (hi : ∀ i acc S, I i acc S → src.Is S ds)
    (hs : ∀ i d acc S', I i acc S' → ds[i]? = some d → ∃ E1, t.bind d (wipeE E own) = some E1 ∧ ((∃ S1, c E1 S' = .ok false S1 ∧ S1.length = S.length ∧ I (i + 1) acc S1) ∨ ∃ S1 x S2, c E1 S' = .ok true S1 ∧ e E1 S1 = .ok x S2 ∧ S2.length = S.length ∧ I (i + 1) (acc ++ [x]) S2)) :
    ∃ acc S', lcS false src own t c e E S = .ok (.lst acc) S' ∧ I ds.length acc S' := by
  obtain ⟨acc, S', h1, h2⟩ := lcGo_inv ds I hi hs ds.length 0 [] S (by omega) h0
  refine ⟨acc, S', ?_, h2⟩
  unfold lcS kLc
  simp only [(hi _ _ _ h0).len, if_pos hl, h1]
  rfl
theorem lcGo_eq {α : Type} {src : Src} {t : Tg} {c : MT} {e : ME} (xs : List α) (enc : α → D) (p : α → Bool) (f : α → D) (hi : src.Is S (xs.map enc))
    (hs : ∀ a, a ∈ xs → ∃ E1, t.bind (enc a) E = some E1 ∧ c E1 S = .ok (p a) S ∧ (p a = true → e E1 S = .ok (f a) S)) :
    ∀ (k i : Nat) (acc : List D), i + k = xs.length → lcGo src t c e E S.length k i acc S = .ok (acc ++ ((xs.drop i).filter p).map f) S := by
  intro k
  induction k with
  | zero =>
    intro i acc hk
    unfold lcGo
    rw [if_pos hi.alive, List.drop_of_length_le (by omega)]
    simp
  | succ k ih =>
    intro i acc hk
    have hlt : i < xs.length := by omega
    obtain ⟨E1, h1, h2, h3⟩ := hs xs[i] (List.getElem_mem hlt)
    unfold lcGo
    rw [if_pos hi.alive, hi.at_ i (by simpa using hlt)]
    simp only [List.getElem?_map, hlt, List.getElem?_eq_getElem, Option.map_some, h1, h2]
    rw [List.drop_eq_getElem_cons hlt]
    cases hp : p xs[i] with
    | true =>
      simp only [if_true, h3 hp, ih (i + 1) _ (by omega)]
      rw [if_pos (Nat.le_refl _), List.filter_cons_of_pos hp, List.map_cons, List.append_assoc]
      rfl
    | false =>
      simp only [ih (i + 1) _ (by omega)]
      rw [if_neg Bool.false_ne_true, if_pos (Nat.le_refl _), List.filter_cons_of_neg (by simp [hp])]
theorem lc_eq {α : Type} {w : Bool} {src : Src} {own : List Nat} {t : Tg} {c : MT} {e : ME} (xs : List α) (enc : α → D) (p : α → Bool) (f : α → D) (hl : xs.length ≤ SL) (hi : src.Is S (xs.map enc))
    (hs : ∀ a, a ∈ xs → ∃ E1, t.bind (enc a) (wipeE E own) = some E1 ∧ c E1 S = .ok (p a) S ∧ (p a = true → e E1 S = .ok (f a) S)) :
    lcS w src own t c e E S = if w = true then .ok (.loc S.length) (S ++ [.lst ((xs.filter p).map f)]) else .ok (.lst ((xs.filter p).map f)) S := by
  unfold lcS kLc
  have hn : src.len = xs.length := by rw [hi.len]; simp
  simp only [hn, if_pos hl]
  rw [lcGo_eq xs enc p f hi hs xs.length 0 [] (by omega)]
  simp
/-! while -/
def kWh (t : MT) (b : MS) (n k : Nat) : O → O
  | .nx E2 S2 => match gcE n E2 S2 with
    | some (E3, S3) => whileGo t b n k E3 S3
    | none => .bad
  | .ct E2 S2 => match gcE n E2 S2 with
    | some (E3, S3) => whileGo t b n k E3 S3
    | none => .bad
  | .bk E2 S2 => .nx E2 S2
  | o => o
def whS (fuel : Nat) (t : MT) (b : MS) (E : Env) (S : List D) : O := whileGo t b S.length fuel E S
@[simp] theorem ev_while (fuel : Nat) (t : MT) (b : MS) : sWhile fuel t b E S = whS fuel t b E S := id rfl
theorem whileGo_inv {t : MT} {b : MS} {n : Nat} (I : Nat → Env → List D → Prop) (Q : Env → List D → Prop)
    (hs : ∀ m E S, I m E S → (t E S = .ok false S ∧ Q E S) ∨ (t E S = .ok true S ∧ ∃ E2 S2 E3 S3 m', (b E S = .nx E2 S2 ∨ b E S = .ct E2 S2) ∧ gcE n E2 S2 = some (E3, S3) ∧ m' < m ∧ I m' E3 S3)) :
    ∀ (k m : Nat) (E : Env) (S : List D), m < k → I m E S → ∃ E' S', whileGo t b n k E S = .nx E' S' ∧ Q E' S' := by
  intro k
  induction k with
  | zero => intro m E S h; omega
  | succ k ih =>
    intro m E S hm h
    rcases hs m E S h with ⟨h1, h2⟩ | ⟨h1, E2, S2, E3, S3, m', h2, h3, h4, h5⟩
    · refine ⟨E, S, ?_, h2⟩
      unfold whileGo
      simp [h1]
    · obtain ⟨E', S', h6, h7⟩ := ih m' E3 S3 (by omega) h5
      refine ⟨E', S', ?_, h7⟩
      unfold whileGo
      simp only [h1, tO_ok, if_true]
      rcases h2 with h2 | h2 <;> simp only [h2, h3, h6]
end J
set_option linter.all false
set_option maxRecDepth 100000
namespace J
theorem its_ret {α : Type} (xs : List α) (enc : α → D) {t : Tg} {b : MS} {E : Env} {S : List D} (I : Nat → Env → List D → Prop) (Rq : D → List D → Prop) (h0 : I 0 E S)
    (hs : ∀ i E S' (h : i < xs.length), I i E S' → TurnR t b S.length (enc xs[i]) E S' (I (i + 1)) Rq) : (∃ E' S', forS (Src.its (xs.map enc)) t b E S = .nx E' S' ∧ I xs.length E' S') ∨ ∃ v S', forS (Src.its (xs.map enc)) t b E S = .rt v S' ∧ Rq v S' := by
  have := forGo_ret (src := Src.its (xs.map enc)) (t := t) (b := b) (n := S.length) (xs.map enc) I Rq (fun _ _ S _ => is_its _ S) (fun i d E S' h hd => by
    obtain ⟨hi, rfl⟩ := List.getElem?_eq_some_iff.mp hd
    simp only [List.getElem_map]
    exact hs i E S' (by simpa using hi) h) xs.length 0 E S (by simp) h0
  rw [show (xs.map enc).length = xs.length by simp] at this
  unfold forS
  rw [show (Src.its (xs.map enc)).len = xs.length from by simp [Src.its]]
  exact this
@[simp] theorem b_max2 (i j : Int) (S : List D) : bMax2 [.int i, .int j] S = .ok (.int (if j > i then j else i)) S := id rfl
@[simp] theorem b_min2 (i j : Int) (S : List D) : bMin2 [.int i, .int j] S = .ok (.int (if j < i then j else i)) S := id rfl
@[simp] theorem b_max3 (i j k : Int) (S : List D) : bMax3 [.int i, .int j, .int k] S = .ok (.int (if k > (if j > i then j else i) then k else (if j > i then j else i))) S := id rfl
def popL (o : Option D) (n : Nat) (S : List D) : R D := match o with
  | some (.lst xs) => match xs[xs.length - 1]? with
    | some y => .ok y (S.set n (.lst xs.dropLast))
    | none => .bad
  | _ => .bad
@[simp] theorem m_pop (n : Nat) (S : List D) : mPop (.loc n) [] S = popL S[n]? n S := by
  unfold popL
  cases h : S[n]? with
  | none => simp only [mPop, h]
  | some d => cases d <;> (simp only [mPop, h]; try rfl)
@[simp] theorem popL_l (n : Nat) (xs : List D) (y : D) (S : List D) : popL (some (.lst (xs ++ [y]))) n S = .ok y (S.set n (.lst xs)) := by simp [popL]
def kLstRg (x : D) (S1 : List D) : R D := match x with
  | .int n => if 0 ≤ n ∧ n ≤ SL then .ok (.loc S1.length) (S1 ++ [.lst ((List.range n.toNat).map fun i : Nat => .int (i : Int))]) else .bad
  | _ => .bad
@[simp] theorem ev_lstRgL (a : ME) (E : Env) (S : List D) : eLstRgL a E S = (a E S).bind kLstRg := id rfl
theorem klstRg {n : Nat} (h : n ≤ SL) (S : List D) : kLstRg (.int (n : Nat)) S = .ok (.loc S.length) (S ++ [.lst ((List.range n).map fun i : Nat => .int (i : Int))]) := by
  unfold kLstRg
  simp only
  rw [if_pos ⟨by omega, by omega⟩]
  simp
@[simp] theorem b_listT (xs S : List D) : bList [.tup xs] S = .ok (.lst xs) S := id rfl
@[simp] theorem b_listLs (xs S : List D) : bList [.lst xs] S = .ok (.lst xs) S := id rfl
theorem call2 (F : MF) {x s : D} {n : Nat} {xs S : List D} (hx : x.flat = true) (hS : S[n]? = some s) (hs : s.flat = true) (h : D.flats xs = true) : callF F (x :: .loc n :: xs) S = kC1 n S (F (x :: .loc 0 :: xs) [s]) := by
  have hb : byRef (x :: .loc n :: xs) 0 = some (x :: .loc 0 :: xs, [n]) := by
    have h1 : byRef (.loc n :: xs) 0 = some (.loc 0 :: xs, [n]) := by
      unfold byRef
      rw [byRef_flat xs _ h]
      simp
    cases x with
    | loc m => simp [D.flat] at hx
    | _ =>
      unfold byRef
      simp only
      rw [if_pos hx, h1]
      rfl
  unfold callF kC1
  rw [hb]
  simp [hS, hs]
  all_goals rfl
theorem ktt_loc {n : Nat} {S xs : List D} (h : S[n]? = some (.lst xs)) : kTT (.loc n) S = .ok (!xs.isEmpty) S := by
  unfold kTT
  simp [truth, h]
end J
set_option linter.all false
set_option maxRecDepth 100000
namespace J
open PySem (Str)
variable {E : Env} {S : List D} {d x y z : D} {ds xs : List D}
@[simp] theorem fl_tuk (ds : List D) : D.flat (.tuk ds) = D.flats ds := id rfl
@[simp] theorem src_tuk : srcOf S (.tuk ds) = some (.its ds) := id rfl
@[simp] theorem toO_exc (c : Str) (fs : List (Str × D)) (S : List D) (k : D → List D → O) : (R.exc c fs S : R D).toO E k = .exc c fs E S := id rfl
@[simp] theorem tO_exc (c : Str) (fs : List (Str × D)) (S : List D) (k : Bool → List D → O) : (R.exc c fs S : R Bool).tO E k = .exc c fs E S := id rfl
@[simp] theorem kfn_exc (n : Nat) (c : Str) (fs : List (Str × D)) : kFn n (.exc c fs E S) = excF n c fs S := id rfl
@[simp] theorem excF_0 (c : Str) : excF 0 c [] S = .exc c [] [] := by simp [excF]
@[simp] theorem kc0_exc (c : Str) : kC0 S (.exc c [] []) = .exc c [] S := by simp [kC0]
@[simp] theorem ev_raise (c : Str) : sRaise c E S = .exc c [] E S := id rfl
def kTryIs (kt : Str → Option Bool) (i j : Nat) (u v : D) : O → O
  | .exc c fs E1 S1 => if (fs.isEmpty && decide (i < E1.length)) = true then (match kt c with
    | some b => .nx ((E1.set j (some (if b = true then u else v))).set i none) S1
    | none => .bad) else .bad
  | o => o
@[simp] theorem ev_tryIs (kt : Str → Option Bool) (i j : Nat) (u v : D) (mb : MS) : sTryIs kt i j u v mb E S = kTryIs kt i j u v (mb E S) := by
  unfold sTryIs kTryIs
  cases mb E S <;> rfl
@[simp] theorem ktry_nx (kt : Str → Option Bool) (i j : Nat) (u v : D) : kTryIs kt i j u v (.nx E S) = .nx E S := id rfl
@[simp] theorem ktry_rt (kt : Str → Option Bool) (i j : Nat) (u v : D) : kTryIs kt i j u v (.rt d S) = .rt d S := id rfl
def kMK1 (f : D → List D → List D → R D) (a : MA) (E : Env) (x : D) (S : List D) : R D := if isTuk x = true then (a E S).bind fun xs S2 => f x xs S2 else .bad
def kMK2 (f : D → List D → List D → R D) (x : D) (xs : List D) (S : List D) : R D := f x xs S
@[simp] theorem ev_methK (f : D → List D → List D → R D) (o : ME) (a : MA) : eMethK f o a E S = (o E S).bind (kMK1 f a E) := id rfl
@[simp] theorem kmk1 (f : D → List D → List D → R D) (a : MA) : kMK1 f a E (.tuk ds) S = (a E S).bind (kMK2 f (.tuk ds)) := id rfl
@[simp] theorem kmk2 (f : D → List D → List D → R D) : kMK2 f x xs S = f x xs S := id rfl
@[simp] theorem tupK1 (a : D) (ds : List D) : bTupK [.loc 1] [a, .lst ds] = .ok (.tuk ds) [a, .lst ds] := rfl
@[simp] theorem isi_tuk : oIsi ["tuple"] (.tuk ds) S = .ok (.bl true) S := by simp [oIsi, tyOf, isiB]
end J
set_option linter.all false
set_option maxRecDepth 100000
/-! laws that ask nothing of the script -/
namespace J
def isRt : O → Bool
  | .rt (.bl true) [] => true
  | _ => false
end J
set_option linter.all false
set_option maxRecDepth 100000
/-! exceptions with a field; a loop that ends in an exception -/
namespace J
open PySem (Str)
variable {E : Env} {S : List D} {d x y z : D} {ds xs : List D}
def kRaiseF (c f : Str) (E : Env) (d : D) (S : List D) : O := match d with
  | .int i => if i.natAbs.log2 < 1920 then .exc c [(f, .int i)] E S else .bad
  | _ => .bad
@[simp] theorem ev_raiseF (c f : Str) (a : ME) : sRaiseF c f a E S = (a E S).toO E (kRaiseF c f E) := id rfl
@[simp] theorem excF_0f (c f : Str) (i : Int) : excF 0 c [(f, .int i)] S = .exc c [(f, .int i)] [] := by simp [excF]
@[simp] theorem kc0_excf (c f : Str) (i : Int) : kC0 S (.exc c [(f, .int i)] []) = .exc c [(f, .int i)] S := by simp [kC0]
def kTryFld (kt : Str → Option Bool) (f : Str) (i j : Nat) (v : D) : O → O
  | .exc c fs E1 S1 => if i < E1.length then (match kt c with
    | some true => (match fs with
      | [(g, d)] => if g = f then .nx ((E1.set j (some d)).set i none) S1 else .bad
      | _ => .bad)
    | some false => .nx ((E1.set j (some v)).set i none) S1
    | none => .bad) else .bad
  | o => o
@[simp] theorem ev_tryFld (kt : Str → Option Bool) (f : Str) (i j : Nat) (v : D) (mb : MS) : sTryFld kt f i j v mb E S = kTryFld kt f i j v (mb E S) := by
  unfold sTryFld kTryFld
  cases mb E S <;> rfl
@[simp] theorem ktryf_nx (kt : Str → Option Bool) (f : Str) (i j : Nat) (v : D) : kTryFld kt f i j v (.nx E S) = .nx E S := id rfl
end J
set_option linter.all false
set_option maxRecDepth 100000
/-! len, in, index of tuples of known make -/
namespace J
open PySem (Str)
variable {E : Env} {S : List D} {d x y z : D} {ds xs : List D}
@[simp] theorem lenK_tuk : bLenK [.tuk ds] S = .ok (.int ds.length) S := id rfl
@[simp] theorem lenK_tup : bLenK [.tup ds] S = .ok (.int ds.length) S := id rfl
@[simp] theorem lenK_lst : bLenK [.lst ds] S = bLen [.lst ds] S := id rfl
@[simp] theorem ev_lstRg (a : ME) : eLstRg a E S = (a E S).bind fun x S1 => match x with
  | .int n => if 0 ≤ n ∧ n ≤ SL then .ok (.lst ((List.range n.toNat).map fun i : Nat => .int (i : Int))) S1 else .bad
  | _ => .bad := id rfl
end J
set_option linter.all false
set_option maxRecDepth 100000
/-! comprehensions with two fors, run: no tests, a store that stays -/
namespace J
variable {E : Env} {S : List D} {d x y z : D} {ds xs : List D}
end J
set_option linter.all false
set_option maxRecDepth 100000
/-! loops that leave objects behind, run -/
namespace J
def forNS (src : Src) (t : Tg) (b : MS) (E : Env) (S : List D) : O := forGoN src t b src.len 0 E S
def kForN (t : Tg) (b : MS) (E : Env) : R Src → O
  | .ok src S1 => forNS src t b E S1
  | .exc c fs S1 => .exc c fs E S1
  | .bad => .bad
@[simp] theorem ev_forN (t : Tg) (m : MI) (b : MS) : sForN t m b E S = kForN t b E (m E S) := by
  unfold sForN kForN
  cases m E S <;> rfl
@[simp] theorem kforN_ok (t : Tg) (b : MS) (src : Src) (S1 : List D) : kForN t b E (.ok src S1) = forNS src t b E S1 := id rfl
end J
set_option linter.all false
set_option maxRecDepth 100000
/-! loops that end in an exception; loops whose new objects stay as they are; dicts with tuple keys as lists -/
namespace J
open PySem (Str)
variable {E : Env} {S : List D} {d x y z : D} {ds xs : List D}
def O.out : O → Bool
  | .rt _ _ => true
  | .exc _ _ _ _ => true
  | _ => false
def TurnO (t : Tg) (b : MS) (n : Nat) (d : D) (E : Env) (S : List D) (Q : Env → List D → Prop) (P : O → Prop) : Prop :=
  Turn t b n d E S Q ∨ ∃ E1, t.bind d E = some E1 ∧ (b E1 S).out = true ∧ P (b E1 S)
/-! new objects that stay -/
def kForF (t : Tg) (b : MS) (E : Env) : R Src → O
  | .ok src S1 => forGoF src t b S1.length src.len 0 E S1
  | .exc c fs S1 => .exc c fs E S1
  | .bad => .bad
@[simp] theorem ev_forF (t : Tg) (m : MI) (b : MS) : sForF t m b E S = kForF t b E (m E S) := by
  unfold sForF kForF
  cases m E S <;> rfl
def forSF (src : Src) (t : Tg) (b : MS) (E : Env) (S : List D) : O := forGoF src t b S.length src.len 0 E S
@[simp] theorem kforF (t : Tg) (b : MS) (src : Src) : kForF t b E (.ok src S) = forSF src t b E S := id rfl
def TurnF (t : Tg) (b : MS) (n : Nat) (d : D) (E : Env) (S : List D) (Q : Env → List D → Prop) : Prop :=
  ∃ E1 E2 S2 E3 S3, t.bind d E = some E1 ∧ (b E1 S = .nx E2 S2 ∨ b E1 S = .ct E2 S2) ∧ gcF n E2 S2 = some (E3, S3) ∧ Q E3 S3
/-! lists of dicts with tuple keys -/
@[simp] theorem ev_sortT (a : ME) : eSortT a E S = (a E S).bind kSortT := id rfl
theorem goneF_flat {n : Nat} {S : List D} {d : D} (h : d.flat = true) : goneF n S (some d) = some d := by
  simp only [goneF, h, if_true]
theorem goneF_new {n k : Nat} {S : List D} {o : D} (h : n ≤ k) (ho : S[k]? = some o) (hf : o.flat = true) : goneF n S (some (.loc k)) = some o := by
  have : ¬ k < n := by omega
  simp [goneF, this, ho, hf]
@[simp] theorem goneF_none {n : Nat} {S : List D} : goneF n S none = none := rfl
end J
namespace J
open PySem (Str)
@[simp] theorem ev_keysT (a : ME) (E : Env) (ks : List (List Ky)) (ds : List D) (S S1 : List D) (h : a E S = .ok (.dcT ks ds) S1) : iKeysT a E S = .ok (Src.its (ks.map tupK)) S1 := by
  unfold iKeysT
  rw [h]
  rfl
def kGcF (n : Nat) : O → O
  | .nx E1 S1 => match gcF n E1 S1 with
    | some (E2, S2) => .nx E2 S2
    | none => .bad
  | o => o
@[simp] theorem ev_gcF (m : MS) (E : Env) (S : List D) : sGcF m E S = kGcF S.length (m E S) := by
  unfold sGcF kGcF
  cases m E S <;> rfl
end J
set_option linter.all false
set_option maxRecDepth 100000
namespace K11
open J
structure Row where
  sc : List Int
  pos : Int
  seed : Int
  rest : Int
def encRow (r : Row) : D := .lst [.rdl (r.sc.map D.int), .int r.pos, .int r.seed, .int r.rest]
@[simp] theorem encRow_flat (r : Row) : (encRow r).flat = true := by simp [encRow]
theorem mulR (i : Int) (S : List D) : oMul (.int i) (.int 48271) S = .ok (.int (i * 48271)) S := o_mul (Or.inr (by decide))
theorem pow18 (S : List D) : oPow (.int 10) (.int 18) S = .ok (.int 1000000000000000000) S := rfl
theorem modM (i : Int) (S : List D) : oMod (.int i) (.int 2147483647) S = .ok (.int (i % 2147483647)) S := o_mod (by decide)
theorem div7 (i : Int) (S : List D) : oDiv (.int i) (.int 7) S = .ok (.int (i / 7)) S := o_div (by decide) (by decide)
set_option maxHeartbeats 1000000 in
theorem taken_ok (r : Row) (many : Int) (hp : 0 ≤ r.pos) (h : 0 < many) (h2 : many < 1073741824) : ∃ v r', F_p_law_taken [.loc 0, .int many] [encRow r] = .ok (.int v) [encRow r'] ∧ 0 ≤ v ∧ v < many ∧ 0 ≤ r'.pos := by
  obtain ⟨sc, pos, seed, rest⟩ := r
  simp only at hp
  have e1 : ∀ (i : Int) (S : List D), oMod (.int i) (.int many) S = .ok (.int (i % many)) S := fun i S => o_mod h
  have e2 : ∀ (i : Int) (S : List D), oDiv (.int i) (.int many) S = .ok (.int (i / many)) S := fun i S => o_div h h2
  have b1 : ∀ i : Int, 0 ≤ i % many ∧ i % many < many := fun i => ⟨Int.emod_nonneg _ (by omega), Int.emod_lt_of_pos _ h⟩
  unfold F_p_law_taken S_p_law_taken
  rw [fn_ev 2 4 _ rfl]
  by_cases hr : 0 < rest
  · refine ⟨rest % many, ⟨sc, pos, seed, rest / many⟩, ?_, (b1 _).1, (b1 _).2, hp⟩
    simp [encRow, hr, e1, e2, ixOf]
  · by_cases hl : (sc.length : Int) < pos + 1
    · refine ⟨(seed * 48271 + 11) % 2147483647 / 7 % many, ⟨sc, pos + 1, (seed * 48271 + 11) % 2147483647, rest⟩, ?_, (b1 _).1, (b1 _).2, by simp only; omega⟩
      simp [encRow, hr, e1, e2, ixOf, hl, mulR, modM, div7]
    · have hi : pos.toNat < sc.length := by omega
      by_cases hb : (1000000000000000000 : Int) ≤ sc[pos.toNat]
      · refine ⟨sc[pos.toNat] % many, ⟨sc, pos + 1, (seed * 48271 + sc[pos.toNat] + 11) % 2147483647, sc[pos.toNat] / many⟩, ?_, (b1 _).1, (b1 _).2, by simp only; omega⟩
        simp [encRow, hr, e1, e2, ixOf, hl, mulR, modM, div7, pow18, at_int hp, hi, hb]
      · refine ⟨sc[pos.toNat] % many, ⟨sc, pos + 1, (seed * 48271 + sc[pos.toNat] + 11) % 2147483647, rest⟩, ?_, (b1 _).1, (b1 _).2, by simp only; omega⟩
        simp [encRow, hr, e1, e2, ixOf, hl, mulR, modM, div7, pow18, at_int hp, hi, hb]
structure Pipe where
  s : Int
  t : Int
  g : Int
  e : Int
  m : Int
def encP (p : Pipe) : D := .tup [.int p.s, .int p.t, .int p.g, .int p.e, .int p.m]
@[simp] theorem fl_encP (p : Pipe) : (encP p).flat = true := id rfl
@[simp] theorem ixP0 (p : Pipe) (S : List D) : oIx (encP p) (.int 0) S = .ok (.int p.s) S := id rfl
@[simp] theorem ixP1 (p : Pipe) (S : List D) : oIx (encP p) (.int 1) S = .ok (.int p.t) S := id rfl
@[simp] theorem ixP2 (p : Pipe) (S : List D) : oIx (encP p) (.int 2) S = .ok (.int p.g) S := id rfl
@[simp] theorem ixP3 (p : Pipe) (S : List D) : oIx (encP p) (.int 3) S = .ok (.int p.e) S := id rfl
@[simp] theorem ixP4 (p : Pipe) (S : List D) : oIx (encP p) (.int 4) S = .ok (.int p.m) S := id rfl
@[simp] theorem bindP (ts : List Tg) (p : Pipe) (E : Env) : (Tg.tp ts).bind (encP p) E = Tg.binds ts [.int p.s, .int p.t, .int p.g, .int p.e, .int p.m] E := id rfl
@[simp] theorem bindPs (us ts : List Tg) (p : Pipe) (xs : List D) (E : Env) : Tg.binds (.tp us :: ts) (encP p :: xs) E = (Tg.binds us [.int p.s, .int p.t, .int p.g, .int p.e, .int p.m] E).bind fun E1 => Tg.binds ts xs E1 := binds_tp us ts
def encF (n : Int) (ps : List Pipe) : D := .tup [.int n, .tup (ps.map encP)]
@[simp] theorem flats_pipes (ps : List Pipe) : D.flats (ps.map encP) = true := flats_map _ fl_encP ps
@[simp] theorem encF_flat (n : Int) (ps : List Pipe) : (encF n ps).flat = true := by simp [encF]
@[simp] theorem callP (F : MF) (p : Pipe) (xs S : List D) (h : D.flats xs = true) : callF F (encP p :: xs) S = kC0 S (F (encP p :: xs) []) := call0 F (by simp [h])
@[simp] theorem call_encF (F : MF) (n : Int) (ps : List Pipe) (xs S : List D) (h : D.flats xs = true) : callF F (encF n ps :: xs) S = kC0 S (F (encF n ps :: xs) []) := call0 F (by simp [h])
structure POk (n r m : Int) (p : Pipe) : Prop where
  s0 : 0 ≤ p.s
  s1 : p.s < n
  t0 : 0 ≤ p.t
  t1 : p.t < n
  g0 : 1 ≤ p.g
  g1 : p.g ≤ r
  e0 : 1 ≤ p.e
  e1 : p.e ≤ r
  m0 : 0 ≤ p.m
  m1 : p.m ≤ m
theorem any_ok (r : Row) (hp : 0 ≤ r.pos) : ∃ n ps r', F_p_law_any [.loc 0] [encRow r] = .ok (encF n ps) [encRow r'] ∧ 1 ≤ n ∧ n ≤ 5 ∧ ps.length ≤ 6 ∧ (∀ p ∈ ps, POk n 3 5 p) ∧ 0 ≤ r'.pos := by
  unfold F_p_law_any S_p_law_any
  rw [fn_ev 1 4 _ rfl]
  obtain ⟨v1, r1, h1, b1, b2, p1⟩ := taken_ok r 5 hp (by omega) (by omega)
  obtain ⟨v2, r2, h2, b3, b4, p2⟩ := taken_ok r1 7 p1 (by omega) (by omega)
  simp [h1, h2, krng1 b3 (by omega)]
  obtain ⟨E', S', e, r', x, ps, rfl, rfl, hl, hp', hk⟩ := for_rng (lo := 0) (n := v2.toNat) (t := Tg.nm 3) (b := B1_p_law_any) (E := [some (D.loc 0), some (D.int (1 + v1)), some (D.loc 1), none]) (S := [encRow r2, D.lst []])
    (fun i E S => ∃ r x ps, E = [some (D.loc 0), some (D.int (1 + v1)), some (D.loc 1), x] ∧ S = [encRow r, D.lst (ps.map encP)] ∧ ps.length = i ∧ 0 ≤ r.pos ∧ ∀ p ∈ ps, POk (1 + v1) 3 5 p)
    ⟨r2, none, [], rfl, rfl, rfl, p2, by simp⟩ (by
      rintro i E S hi ⟨r, x, ps, rfl, rfl, hl, hp', hk⟩
      obtain ⟨w1, s1, g1, c1, c2, q1⟩ := taken_ok r (1 + v1) hp' (by omega) (by omega)
      obtain ⟨w2, s2, g2, c3, c4, q2⟩ := taken_ok s1 (1 + v1) q1 (by omega) (by omega)
      obtain ⟨w3, s3, g3, c5, c6, q3⟩ := taken_ok s2 3 q2 (by omega) (by omega)
      obtain ⟨w4, s4, g4, c7, c8, q4⟩ := taken_ok s3 3 q3 (by omega) (by omega)
      obtain ⟨w5, s5, g5, c9, c10, q5⟩ := taken_ok s4 6 q4 (by omega) (by omega)
      refine turn_nx (E2 := [some (D.loc 0), some (D.int (1 + v1)), some (D.loc 1), some (.int (0 + (i : Nat)))]) (S2 := [encRow s5, D.lst ((ps ++ [(⟨w1, w2, 1 + w3, 1 + w4, w5⟩ : Pipe)]).map encP)]) rfl ?_ rfl ?_
      rotate_left
      · refine ⟨s5, _, ps ++ [(⟨w1, w2, 1 + w3, 1 + w4, w5⟩ : Pipe)], rfl, rfl, by simp [hl], q5, ?_⟩
        intro p hp
        simp at hp
        rcases hp with hp | rfl
        · exact hk p hp
        · exact ⟨c1, c2, c3, c4, by simp only; omega, by simp only; omega, by simp only; omega, by simp only; omega, c9, by simp only; omega⟩
      · unfold B1_p_law_any
        have hs : ps.length < SL := by unfold SL; omega
        simp [g1, g2, g3, g4, g5, hs, encP])
  refine ⟨1 + v1, ps, r', ?_, by omega, by omega, by omega, hk, hp'⟩
  rw [e]
  simp [encF]
theorem isi_int (ns : List String) (i : Int) (S : List D) : oIsi ns (.int i) S = .ok (.bl (ns.any (isiB "int"))) S := rfl
theorem isi_tup (ns : List String) (ds : List D) (S : List D) : oIsi ns (.tup ds) S = .ok (.bl (ns.any (isiB "tuple"))) S := rfl
theorem b1 : isiB "int" "bool" = false := by decide
theorem b2 : isiB "int" "int" = true := by decide
theorem b3 : isiB "tuple" "tuple" = true := by decide
theorem iswhole_eq (v : Int) : F_p_is_whole [.int v] [] = .ok (.bl true) [] := by
  unfold F_p_is_whole S_p_is_whole
  rw [fn_ev 1 1 _ rfl]
  simp [isi_int, b1, b2]
theorem isnum_eq (v a b : Int) : F_p_is_number [.int v, .int a, .int b] [] = .ok (.bl (decide (a ≤ v) && decide (v ≤ b))) [] := by
  unfold F_p_is_number S_p_is_number
  rw [fn_ev 3 3 _ rfl]
  simp [iswhole_eq]
  by_cases h : a ≤ v <;> simp [h]
theorem isbox_eq (v n : Int) : F_p_is_box [.int v, .int n] [] = .ok (.bl (decide (0 ≤ v) && decide (v ≤ n - 1))) [] := by
  unfold F_p_is_box S_p_is_box
  rw [fn_ev 2 2 _ rfl]
  simp [isnum_eq]
theorem isrow_eq (ds : List D) (n : Int) (h : D.flats ds = true) : F_p_is_row [.tup ds, .int n] [] = .ok (.bl (decide ((ds.length : Int) = n))) [] := by
  unfold F_p_is_row S_p_is_row
  rw [fn_ev 2 2 _ rfl]
  simp [isi_tup, b3]
theorem ispipe_ok {n : Int} {p : Pipe} (h : POk n 999 99999 p) : F_p_is_pipe [encP p, .int n] [] = .ok (.bl true) [] := by
  obtain ⟨h1, h2, h3, h4, h5, h6, h7, h8, h9, h10⟩ := h
  unfold F_p_is_pipe S_p_is_pipe encP
  rw [fn_ev 2 7 _ rfl]
  have h2' : p.s ≤ n - 1 := by omega
  have h4' : p.t ≤ n - 1 := by omega
  simp [isrow_eq, isbox_eq, isnum_eq, kasg, h1, h2', h3, h4', h5, h6, h7, h8, h9, h10]
structure FOk (n : Int) (ps : List Pipe) : Prop where
  n1 : 1 ≤ n
  n8 : n ≤ 8
  l : ps.length ≤ 16
  ok : ∀ p ∈ ps, POk n 999 99999 p
theorem check_ok {n : Int} {ps : List Pipe} (h : FOk n ps) : F_p_check_flow [encF n ps] [] = .ok .non [] := by
  unfold F_p_check_flow S_p_check_flow
  rw [fn_ev 1 5 _ rfl]
  have l16 : ¬ (16 : Int) < ps.length := by have := h.l; omega
  simp [encF, isrow_eq, isnum_eq, kasg, h.n1, h.n8, isi_tup, b3, l16]
  obtain ⟨E', S', e, x, y, rfl, rfl⟩ := for_enum ps encP (t := Tg.tp [Tg.nm 3, Tg.nm 4]) (b := B1_p_check_flow) (E := [some (encF n ps), some (D.int n), some (.tup (ps.map encP)), none, none]) (S := [])
    (fun i E S => ∃ x y, E = [some (encF n ps), some (D.int n), some (.tup (ps.map encP)), x, y] ∧ S = []) ⟨none, none, rfl, rfl⟩ (by
      rintro i E S hi ⟨x, y, rfl, rfl⟩
      refine turn_nx (E2 := [some (encF n ps), some (D.int n), some (.tup (ps.map encP)), some (.int i), some (encP ps[i])]) (S2 := []) rfl ?_ rfl ?_
      · unfold B1_p_check_flow
        have := ispipe_ok (h.ok ps[i] (List.getElem_mem hi))
        simp [this]
      · exact ⟨_, _, rfl, rfl⟩)
  simp [encF] at e
  simp [e]
instance : Inhabited Pipe := ⟨⟨0, 0, 0, 0, 0⟩⟩
def pk (ps : List Pipe) (k : Nat) : Pipe := ps.getD k ⟨0, 0, 0, 0, 0⟩
def ik (xs : List Int) (k : Nat) : Int := xs.getD k 0
def dI (xs : List Int) : List D := xs.map D.int
def dN (ks : List Nat) : List D := ks.map fun k : Nat => D.int (k : Int)
@[simp] theorem flats_dI (ns : List Int) : D.flats (dI ns) = true := flats_ints ns
@[simp] theorem flats_dN (ns : List Nat) : D.flats (dN ns) = true := flats_map _ (fun _ => rfl) ns
@[simp] theorem ixF0 (n : Int) (ps : List Pipe) (S : List D) : oIx (encF n ps) (.int 0) S = .ok (.int n) S := id rfl
@[simp] theorem ixF1 (n : Int) (ps : List Pipe) (S : List D) : oIx (encF n ps) (.int 1) S = .ok (.tup (ps.map encP)) S := id rfl
@[simp] theorem bindF (ts : List Tg) (n : Int) (ps : List Pipe) (E : Env) : (Tg.tp ts).bind (encF n ps) E = Tg.binds ts [.int n, .tup (ps.map encP)] E := id rfl
theorem enum_range (ps : List Pipe) : ((ps.map encP).mapIdx fun i d => D.tup [.int (i : Nat), d]) = (List.range ps.length).map fun k : Nat => D.tup [.int (k : Int), encP (pk ps k)] := by
  apply List.ext_getElem
  · simp
  · intro i h1 h2
    simp at h1
    simp [h1, pk]
theorem is_enumR (ps : List Pipe) (S : List D) : (Src.enum (.its (ps.map encP))).Is S ((List.range ps.length).map fun k : Nat => D.tup [.int (k : Int), encP (pk ps k)]) := by
  rw [← enum_range]
  exact is_enum (is_its _ S)
theorem lc_true {src : Src} {own : List Nat} {t : Tg} {c : MT} {e : ME} {α : Type} {E : Env} {S : List D} (xs : List α) (enc : α → D) (f : α → D) (hl : xs.length ≤ SL) (hi : src.Is S (xs.map enc))
    (hs : ∀ a, a ∈ xs → ∃ E1, t.bind (enc a) (wipeE E own) = some E1 ∧ c E1 S = .ok true S ∧ e E1 S = .ok (f a) S) :
    lcS false src own t c e E S = .ok (.lst (xs.map f)) S := by
  rw [lc_eq xs enc (fun _ => true) f hl hi (fun a ha => by obtain ⟨E1, h1, h2, h3⟩ := hs a ha; exact ⟨E1, h1, h2, fun _ => h3⟩)]
  simp [List.filter_eq_self.mpr]
theorem lc_filt {src : Src} {own : List Nat} {t : Tg} {c : MT} {e : ME} {α : Type} {E : Env} {S : List D} (xs : List α) (enc : α → D) (p : α → Bool) (f : α → D) (hl : xs.length ≤ SL) (hi : src.Is S (xs.map enc))
    (hs : ∀ a, a ∈ xs → ∃ E1, t.bind (enc a) (wipeE E own) = some E1 ∧ c E1 S = .ok (p a) S ∧ (p a = true → e E1 S = .ok (f a) S)) :
    lcS false src own t c e E S = .ok (.lst ((xs.filter p).map f)) S := by
  rw [lc_eq xs enc p f hl hi hs]
  simp
def marksT (ps : List Pipe) : List Int := ps.map (·.m)
theorem smallL {ps : List Pipe} (h : ps.length ≤ 16) : ps.length ≤ SL := by unfold SL; omega
def shortT (ps : List Pipe) (held : List Int) (b : Int) : List Nat := (List.range ps.length).filter fun k => decide ((pk ps k).t = b) && decide ((ik held k) < (pk ps k).e)
theorem at_dI {held : List Int} {k : Nat} (h : k < held.length) : (dI held)[k]? = some (.int (ik held k)) := by simp [dI, ik, h]
theorem short_eq {ps : List Pipe} {held : List Int} (b : Int) (h : ps.length ≤ 16) (hl : held.length = ps.length) : F_p_short_pipes [.tup (ps.map encP), .tup (dI held), .int b] [] = .ok (.lst (dN (shortT ps held b))) [] := by
  unfold F_p_short_pipes S_p_short_pipes
  rw [fn_ev 3 5 _ rfl]
  simp
  rw [lc_filt (List.range ps.length) _ (fun k => decide ((pk ps k).t = b) && decide ((ik held k) < (pk ps k).e)) (fun k : Nat => D.int (k : Int)) (by simpa using smallL h) (is_enumR ps _) (fun k hk => ⟨_, rfl, by
    unfold C1_p_short_pipes
    have hk' : k < held.length := by simp at hk; omega
    simp [at_dI hk']
    by_cases h1 : (pk ps k).t = b <;> simp [h1, at_dI hk'], fun _ => by unfold V2_p_short_pipes; simp⟩)]
  simp [shortT, dN, flats_map (fun k : Nat => D.int (k : Int)) (fun _ => rfl)]
def nextT (ps : List Pipe) (held : List Int) (b : Int) : List Int := List.zipWith (fun p h => h - (if p.t = b then p.e else 0) + (if p.s = b then p.g else 0)) ps held
theorem nextT_len {ps : List Pipe} {held : List Int} (b : Int) (hl : held.length = ps.length) : (nextT ps held b).length = ps.length := by simp [nextT, hl]
def withT (ps : List Pipe) (held : List Int) : List Pipe := List.zipWith (fun p h => ⟨p.s, p.t, p.g, p.e, h⟩) ps held
@[simp] theorem slP (p : Pipe) (S : List D) : oSl (encP p) none (some 4) S = .ok (.tup [.int p.s, .int p.t, .int p.g, .int p.e]) S := id rfl
def half (new old : List Int) (i : Nat) : List Int := new.take i ++ old.drop i
theorem half_len {new old : List Int} (i : Nat) (h : new.length = old.length) : (half new old i).length = old.length := by simp [half]; omega
theorem half_at {new old : List Int} {i : Nat} (h : new.length = old.length) (hi : i < old.length) : (half new old i)[i]? = some (ik old i) := by
  unfold half
  rw [List.getElem?_append_right (by simp; omega)]
  simp [ik, hi]
  rw [Nat.min_eq_left (by omega)]
  simp [hi]
theorem half_set {new old : List Int} {i : Nat} (h : new.length = old.length) (hi : i < old.length) : (half new old i).set i (ik new i) = half new old (i + 1) := by
  have hi2 : i < new.length := by omega
  have e : (new.take i).length = i := by simp; omega
  unfold half
  rw [List.drop_eq_getElem_cons hi, List.set_append_right _ _ (by omega), e, Nat.sub_self, List.set_cons_zero, ← List.take_append_getElem hi2, List.append_assoc]
  simp [ik, hi2]
theorem nextT_at {ps : List Pipe} {held : List Int} {b : Int} {i : Nat} (hl : held.length = ps.length) (hi : i < ps.length) : ik (nextT ps held b) i = ik held i - (if (pk ps i).t = b then (pk ps i).e else 0) + (if (pk ps i).s = b then (pk ps i).g else 0) := by
  have : i < held.length := by omega
  simp [ik, nextT, pk, hi, this, List.getElem?_zipWith]
theorem behind_eq {ps : List Pipe} {held : List Int} (b : Int) (h : ps.length ≤ 16) (hl : held.length = ps.length) : F_p_held_behind [.tup (ps.map encP), .tup (dI held), .int b] [] = .ok (.tup (dI (nextT ps held b))) [] := by
  unfold F_p_held_behind S_p_held_behind
  rw [fn_ev 3 10 _ rfl]
  simp
  have hn := nextT_len b hl
  obtain ⟨E', S', e, x4, x5, x6, x7, x8, x9, rfl, rfl⟩ := for_enum ps encP (t := Tg.tp [Tg.nm 4, Tg.tp [Tg.nm 5, Tg.nm 6, Tg.nm 7, Tg.nm 8, Tg.nm 9]]) (b := B1_p_held_behind) (E := [some (.tup (ps.map encP)), some (.tup (dI held)), some (.int b), some (.loc 0), none, none, none, none, none, none]) (S := [.lst (dI held)])
    (fun i E S => ∃ x4 x5 x6 x7 x8 x9, E = [some (.tup (ps.map encP)), some (.tup (dI held)), some (.int b), some (.loc 0), x4, x5, x6, x7, x8, x9] ∧ S = [.lst (dI (half (nextT ps held b) held i))]) ⟨none, none, none, none, none, none, rfl, by simp [half]⟩ (by
      rintro i E S hi ⟨x4, x5, x6, x7, x8, x9, rfl, rfl⟩
      have hp : ps[i] = pk ps i := by simp [pk, hi]
      rw [hp]
      refine turn_nx (E2 := [some (.tup (ps.map encP)), some (.tup (dI held)), some (.int b), some (.loc 0), some (.int i), some (.int (pk ps i).s), some (.int (pk ps i).t), some (.int (pk ps i).g), some (.int (pk ps i).e), some (.int (pk ps i).m)]) (S2 := [.lst (dI (half (nextT ps held b) held (i + 1)))]) rfl ?_ rfl ?_
      · unfold B1_p_held_behind
        have h1 : (dI (half (nextT ps held b) held i))[i]? = some (.int (ik held i)) := by
          simp only [dI, List.getElem?_map, half_at (hn.trans hl.symm) (by omega : i < held.length), Option.map_some]
        have h2 : ixOf (dI (half (nextT ps held b) held i)).length (i : Int) = some i := ix_nat (by simp [dI, half_len i (hn.trans hl.symm)]; omega)
        have h3 : ∀ v : Int, (dI (half (nextT ps held b) held i)).set i (.int v) = dI ((half (nextT ps held b) held i).set i v) := fun v => by simp [dI, List.map_set]
        have h5 : i < (dI (half (nextT ps held b) held i)).length := by simp [dI, half_len i (hn.trans hl.symm)]; omega
        have h4 := nextT_at (b := b) hl hi
        have h6 : dI (half (nextT ps held b) held (i + 1)) = (dI (half (nextT ps held b) held i)).set i (.int (ik (nextT ps held b) i)) := by
          rw [← half_set (hn.trans hl.symm) (by omega : i < held.length)]
          simp [dI, List.map_set]
        rw [h6, h4]
        generalize dI (half (nextT ps held b) held i) = L at *
        have h7 : L[i] = .int (ik held i) := by simpa [h5] using h1
        have h8 : L.set i (.int (ik held i)) = L := by rw [← h7]; simp
        by_cases c1 : (pk ps i).t = b <;> by_cases c2 : (pk ps i).s = b <;> simp [h1, h2, h5, h7, h8, c1, c2]
      · exact ⟨_, _, _, _, _, _, rfl, rfl⟩)
  simp [e]
  rw [half, List.take_of_length_le (by omega), List.drop_of_length_le (by omega), List.append_nil]
def canT (ps : List Pipe) (held : List Int) (b : Int) : Bool := (shortT ps held b).isEmpty
@[simp] theorem dN_empty (ks : List Nat) : (dN ks).isEmpty = ks.isEmpty := by cases ks <;> rfl
def fireT (n : Int) (ps : List Pipe) (held : List Int) : List Nat := (List.range n.toNat).filter fun k : Nat => canT ps held k
theorem marks_len (ps : List Pipe) : (marksT ps).length = ps.length := by simp [marksT]
def intoT (ps : List Pipe) (b : Int) : List Nat := (List.range ps.length).filter fun k => decide ((pk ps k).t = b)
def outT (ps : List Pipe) (b : Int) : List Nat := (List.range ps.length).filter fun k => decide ((pk ps k).s = b)
def stT (ps : List Pipe) (held : List Int) (word : List Int) (i : Nat) : List Int := (word.take i).foldl (nextT ps) held
theorem stT_len {ps : List Pipe} {held : List Int} (hl : held.length = ps.length) (word : List Int) (i : Nat) : (stT ps held word i).length = ps.length := by
  unfold stT
  generalize word.take i = w
  induction w generalizing held with
  | nil => exact hl
  | cons b w ih => exact ih (nextT_len b hl)
theorem stT_succ (ps : List Pipe) (held : List Int) {word : List Int} {i : Nat} (h : i < word.length) : stT ps held word (i + 1) = nextT ps (stT ps held word i) word[i] := by
  unfold stT
  rw [← List.take_append_getElem h, List.foldl_append]
  rfl
structure WOk (n : Int) (ps : List Pipe) (held word : List Int) : Prop where
  l : word.length ≤ 2000
  b0 : ∀ b ∈ word, 0 ≤ b ∧ b < n
  can : ∀ i (h : i < word.length), canT ps (stT ps held word i) word[i] = true
def rowsT (ps : List Pipe) (held word : List Int) (i : Nat) : List D := (List.range (i + 1)).map fun j => D.tup (dI (stT ps held word j))
@[simp] theorem flats_rows (ps : List Pipe) (held word : List Int) (i : Nat) : D.flats (rowsT ps held word i) = true := flats_map _ (fun _ => by simp) _
def runT (ps : List Pipe) (word : List Int) : List Int := word.foldl (nextT ps) (marksT ps)
theorem pick_ok (r : Row) (ds : List D) (hf : D.flats ds = true) (hp : 0 ≤ r.pos) (h1 : 0 < ds.length) (h2 : ds.length < 1000000) : ∃ d r', d ∈ ds ∧ F_p_law_pick [.loc 0, .lst ds] [encRow r] = .ok d [encRow r'] ∧ 0 ≤ r'.pos := by
  obtain ⟨v, r', e, b1, b2, p⟩ := taken_ok r ds.length hp (by omega) (by omega)
  have hv : v.toNat < ds.length := by omega
  refine ⟨ds[v.toNat], r', List.getElem_mem hv, ?_, p⟩
  unfold F_p_law_pick S_p_law_pick
  rw [fn_ev 2 2 _ rfl]
  have hfl : (ds[v.toNat]).flat = true := by
    rw [flats_all] at hf
    exact List.all_eq_true.mp hf _ (List.getElem_mem hv)
  simp [e, hf, at_int b1, hv, hfl]
theorem gcd_eq (a b : Nat) (hb : b < 999999) : F_p_law_gcd [.int a, .int b] [] = .ok (.int (Nat.gcd a b)) [] := by
  unfold F_p_law_gcd S_p_law_gcd
  rw [fn_ev 2 2 _ rfl]
  have ha0 : ¬ ((a : Int) < 0) := by omega
  have hb0 : ¬ ((b : Int) < 0) := by omega
  simp [ha0, hb0]
  obtain ⟨E', S', e, rfl, rfl⟩ := whileGo_inv (t := C2_p_law_gcd) (b := B1_p_law_gcd) (n := 0)
    (fun m E S => ∃ x y : Nat, E = [some (.int x), some (.int y)] ∧ S = [] ∧ Nat.gcd x y = Nat.gcd a b ∧ m = y) (fun E S => E = [some (.int (Nat.gcd a b)), some (.int 0)] ∧ S = []) (by
      rintro m E S ⟨x, y, rfl, rfl, hg, rfl⟩
      by_cases hy : m = 0
      · left
        subst hy
        refine ⟨by unfold C2_p_law_gcd; simp, ?_, rfl⟩
        simp at hg
        simp [hg]
      · right
        refine ⟨by unfold C2_p_law_gcd; simp [hy], [some (.int m), some (.int ((x % m : Nat) : Int))], [], _, _, x % m, .inl ?_, gc_same rfl, Nat.mod_lt _ (by omega), m, x % m, rfl, rfl, ?_, rfl⟩
        · unfold B1_p_law_gcd
          simp [o_mod (show (0 : Int) < m by omega)]
        · rw [← hg, Nat.gcd_comm x m, Nat.gcd_rec m x, Nat.gcd_comm]) 1000000 b [some (.int a), some (.int b)] [] (by omega) ⟨a, b, rfl, rfl, rfl, rfl⟩
  unfold whS
  simp [e]
theorem ratio_eq (a b : Nat) (ha : 0 < a) (ha2 : a < 1000000) (hb : 0 < b) (hb2 : b < 999999) : F_p_law_ratio [.int a, .int b] [] = .ok (.tup [.int ((a / Nat.gcd a b : Nat) : Int), .int ((b / Nat.gcd a b : Nat) : Int)]) [] := by
  unfold F_p_law_ratio S_p_law_ratio
  rw [fn_ev 2 3 _ rfl]
  have hg : 0 < Nat.gcd a b := Nat.gcd_pos_of_pos_left _ ha
  have hg2 : Nat.gcd a b ≤ a := Nat.gcd_le_left _ ha
  have h1 : ∀ (i : Int) (S : List D), oDiv (.int i) (.int (Nat.gcd a b : Nat)) S = .ok (.int (i / (Nat.gcd a b : Nat))) S := fun i S => o_div (by omega) (by omega)
  have hb0 : ¬ ((b : Int) < 0) := by omega
  simp [gcd_eq a b hb2, hb0, h1]
theorem some_eq (n : Int) {ps : List Pipe} (h : ps.length ≤ 16) : F_p_law_some [encF n ps] [] = .ok (.tup (dI (marksT ps))) [] := by
  unfold F_p_law_some S_p_law_some
  rw [fn_ev 1 2 _ rfl]
  simp
  rw [lc_true ps encP (fun p => D.int p.m) (smallL h) (is_its _ _) (fun p _ => ⟨_, rfl, rfl, by unfold V1_p_law_some; simp⟩)]
  simp [dI, marksT, flats_map (fun p : Pipe => D.int p.m) (fun _ => rfl)]
theorem cmpbs_map {α : Type} (e : α → D) (h : ∀ a, (e a).cmpb = true) : ∀ xs : List α, D.cmpbs (xs.map e) = true
  | [] => rfl
  | x :: xs => by
    show ((e x).cmpb && D.cmpbs (xs.map e)) = true
    simp [h, cmpbs_map e h xs]
theorem depths_map {α : Type} (e : α → D) (k : Nat) (h : ∀ a, (e a).depth ≤ k) : ∀ xs : List α, D.depths (xs.map e) ≤ k
  | [] => Nat.zero_le _
  | x :: xs => by
    show max (e x).depth (D.depths (xs.map e)) ≤ k
    have := h x; have := depths_map e k h xs
    omega
theorem cmp_dN (ks : List Nat) : cmpOk (.lst (dN ks)) = true := by
  have h1 : D.cmpb (.lst (dN ks)) = true := cmpbs_map _ (fun _ => rfl) ks
  have h2 : D.depth (.lst (dN ks)) ≤ 1 := by
    have := depths_map (fun k : Nat => D.int (k : Int)) 0 (fun _ => Nat.le_refl _) ks
    show D.depths (dN ks) + 1 ≤ 1
    unfold dN
    omega
  simp [cmpOk, h1]
  omega
theorem eqB_dN (ks : List Nat) : D.eqB (.lst (dN ks)) (.lst []) = ks.isEmpty := by cases ks <;> rfl
@[simp] theorem o_eq0 (ks : List Nat) (S : List D) : oEq (.lst (dN ks)) (.lst []) S = .ok (.bl ks.isEmpty) S := by
  rw [o_eq (x := .lst (dN ks)) (y := .lst []) (cmp_dN ks) (cmp_dN [])]
  simp only [seen, eqB_dN]
@[simp] theorem o_ne0 (ks : List Nat) (S : List D) : oNe (.lst (dN ks)) (.lst []) S = .ok (.bl (!ks.isEmpty)) S := by
  rw [o_ne (x := .lst (dN ks)) (y := .lst []) (cmp_dN ks) (cmp_dN [])]
  simp only [seen, eqB_dN]
theorem at_P {ps : List Pipe} {k : Nat} (h : k < ps.length) : (ps.map encP)[k]? = some (encP (pk ps k)) := by simp [pk, h]
theorem can_eq {ps : List Pipe} {held : List Int} (n b : Int) (h : ps.length ≤ 16) (hl : held.length = ps.length) : F_p_law_can [encF n ps, .tup (dI held), .int b] [] = .ok (.bl (canT ps held b)) [] := by
  unfold F_p_law_can S_p_law_can
  rw [fn_ev 3 4 _ rfl]
  have hd : (dI held).length = ps.length := by simp [dI, hl]
  simp [hd, krng1n (show ps.length < 1000000 by omega)]
  rw [lc_filt (List.range ps.length) _ (fun k => decide ((pk ps k).t = b) && decide (ik held k < (pk ps k).e)) (fun k : Nat => D.int (k : Int)) (by simpa using smallL h) (is_rng 0 ps.length _) (fun k hk => ⟨_, rfl, by
    unfold C1_p_law_can
    have hk' : k < held.length := by simp at hk; omega
    have hk2 : k < ps.length := by simp at hk; omega
    by_cases h1 : (pk ps k).t = b <;> simp [h1, at_P hk2, at_dI hk'], fun _ => by unfold V2_p_law_can; simp⟩)]
  change kFn 0 ((((R.ok (D.lst (dN (shortT ps held b))) []).bind _).toO _ _)) = _
  simp [canT]
theorem take_succ_ik {xs : List Int} {i : Nat} (h : i < xs.length) : dI (xs.take (i + 1)) = dI (xs.take i) ++ [.int (ik xs i)] := by
  rw [← List.take_append_getElem h]
  show (xs.take i ++ [xs[i]]).map D.int = _
  rw [List.map_append]
  simp [ik, h, dI]
theorem next_eq {ps : List Pipe} {held : List Int} (n b : Int) (h : ps.length ≤ 16) (hl : held.length = ps.length) : F_p_law_next [encF n ps, .tup (dI held), .int b] [] = .ok (.tup (dI (nextT ps held b))) [] := by
  unfold F_p_law_next S_p_law_next
  rw [fn_ev 3 10 _ rfl]
  have hd : (dI held).length = ps.length := by simp [dI, hl]
  have hn := nextT_len b hl
  simp [hd, krng1n (show ps.length < 1000000 by omega)]
  obtain ⟨E', S', e, x4, x5, x6, x7, x8, x9, rfl, rfl⟩ := for_rng (lo := 0) (n := ps.length) (t := Tg.nm 4) (b := B1_p_law_next) (E := [some (encF n ps), some (.tup (dI held)), some (.int b), some (.loc 0), none, none, none, none, none, none]) (S := [.lst []])
    (fun i E S => ∃ x4 x5 x6 x7 x8 x9, E = [some (encF n ps), some (.tup (dI held)), some (.int b), some (.loc 0), x4, x5, x6, x7, x8, x9] ∧ S = [.lst (dI ((nextT ps held b).take i))]) ⟨none, none, none, none, none, none, rfl, rfl⟩ (by
      rintro i E S hi ⟨x4, x5, x6, x7, x8, x9, rfl, rfl⟩
      refine turn_nx (E2 := [some (encF n ps), some (.tup (dI held)), some (.int b), some (.loc 0), some (.int (0 + (i : Nat))), some (.int (pk ps i).s), some (.int (pk ps i).t), some (.int (pk ps i).g), some (.int (pk ps i).e), some (.int (pk ps i).m)]) (S2 := [.lst (dI ((nextT ps held b).take (i + 1)))]) rfl ?_ rfl ?_
      · unfold B1_p_law_next
        have hs : (dI ((nextT ps held b).take i)).length < SL := by simp [dI, SL]; omega
        rw [take_succ_ik (by omega), nextT_at hl hi]
        by_cases c1 : (pk ps i).t = b <;> by_cases c2 : (pk ps i).s = b <;> simp [at_P hi, at_dI (show i < held.length by omega), hs, c1, c2]
      · exact ⟨_, _, _, _, _, _, rfl, rfl⟩)
  simp [e]
  rw [List.take_of_length_le (by omega)]
theorem with_eq {ps : List Pipe} {held : List Int} (n : Int) (h : ps.length ≤ 16) (hl : held.length = ps.length) : F_p_law_with [encF n ps, .tup (dI held)] [] = .ok (encF n (withT ps held)) [] := by
  unfold F_p_law_with S_p_law_with
  rw [fn_ev 2 3 _ rfl]
  simp [krng1n (show ps.length < 1000000 by omega)]
  rw [lc_true (List.range ps.length) _ (fun k => encP ⟨(pk ps k).s, (pk ps k).t, (pk ps k).g, (pk ps k).e, ik held k⟩) (by simpa using smallL h) (is_rng 0 ps.length _) (fun k hk => ⟨_, rfl, rfl, by
    have hk' : k < held.length := by simp at hk; omega
    have hk2 : k < ps.length := by simp at hk; omega
    unfold V1_p_law_with
    simp [at_P hk2, at_dI hk', o_addT, SL]
    rfl⟩)]
  have hz : (List.range ps.length).map (fun k => encP ⟨(pk ps k).s, (pk ps k).t, (pk ps k).g, (pk ps k).e, ik held k⟩) = (withT ps held).map encP := by
    apply List.ext_getElem
    · simp [withT, hl]
    · intro i h1 h2
      simp at h1
      simp [withT, pk, ik, h1, hl]
  simp [hz, encF]
def up (ks : List Nat) : List Int := ks.map fun k : Nat => (k : Int)
theorem dN_up (ks : List Nat) : dN ks = dI (up ks) := by simp [dN, dI, up]
theorem inD_dI (v : Int) (xs : List Int) : inD (.int v) (dI xs) = decide (v ∈ xs) := by
  induction xs with
  | nil => rfl
  | cons x xs ih =>
    have e : inD (.int v) (dI (x :: xs)) = ((x == v) || inD (.int v) (dI xs)) := rfl
    rw [e, ih]
    by_cases h : x = v
    · subst h
      rw [decide_eq_true (List.mem_cons_self)]
      rw [beq_self_eq_true, Bool.true_or]
    · have h2 : (v ∈ x :: xs) ↔ v ∈ xs := ⟨fun q => by cases q with | head => exact absurd rfl h | tail _ q => exact q, fun q => List.mem_cons_of_mem _ q⟩
      rw [decide_eq_decide.mpr h2, beq_eq_false_iff_ne.mpr h, Bool.false_or]
theorem all_cmp (xs : List Int) : (dI xs).all cmpOk = true := by
  unfold dI
  rw [List.all_map]
  exact List.all_eq_true.mpr fun x _ => rfl
@[simp] theorem o_in (v : Int) (xs : List Int) (S : List D) : oIn (.int v) (.lst (dI xs)) S = .ok (.bl (decide (v ∈ xs))) S := by
  simp only [oIn, seqOf, seen, all_cmp, cmpOk_int, and_self, if_true, inD_dI]
@[simp] theorem o_inT (v : Int) (xs : List Int) (S : List D) : oIn (.int v) (.tup (dI xs)) S = .ok (.bl (decide (v ∈ xs))) S := by
  simp only [oIn, seqOf, seen, all_cmp, cmpOk_int, and_self, if_true, inD_dI]
@[simp] theorem o_ninT (v : Int) (xs : List Int) (S : List D) : oNin (.int v) (.tup (dI xs)) S = .ok (.bl (!decide (v ∈ xs))) S := by
  simp only [oNin, seqOf, seen, all_cmp, cmpOk_int, and_self, if_true, inD_dI]
theorem o_addLs (xs ys : List D) (S : List D) (h : xs.length + ys.length ≤ SL) : oAdd (.lst xs) (.lst ys) S = .ok (.lst (xs ++ ys)) S := o_addL rfl rfl h
theorem dI_app (xs ys : List Int) : dI xs ++ dI ys = dI (xs ++ ys) := by simp [dI]
theorem joined_ok {n : Nat} {ps : List Pipe} {box : Nat} (h : ps.length ≤ 16) (hn : n ≤ 8) (hb : box < n) : ∃ part : List Nat, F_p_law_joined [encF n ps, .int box, .bl true] [] = .ok (.lst (dI (up part))) [] ∧ (∀ k ∈ part, k < n) ∧ part.length ≤ n ∧ box ∈ part := by
  unfold F_p_law_joined S_p_law_joined
  rw [fn_ev 3 8 _ rfl]
  simp [krng1n (show n < 1000000 by omega)]
  obtain ⟨E', S', e, part, x4, x5, x6, x7, rfl, rfl, p1, p2, p3⟩ := for_rng (lo := 0) (n := n) (t := Tg.nm 4) (b := B7_p_law_joined) (E := [some (encF n ps), some (.int box), some (.bl true), some (.lst [.int box]), none, none, none, none]) (S := [])
    (fun i E S => ∃ part x4 x5 x6 x7, E = [some (encF n ps), some (.int box), some (.bl true), some (.lst (dI (up part))), x4, x5, x6, x7] ∧ S = [] ∧ (∀ k ∈ part, k < n) ∧ part.length ≤ n ∧ box ∈ part) ⟨[box], none, none, none, none, rfl, rfl, by simpa using hb, by simp; omega, by simp⟩ (by
      rintro i E S hi ⟨part, x4, x5, x6, x7, rfl, rfl, p1, p2, p3⟩
      let more : List Int := (ps.filter fun p => decide (p.s ∈ up part)).map (·.t)
      let mora : List Int := (ps.filter fun p => decide (p.t ∈ up part)).map (·.s)
      let part2 : List Nat := (List.range n).filter fun k : Nat => decide ((k : Int) ∈ up part) || decide ((k : Int) ∈ more ++ mora)
      refine turn_nx (E2 := [some (encF n ps), some (.int box), some (.bl true), some (.lst (dI (up part2))), some (.int (0 + (i : Nat))), some (.lst (dI (more ++ mora))), x6, x7]) (S2 := []) rfl ?_ rfl ?_
      · unfold B7_p_law_joined
        simp
        rw [lc_filt ps encP (fun p => decide (p.s ∈ up part)) (fun p => D.int p.t) (smallL h) (is_its _ _) (fun p _ => ⟨_, rfl, by
          unfold C1_p_law_joined
          simp, fun _ => by
          unfold V2_p_law_joined
          simp⟩)]
        simp
        rw [lc_filt ps encP (fun p => decide (p.t ∈ up part)) (fun p => D.int p.s) (smallL h) (is_its _ _) (fun p _ => ⟨_, rfl, by
          unfold C3_p_law_joined
          simp, fun _ => by
          unfold V4_p_law_joined
          simp⟩)]
        have e1 : List.map (fun p : Pipe => D.int p.t) (ps.filter fun p => decide (p.s ∈ up part)) = dI more := by simp [more, dI]
        have e2 : List.map (fun p : Pipe => D.int p.s) (ps.filter fun p => decide (p.t ∈ up part)) = dI mora := by simp [mora, dI]
        have l1 : more.length ≤ 16 := by have := List.length_filter_le (fun p => decide (p.s ∈ up part)) ps; simp [more]; omega
        have l2 : mora.length ≤ 16 := by have := List.length_filter_le (fun p => decide (p.t ∈ up part)) ps; simp [mora]; omega
        rw [e1, e2]
        simp
        rw [o_addLs _ _ _ (by simp [dI, SL]; omega), dI_app]
        simp [krng1n (show n < 1000000 by omega)]
        rw [lc_filt (List.range n) _ (fun k : Nat => decide ((k : Int) ∈ up part) || decide ((k : Int) ∈ more ++ mora)) (fun k : Nat => D.int (k : Int)) (by simp [SL]; omega) (is_rng 0 n _) (fun k _ => ⟨_, rfl, by
          unfold C5_p_law_joined
          by_cases c : (k : Int) ∈ up part <;> simp [c], fun _ => by
          unfold V6_p_law_joined
          simp⟩)]
        simp [part2, dI, up]
      · refine ⟨part2, _, _, _, _, rfl, rfl, by simp [part2]; omega, ?_, ?_⟩
        · have := List.length_filter_le (fun k : Nat => decide ((k : Int) ∈ up part) || decide ((k : Int) ∈ more ++ mora)) (List.range n)
          rw [List.length_range] at this
          exact this
        · have : (box : Int) ∈ up part := by simp [up]; exact ⟨box, p3, rfl⟩
          simp [part2, hb, this])
  refine ⟨part, ?_, p1, p2, p3⟩
  simp [e]
theorem flatten_rep (n : Nat) : (List.replicate n [D.int 0]).flatten = dI (List.replicate n 0) := by
  induction n with
  | zero => rfl
  | succ n ih => rw [List.replicate_succ, List.flatten_cons, ih]; rfl
theorem o_mulL0 (n : Nat) (S : List D) (h : n ≤ 1000) : oMulL (.lst [.int 0]) (.int n) S = .ok (.loc S.length) (S ++ [.lst (dI (List.replicate n 0))]) := by
  have e : oMul (.lst [.int 0]) (.int (n : Int)) S = .ok (.lst (dI (List.replicate n 0))) S := by
    unfold oMul
    simp only [lstOf]
    rw [if_pos ⟨by omega, by omega, by simp [SL]; omega⟩, Int.toNat_natCast, flatten_rep]
  unfold oMulL
  rw [e]
  rfl
theorem fz_flat (n k : Nat) (S : List D) (d : D) (h : d.flat = true) : fz n S (k + 1) d = some d := by
  unfold fz
  rw [if_pos h]
theorem mapM_flat (n k : Nat) (S : List D) : ∀ ds : List D, D.flats ds = true → ds.mapM (fz n S (k + 1)) = some ds
  | [], _ => rfl
  | d :: ds, h => by
    simp only [fls_cons, Bool.and_eq_true] at h
    rw [List.mapM_cons, fz_flat n k S d h.1, mapM_flat n k S ds h.2]
    rfl
theorem retF_loc {xs S : List D} (h : D.flats xs = true) (n : Nat) (hS : S[n]? = some (.lst xs)) : retF 0 (.loc n) S = .ok (.lst xs) [] := by
  unfold retF
  rw [if_pos ⟨Nat.zero_le _, rfl⟩]
  have : fz 0 S 8 (.loc n) = some (.lst xs) := by
    rw [fz]
    simp [hS]
    rw [mapM_flat 0 6 S xs h]
  rw [this]
  rfl
theorem retF_do {xs : List D} {d : D} (h : D.flats xs = true) (hd : d.flat = true) : retF 0 (.tup [.loc 0, d]) [.lst xs] = .ok (.tup [.lst xs, d]) [] := by
  unfold retF
  rw [if_pos ⟨Nat.zero_le _, rfl⟩]
  have e1 : fz 0 [.lst xs] 7 (.loc 0) = some (.lst xs) := by
    rw [fz]
    simp
    rw [mapM_flat 0 5 _ xs h]
  have : fz 0 [.lst xs] 8 (.tup [.loc 0, d]) = some (.tup [.lst xs, d]) := by
    rw [fz]
    simp [e1, fz_flat 0 6 [.lst xs] d hd]
  rw [this]
  rfl
theorem intsOf_dI : ∀ xs : List Int, intsOf (dI xs) = some xs
  | [] => rfl
  | x :: xs => by
    show (intsOf (dI xs)).map (x :: ·) = _
    rw [intsOf_dI xs]
    rfl
@[simp] theorem b_sum (xs : List Int) (S : List D) : bSum [.lst (dI xs)] S = .ok (.int xs.sum) S := by
  simp only [bSum, seqOf, intsOf_dI]
theorem do_ok {n : Nat} {ps : List Pipe} {counts : List Int} (h : ps.length ≤ 16) (hn : n ≤ 8) (hc : counts.length = n) (h0 : 0 ≤ counts.sum) (hs : counts.sum ≤ 100000) : ∃ done held, F_p_law_do [encF n ps, .lst (dI counts)] [] = .ok (.tup [.lst (dI done), .tup (dI held)]) [] ∧ done.length = n ∧ held.length = ps.length := by
  unfold F_p_law_do S_p_law_do
  rw [fn_ev 2 7 _ rfl]
  simp [some_eq n h, o_mulL0 n _ (by omega : n ≤ 1000), krng1 (show 0 ≤ counts.sum + 1 by omega) (by omega)]
  rcases rng_ret (lo := 0) (n := (counts.sum + 1).toNat) (t := Tg.nm 4) (b := B3_p_law_do) (E := [some (encF n ps), some (.lst (dI counts)), some (.tup (dI (marksT ps))), some (.loc 0), none, none, none]) (S := [.lst (dI (List.replicate n 0))])
    (fun i E S => ∃ held done x4 x5 x6, E = [some (encF n ps), some (.lst (dI counts)), some (.tup (dI held)), some (.loc 0), x4, x5, x6] ∧ S = [.lst (dI done)] ∧ held.length = ps.length ∧ done.length = n)
    (fun d S => ∃ held done, d = .tup [.loc 0, .tup (dI held)] ∧ S = [.lst (dI done)] ∧ held.length = ps.length ∧ done.length = n) ⟨_, _, none, none, none, rfl, rfl, marks_len ps, by simp⟩ (by
      rintro i E S hi ⟨held, done, x4, x5, x6, rfl, rfl, hl, hd⟩
      let fits : List Nat := (List.range n).filter fun k : Nat => decide (ik done k < ik counts k) && canT ps held k
      have e0 : ∀ x4 x5 x6, B3_p_law_do [some (encF n ps), some (.lst (dI counts)), some (.tup (dI held)), some (.loc 0), x4, x5, x6] [.lst (dI done)] = kSeq (sSeq (sIf (tV (eOp oEq (eVar 5) (eArgs bLst aNil))) (sRet (eArgs bTup (aCons (eVar 3) (aCons (eVar 2) aNil)))) sNext) (sSeq (sSet 2 (eArgs (callF F_p_law_next) (aCons (eVar 0) (aCons (eVar 2) (aCons (eOp oIx (eVar 5) (eUn oNeg (eC (.int 1)))) aNil))))) (sPut (eVar 3) (eOp oIx (eVar 5) (eUn oNeg (eC (.int 1)))) (eOp oAdd (eOp oIx (eVar 3) (eOp oIx (eVar 5) (eUn oNeg (eC (.int 1))))) (eC (.int 1)))))) (.nx [some (encF n ps), some (.lst (dI counts)), some (.tup (dI held)), some (.loc 0), x4, some (.lst (dN fits)), x6] [.lst (dI done)]) := by
        intro x4 x5 x6
        unfold B3_p_law_do
        simp [krng1n (show n < 1000000 by omega)]
        rw [lc_filt (List.range n) _ (fun k : Nat => decide (ik done k < ik counts k) && canT ps held k) (fun k : Nat => D.int (k : Int)) (by simp [SL]; omega) (is_rng 0 n _) (fun k hk => ⟨_, rfl, by
          have hk1 : k < done.length := by simp at hk; omega
          have hk2 : k < counts.length := by simp at hk; omega
          unfold C1_p_law_do
          by_cases c : ik done k < ik counts k <;> simp [at_dI hk1, at_dI hk2, c, can_eq n k h hl], fun _ => by
          unfold V2_p_law_do
          simp⟩)]
        have e1 : List.map (fun k : Nat => D.int (k : Int)) ((List.range n).filter fun k : Nat => decide (ik done k < ik counts k) && canT ps held k) = dN fits := rfl
        rw [e1]
        simp
      by_cases hf : fits = []
      · right
        refine ⟨_, _, _, rfl, ?_, held, done, rfl, rfl, hl, hd⟩
        simp only [List.set]
        rw [e0, hf]
        simp
      · left
        have hlast : fits.getLast hf ∈ fits := List.getLast_mem hf
        have hk : fits.getLast hf < n := List.mem_range.mp (List.mem_filter.mp hlast).1
        have e2 : (dN fits).getLast? = some (.int (fits.getLast hf : Nat)) := by
          simp [dN, List.getLast?_map, List.getLast?_eq_getLast hf]
        have e3 : ixOf (dI done).length ((fits.getLast hf : Nat) : Int) = some (fits.getLast hf) := ix_nat (by simp [dI]; omega)
        have e4 : fits.isEmpty = false := by cases hq : fits with | nil => exact absurd hq hf | cons _ _ => rfl
        generalize fits.getLast hf = l at *
        refine turn_nx (E2 := [some (encF n ps), some (.lst (dI counts)), some (.tup (dI (nextT ps held l))), some (.loc 0), some (.int (0 + (i : Nat))), some (.lst (dN fits)), x6]) (S2 := [.lst (dI (done.set l (ik done l + 1)))]) rfl ?_ rfl ?_
        · simp only [List.set]
          rw [e0]
          simp [e2, e3, e4, next_eq n l h hl, at_dI (show l < done.length by omega)]
          simp [dI, List.map_set]
        · exact ⟨_, _, _, _, _, rfl, rfl, nextT_len _ hl, by simp [hd]⟩) with ⟨E', S', e, held, done, x4, x5, x6, rfl, rfl, hl, hd⟩ | ⟨d, S', e, held, done, rfl, rfl, hl, hd⟩
  · refine ⟨done, held, ?_, hd, hl⟩
    simp [e]
    exact retF_do (by simp) (by simp)
  · refine ⟨done, held, ?_, hd, hl⟩
    simp [e]
    exact retF_do (by simp) (by simp)
abbrev ShL := List (Nat × Nat × Nat)
def kN (k : Nat) : Ky := .inl (k : Int)
def keysD (sh : ShL) : List Ky := sh.map fun x => kN x.1
def valsD (sh : ShL) : List D := sh.map fun x => D.tup [.int (x.2.1 : Nat), .int (x.2.2 : Nat)]
def encSh (sh : ShL) : D := .dct (keysD sh) (valsD sh)
def hasK (sh : ShL) (k : Nat) : Prop := ∃ x ∈ sh, x.1 = k
instance (sh : ShL) (k : Nat) : Decidable (hasK sh k) := inferInstanceAs (Decidable (∃ x ∈ sh, x.1 = k))
def shv (sh : ShL) (k : Nat) : Nat × Nat := match sh with
  | [] => (1, 1)
  | x :: r => if x.1 = k then x.2 else shv r k
theorem shv_mem {sh : ShL} {k : Nat} (h : hasK sh k) : (k, shv sh k) ∈ sh := by
  induction sh with
  | nil => obtain ⟨x, hx, _⟩ := h; cases hx
  | cons x r ih =>
    unfold shv
    by_cases c : x.1 = k
    · rw [if_pos c, ← c]; exact List.mem_cons_self
    · rw [if_neg c]
      obtain ⟨y, hy, e⟩ := h
      cases hy with
      | head => exact absurd e c
      | tail _ hy => exact List.mem_cons_of_mem _ (ih ⟨y, hy, e⟩)
theorem key_in (sh : ShL) (k : Nat) : keyIn (keysD sh) (.inl (k : Int)) = decide (hasK sh k) := by
  rw [Bool.eq_iff_iff]
  rw [decide_eq_true_iff]
  unfold keyIn keysD hasK
  rw [List.any_map, List.any_eq_true]
  constructor
  · rintro ⟨x, hx, e⟩
    refine ⟨x, hx, ?_⟩
    simp [kN] at e
    omega
  · rintro ⟨x, hx, e⟩
    refine ⟨x, hx, ?_⟩
    simp [kN, e]
theorem get_k {sh : ShL} {k : Nat} (h : hasK sh k) : getK (keysD sh) (valsD sh) (.inl (k : Int)) = some (.tup [.int ((shv sh k).1 : Nat), .int ((shv sh k).2 : Nat)]) := by
  induction sh with
  | nil => obtain ⟨x, hx, _⟩ := h; cases hx
  | cons x r ih =>
    show (if kN x.1 = .inl (k : Int) then some _ else getK (keysD r) (valsD r) (.inl (k : Int))) = _
    by_cases c : x.1 = k
    · rw [if_pos (by simp [kN, c])]
      simp [shv, c]
    · rw [if_neg (by simp [kN]; omega)]
      obtain ⟨y, hy, e⟩ := h
      cases hy with
      | head => exact absurd e c
      | tail _ hy => rw [ih ⟨y, hy, e⟩]; simp [shv, c]
theorem sh_in (sh : ShL) (k : Nat) (S : List D) : oIn (.int (k : Int)) (.loc 0) (encSh sh :: S) = .ok (.bl (decide (hasK sh k))) (encSh sh :: S) := by
  rw [← key_in]
  rfl
theorem sh_nin (sh : ShL) (k : Nat) (S : List D) : oNin (.int (k : Int)) (.loc 0) (encSh sh :: S) = .ok (.bl (!decide (hasK sh k))) (encSh sh :: S) := by
  rw [← key_in]
  rfl
theorem sh_ix {sh : ShL} {k : Nat} (h : hasK sh k) (S : List D) : oIx (.loc 0) (.int (k : Int)) (encSh sh :: S) = .ok (.tup [.int ((shv sh k).1 : Nat), .int ((shv sh k).2 : Nat)]) (encSh sh :: S) := by
  rw [o_ixO]
  show ixL (some (encSh sh)) _ _ = _
  unfold encSh
  rw [ixL_d, get_k h]
  rfl
theorem sh_put {sh : ShL} {k a b : Nat} (h : ¬ hasK sh k) (hl : sh.length < SL) (S : List D) : putAt (.loc 0) (.int (k : Int)) (.tup [.int (a : Nat), .int (b : Nat)]) (encSh sh :: S) = some (encSh (sh ++ [(k, a, b)]) :: S) := by
  rw [put_loc]
  show putL (some (encSh sh)) _ _ _ _ = _
  unfold putL encSh
  simp only
  have hn : keyIn (keysD sh) (.inl (k : Int)) = false := by rw [key_in]; simp [h]
  rw [if_pos (by simpa [keysD] using hl)]
  unfold putAt.putK
  rw [if_neg (by rw [hn]; simp)]
  simp [keysD, valsD, kN]
structure Sh (n : Nat) (c : Nat → Nat) (x : Nat × Nat × Nat) : Prop where
  k : x.1 < n
  p0 : 1 ≤ x.2.1
  p1 : x.2.1 ≤ 4
  q0 : 1 ≤ x.2.2
  q1 : x.2.2 ≤ 4
  b : ∃ c0, 1 ≤ c0 ∧ c0 ≤ 4 ∧ x.2.1 * c0 = x.2.2 * c x.1
theorem sh_step {n : Nat} {c : Nat → Nat} (hc : ∀ k, 1 ≤ c k ∧ c k ≤ 4) {k1 p q : Nat} (h : Sh n c (k1, p, q)) {k2 g e : Nat} (hk : k2 < n) (hg : 0 < g) (he : 0 < e) (hb : c k1 * g = c k2 * e) :
    Sh n c (k2, p * g / Nat.gcd (p * g) (q * e), q * e / Nat.gcd (p * g) (q * e)) := by
  obtain ⟨_, p0, p1, q0, q1, c0, h1, h2, h3⟩ := h
  simp only at p0 p1 q0 q1 h3
  have hpg : 0 < p * g := Nat.mul_pos p0 hg
  have hqe : 0 < q * e := Nat.mul_pos q0 he
  have hG : 0 < Nat.gcd (p * g) (q * e) := Nat.gcd_pos_of_pos_left _ hpg
  have dP := Nat.div_mul_cancel (Nat.gcd_dvd_left (p * g) (q * e))
  have dQ := Nat.div_mul_cancel (Nat.gcd_dvd_right (p * g) (q * e))
  have cop : Nat.Coprime (p * g / Nat.gcd (p * g) (q * e)) (q * e / Nat.gcd (p * g) (q * e)) := Nat.coprime_div_gcd_div_gcd hG
  generalize Nat.gcd (p * g) (q * e) = G at *
  generalize p * g / G = P at *
  generalize q * e / G = Q at *
  have hP : 0 < P := by
    rcases Nat.eq_zero_or_pos P with z | z
    · rw [z, Nat.zero_mul] at dP; omega
    · exact z
  have hQ : 0 < Q := by
    rcases Nat.eq_zero_or_pos Q with z | z
    · rw [z, Nat.zero_mul] at dQ; omega
    · exact z
  have key : P * c0 = Q * c k2 := by
    apply Nat.eq_of_mul_eq_mul_right hG
    calc P * c0 * G = (P * G) * c0 := by rw [Nat.mul_right_comm]
      _ = (p * c0) * g := by rw [dP, Nat.mul_right_comm]
      _ = q * (c k1 * g) := by rw [h3, Nat.mul_assoc]
      _ = (q * e) * c k2 := by rw [hb, Nat.mul_comm (c k2) e, Nat.mul_assoc]
      _ = Q * c k2 * G := by rw [← dQ, Nat.mul_right_comm]
  have hPd : P ∣ c k2 := cop.dvd_of_dvd_mul_left (k := P) (m := Q) (n := c k2) ⟨c0, key.symm⟩
  have hQd : Q ∣ c0 := cop.symm.dvd_of_dvd_mul_left (k := Q) (m := P) (n := c0) ⟨c k2, key⟩
  exact ⟨hk, hP, Nat.le_trans (Nat.le_of_dvd (by have := (hc k2).1; omega) hPd) (hc k2).2, hQ, Nat.le_trans (Nat.le_of_dvd (by omega) hQd) h2, c0, h1, h2, key⟩
structure BOk (n : Nat) (c : Nat → Nat) (p : Pipe) : Prop where
  ok : POk n 8 6 p
  b : (c p.s.toNat : Int) * p.g = (c p.t.toNat : Int) * p.e
structure Gr (n : Nat) (c : Nat → Nat) (sh sh' : ShL) (m : Nat) : Prop where
  ok : ∀ x ∈ sh', Sh n c x
  keep : ∀ k, hasK sh k → hasK sh' k
  len : sh'.length ≤ sh.length + m
theorem hasK_app (sh : ShL) (x : Nat × Nat × Nat) (k : Nat) : hasK (sh ++ [x]) k ↔ hasK sh k ∨ x.1 = k := by
  unfold hasK
  constructor
  · rintro ⟨y, hy, e⟩
    rcases List.mem_append.mp hy with hy | hy
    · exact .inl ⟨y, hy, e⟩
    · rw [List.mem_singleton.mp hy] at e; exact .inr e
  · rintro (⟨y, hy, e⟩ | e)
    · exact ⟨y, List.mem_append.mpr (.inl hy), e⟩
    · exact ⟨x, by simp, e⟩
theorem gr_add {n : Nat} {c : Nat → Nat} {sh : ShL} {x : Nat × Nat × Nat} (h : ∀ x ∈ sh, Sh n c x) (hx : Sh n c x) : Gr n c sh (sh ++ [x]) 1 :=
  ⟨fun y hy => by rcases List.mem_append.mp hy with hy | hy; exact h y hy; rw [List.mem_singleton.mp hy]; exact hx, fun k hk => (hasK_app sh x k).mpr (.inl hk), by simp⟩
theorem gr_refl {n : Nat} {c : Nat → Nat} {sh : ShL} (h : ∀ x ∈ sh, Sh n c x) (m : Nat) : Gr n c sh sh m := ⟨h, fun _ h => h, by omega⟩
theorem gr_tr {n : Nat} {c : Nat → Nat} {sh sh1 sh2 : ShL} {m m2 : Nat} (h : Gr n c sh sh1 m) (h2 : Gr n c sh1 sh2 m2) : Gr n c sh sh2 (m + m2) :=
  ⟨h2.ok, fun k hk => h2.keep k (h.keep k hk), by have := h.len; have := h2.len; omega⟩
theorem small4 {p : Nat} (h : p ≤ 4) : smallI (p : Int) = true := by simp [smallI]; omega
theorem if_one {n : Nat} {c : Nat → Nat} (hc : ∀ k, 1 ≤ c k ∧ c k ≤ 4) {sh : ShL} (h : ∀ x ∈ sh, Sh n c x) (hl : sh.length < SL) {k1 k2 g e : Nat} (hk : k2 < n) (hg : 0 < g) (he : 0 < e) (hg8 : g ≤ 8) (he8 : e ≤ 8) (hb : c k1 * g = c k2 * e)
    (i j u v : Nat) (E : Env) (h1 : eVar i E = fun S => .ok (.int (k1 : Int)) S) (h2 : eVar j E = fun S => .ok (.int (k2 : Int)) S) (h3 : eVar u E = fun S => .ok (.int (g : Int)) S) (h4 : eVar v E = fun S => .ok (.int (e : Int)) S) (h5 : eVar 1 E = fun S => .ok (.loc 0) S) :
    ∃ sh', sIf (tAnd (tV (eOp oIn (eVar i) (eVar 1))) (tV (eOp oNin (eVar j) (eVar 1)))) (sPut (eVar 1) (eVar j) (eArgs (callF F_p_law_ratio) (aCons (eOp oMul (eOp oIx (eOp oIx (eVar 1) (eVar i)) (eC (.int 0))) (eVar u)) (aCons (eOp oMul (eOp oIx (eOp oIx (eVar 1) (eVar i)) (eC (.int 1))) (eVar v)) aNil)))) sNext E [encSh sh] = .nx E [encSh sh'] ∧ Gr n c sh sh' 1 := by
  by_cases c1 : hasK sh k1
  · by_cases c2 : hasK sh k2
    · refine ⟨sh, ?_, gr_refl h 1⟩
      simp [h1, h2, h5, sh_in, sh_nin, c1, c2]
    · have hs := h _ (shv_mem c1)
      have hs2 := sh_step hc hs hk hg he hb
      refine ⟨_, ?_, gr_add h hs2⟩
      have m1 : ∀ S, oMul (.int ((shv sh k1).1 : Nat)) (.int (g : Int)) S = .ok (.int (((shv sh k1).1 * g : Nat) : Int)) S := fun S => by rw [o_mul (.inl (small4 hs.p1))]; simp
      have m2 : ∀ S, oMul (.int ((shv sh k1).2 : Nat)) (.int (e : Int)) S = .ok (.int (((shv sh k1).2 * e : Nat) : Int)) S := fun S => by rw [o_mul (.inl (small4 hs.q1))]; simp
      have b1 : (shv sh k1).1 * g ≤ 32 := Nat.mul_le_mul hs.p1 hg8
      have b2 : (shv sh k1).2 * e ≤ 32 := Nat.mul_le_mul hs.q1 he8
      have hr := ratio_eq ((shv sh k1).1 * g) ((shv sh k1).2 * e) (Nat.mul_pos hs.p0 hg) (by omega) (Nat.mul_pos hs.q0 he) (by omega)
      generalize ((shv sh k1).1 * g) / Nat.gcd ((shv sh k1).1 * g) ((shv sh k1).2 * e) = P at *
      generalize ((shv sh k1).2 * e) / Nat.gcd ((shv sh k1).1 * g) ((shv sh k1).2 * e) = Q at *
      have hp := fun S => sh_put (a := P) (b := Q) c2 hl S
      simp only [ev_sif, ev_tand, ev_tv, ev_op, h1, h2, h3, h4, h5, bind_ok, kop1, kop2, sh_in, sh_nin, ktv, ktand_t, c1, c2, decide_true, decide_false, Bool.not_false, tO_ok, ksif_t, ev_put, ev_args, ev_cons, ev_nil, sh_ix c1, ev_c, o_ixT, at0, at1, List.getElem?_cons_zero, List.getElem?_cons_succ, okO_s, m1, m2, kcons1, kcons2]
      rw [callI _ _ rfl, hr]
      rw [kc0 rfl]
      simp only [toO_ok, kput0, h5, h2, kput1, kput2', hp, kP_s]
  · refine ⟨sh, ?_, gr_refl h 1⟩
    simp [h1, h2, h5, sh_in, sh_nin, c1]
abbrev oD := Option D
theorem round_pipe {n : Nat} {c : Nat → Nat} (hc : ∀ k, 1 ≤ c k ∧ c k ≤ 4) {sh : ShL} (h : ∀ x ∈ sh, Sh n c x) (hl : sh.length ≤ 100000) {p : Pipe} (hp : BOk n c p) (F : D) (x2 x3 x9 x10 x11 x12 x13 : oD) :
    ∃ sh', B1_p_law_round [some F, some (.loc 0), x2, x3, some (.int p.s), some (.int p.t), some (.int p.g), some (.int p.e), some (.int p.m), x9, x10, x11, x12, x13] [encSh sh] = .nx [some F, some (.loc 0), x2, x3, some (.int p.s), some (.int p.t), some (.int p.g), some (.int p.e), some (.int p.m), x9, x10, x11, x12, x13] [encSh sh'] ∧ Gr n c sh sh' 2 := by
  obtain ⟨s, t, g, e, m⟩ := p
  obtain ⟨⟨a1, a2, a3, a4, a5, a6, a7, a8, a9, a10⟩, b⟩ := hp
  simp only at *
  obtain ⟨s, rfl⟩ := Int.eq_ofNat_of_zero_le a1
  obtain ⟨t, rfl⟩ := Int.eq_ofNat_of_zero_le a3
  obtain ⟨g, rfl⟩ := Int.eq_ofNat_of_zero_le (show 0 ≤ g by omega)
  obtain ⟨e, rfl⟩ := Int.eq_ofNat_of_zero_le (show 0 ≤ e by omega)
  have b' : c s * g = c t * e := by
    simp only [Int.toNat_natCast] at b
    exact_mod_cast b
  unfold B1_p_law_round
  obtain ⟨sh1, e1, g1⟩ := if_one hc h (by unfold SL; omega) (k1 := s) (k2 := t) (g := g) (e := e) (by omega) (by omega) (by omega) (by omega) (by omega) b' 4 5 6 7 [some F, some (.loc 0), x2, x3, some (.int s), some (.int t), some (.int g), some (.int e), some (.int m), x9, x10, x11, x12, x13] rfl rfl rfl rfl rfl
  obtain ⟨sh2, e2, g2⟩ := if_one hc g1.ok (by have := g1.len; unfold SL; omega) (k1 := t) (k2 := s) (g := e) (e := g) (by omega) (by omega) (by omega) (by omega) (by omega) b'.symm 5 4 7 6 [some F, some (.loc 0), x2, x3, some (.int s), some (.int t), some (.int g), some (.int e), some (.int m), x9, x10, x11, x12, x13] rfl rfl rfl rfl rfl
  refine ⟨sh2, ?_, gr_tr g1 g2⟩
  rw [ev_seq, e1, kseq_nx, e2]
theorem round_pipes {n : Nat} {c : Nat → Nat} (hc : ∀ k, 1 ≤ c k ∧ c k ≤ 4) {sh : ShL} (h : ∀ x ∈ sh, Sh n c x) (hl : sh.length ≤ 10000) {ps : List Pipe} (hps : ps.length ≤ 16) (hp : ∀ p ∈ ps, BOk n c p) (x2 x3 x4 x5 x6 x7 x8 x9 x10 x11 x12 x13 : oD) :
    ∃ sh' y4 y5 y6 y7 y8, B2_p_law_round [some (encF n ps), some (.loc 0), x2, x3, x4, x5, x6, x7, x8, x9, x10, x11, x12, x13] [encSh sh] = .nx [some (encF n ps), some (.loc 0), x2, x3, y4, y5, y6, y7, y8, x9, x10, x11, x12, x13] [encSh sh'] ∧ Gr n c sh sh' 32 := by
  unfold B2_p_law_round
  obtain ⟨E', S', e, sh', y4, y5, y6, y7, y8, rfl, rfl, hg⟩ := for_its ps encP (t := .tp [.nm 4, .nm 5, .nm 6, .nm 7, .nm 8]) (b := B1_p_law_round) (E := [some (encF n ps), some (.loc 0), x2, x3, x4, x5, x6, x7, x8, x9, x10, x11, x12, x13]) (S := [encSh sh])
    (fun i E S => ∃ sh' y4 y5 y6 y7 y8, E = [some (encF n ps), some (.loc 0), x2, x3, y4, y5, y6, y7, y8, x9, x10, x11, x12, x13] ∧ S = [encSh sh'] ∧ Gr n c sh sh' (2 * i)) ⟨sh, x4, x5, x6, x7, x8, rfl, rfl, gr_refl h 0⟩ (by
      rintro i E S hi ⟨sh', y4, y5, y6, y7, y8, rfl, rfl, hg⟩
      obtain ⟨sh2, e, g2⟩ := round_pipe hc hg.ok (by have := hg.len; omega) (hp ps[i] (List.getElem_mem hi)) (encF n ps) x2 x3 x9 x10 x11 x12 x13
      exact turn_nx rfl e rfl ⟨sh2, _, _, _, _, _, rfl, rfl, gr_tr hg g2⟩)
  refine ⟨sh', y4, y5, y6, y7, y8, ?_, hg.ok, hg.keep, by have := hg.len; omega⟩
  simp [e]
theorem round_box {n : Nat} {c : Nat → Nat} (hc : ∀ k, 1 ≤ c k ∧ c k ≤ 4) (hn : n ≤ 8) {sh : ShL} (h : ∀ x ∈ sh, Sh n c x) (hl : sh.length ≤ 5000) {ps : List Pipe} (hps : ps.length ≤ 16) (hp : ∀ p ∈ ps, BOk n c p) {k : Nat} (hk : k < n) (x3 x4 x5 x6 x7 x8 x9 x10 x11 x12 x13 : oD) :
    ∃ sh' y3 y4 y5 y6 y7 y8, B3_p_law_round [some (encF n ps), some (.loc 0), some (.int k), x3, x4, x5, x6, x7, x8, x9, x10, x11, x12, x13] [encSh sh] = .nx [some (encF n ps), some (.loc 0), some (.int k), y3, y4, y5, y6, y7, y8, x9, x10, x11, x12, x13] [encSh sh'] ∧ Gr n c sh sh' 300 ∧ hasK sh' k := by
  unfold B3_p_law_round
  by_cases c1 : hasK sh k
  · refine ⟨sh, x3, x4, x5, x6, x7, x8, ?_, gr_refl h 300, c1⟩
    simp [sh_nin, c1]
  · have hs : Sh n c (k, 1, 1) := ⟨hk, by simp, by simp, by simp, by simp, c k, (hc k).1, (hc k).2, rfl⟩
    have g0 := gr_add h hs
    have hk0 : hasK (sh ++ [(k, 1, 1)]) k := (hasK_app _ _ _).mpr (.inr rfl)
    have hput := sh_put (a := 1) (b := 1) c1 (show sh.length < SL by unfold SL; omega) []
    generalize sh ++ [(k, 1, 1)] = sh1 at *
    obtain ⟨E', S', e, sh', y3, y4, y5, y6, y7, y8, rfl, rfl, hg⟩ := for_rng (lo := 0) (n := n) (t := .nm 3) (b := B2_p_law_round) (E := [some (encF n ps), some (.loc 0), some (.int k), x3, x4, x5, x6, x7, x8, x9, x10, x11, x12, x13]) (S := [encSh sh1])
      (fun i E S => ∃ sh' y3 y4 y5 y6 y7 y8, E = [some (encF n ps), some (.loc 0), some (.int k), y3, y4, y5, y6, y7, y8, x9, x10, x11, x12, x13] ∧ S = [encSh sh'] ∧ Gr n c sh1 sh' (32 * i)) ⟨sh1, x3, x4, x5, x6, x7, x8, rfl, rfl, gr_refl g0.ok 0⟩ (by
        rintro i E S hi ⟨sh', y3, y4, y5, y6, y7, y8, rfl, rfl, hg⟩
        obtain ⟨sh2, z4, z5, z6, z7, z8, e, g2⟩ := round_pipes hc hg.ok (by have := hg.len; have := g0.len; omega) hps hp (some (.int k)) (some (.int (0 + (i : Nat)))) y4 y5 y6 y7 y8 x9 x10 x11 x12 x13
        exact turn_nx rfl e rfl ⟨sh2, _, _, _, _, _, _, rfl, rfl, gr_tr hg g2⟩)
    refine ⟨sh', y3, y4, y5, y6, y7, y8, ?_, ⟨hg.ok, fun j hj => hg.keep j (g0.keep j hj), by have := hg.len; have := g0.len; omega⟩, hg.keep k hk0⟩
    have hput' : putAt (D.loc 0) (D.int (k : Int)) (D.tup [D.int 1, D.int 1]) [encSh sh] = some [encSh sh1] := hput
    simp [-put_loc, sh_nin, c1, hput', krng1n (show n < 1000000 by omega), e]
theorem shares_ok {n : Nat} {c : Nat → Nat} (hc : ∀ k, 1 ≤ c k ∧ c k ≤ 4) (hn : n ≤ 8) {ps : List Pipe} (hps : ps.length ≤ 16) (hp : ∀ p ∈ ps, BOk n c p) :
    ∃ sh y2 y3 y4 y5 y6 y7 y8, forS (.rng 0 n) (.nm 2) B3_p_law_round [some (encF n ps), some (.loc 0), none, none, none, none, none, none, none, none, none, none, none, none] [encSh []] = .nx [some (encF n ps), some (.loc 0), y2, y3, y4, y5, y6, y7, y8, none, none, none, none, none] [encSh sh] ∧ (∀ x ∈ sh, Sh n c x) ∧ ∀ k, k < n → hasK sh k := by
  obtain ⟨E', S', e, sh, y2, y3, y4, y5, y6, y7, y8, rfl, rfl, h1, h2, h3⟩ := for_rng (lo := 0) (n := n) (t := .nm 2) (b := B3_p_law_round) (E := [some (encF n ps), some (.loc 0), none, none, none, none, none, none, none, none, none, none, none, none]) (S := [encSh []])
    (fun i E S => ∃ sh y2 y3 y4 y5 y6 y7 y8, E = [some (encF n ps), some (.loc 0), y2, y3, y4, y5, y6, y7, y8, none, none, none, none, none] ∧ S = [encSh sh] ∧ (∀ x ∈ sh, Sh n c x) ∧ sh.length ≤ 300 * i ∧ ∀ k, k < i → hasK sh k) ⟨[], none, none, none, none, none, none, none, rfl, rfl, by simp, by simp, by simp⟩ (by
      rintro i E S hi ⟨sh, y2, y3, y4, y5, y6, y7, y8, rfl, rfl, h1, h2, h3⟩
      obtain ⟨sh', z3, z4, z5, z6, z7, z8, e, g, hk⟩ := round_box hc hn h1 (by omega) hps hp hi y3 y4 y5 y6 y7 y8 none none none none none
      refine turn_nx rfl (E2 := [some (encF n ps), some (.loc 0), some (.int i), z3, z4, z5, z6, z7, z8, none, none, none, none, none]) (S2 := [encSh sh']) ?_ rfl ?_
      · rw [← e]; simp
      · refine ⟨sh', _, z3, z4, z5, z6, z7, z8, rfl, rfl, g.ok, by have := g.len; omega, fun k hk2 => ?_⟩
        rcases Nat.lt_or_ge k i with q | q
        · exact g.keep k (h3 k q)
        · have : k = i := by omega
          subst this; exact hk)
  exact ⟨sh, y2, y3, y4, y5, y6, y7, y8, e, h1, h3⟩
theorem up_map (part : List Nat) : dI (up part) = part.map fun k : Nat => D.int (k : Int) := by simp [dI, up]
theorem loopA {n : Nat} {c : Nat → Nat} {sh : ShL} (h : ∀ x ∈ sh, Sh n c x) (hk : ∀ k, k < n → hasK sh k) {part : List Nat} (h1 : ∀ k ∈ part, k < n) (h2 : part.length ≤ 5) (F L : D) (x2 x3 x4 x5 x6 x7 x8 x9 x10 x12 x13 : oD) :
    ∃ (below : Nat) (y : oD), forS (.its (dI (up part))) (.nm 13) B4_p_law_round [some F, some (.loc 0), x2, x3, x4, x5, x6, x7, x8, x9, x10, some (.int 1), x12, x13] [encSh sh, L] = .nx [some F, some (.loc 0), x2, x3, x4, x5, x6, x7, x8, x9, x10, some (.int (below : Nat)), x12, y] [encSh sh, L] ∧ 1 ≤ below ∧ below ≤ 1024 ∧ ∀ k ∈ part, (shv sh k).2 ∣ below := by
  rw [up_map]
  obtain ⟨E', S', e, below, y, rfl, rfl, b1, b2, b3⟩ := for_its part (fun k : Nat => D.int (k : Int)) (t := .nm 13) (b := B4_p_law_round) (E := [some F, some (.loc 0), x2, x3, x4, x5, x6, x7, x8, x9, x10, some (.int 1), x12, x13]) (S := [encSh sh, L])
    (fun i E S => ∃ (below : Nat) (y : oD), E = [some F, some (.loc 0), x2, x3, x4, x5, x6, x7, x8, x9, x10, some (.int (below : Nat)), x12, y] ∧ S = [encSh sh, L] ∧ 1 ≤ below ∧ below ≤ 4 ^ i ∧ ∀ j (hj : j < part.length), j < i → (shv sh part[j]).2 ∣ below) ⟨1, x13, rfl, rfl, by simp, by simp, by simp⟩ (by
      rintro i E S hi ⟨below, y, rfl, rfl, b1, b2, b3⟩
      have hki := hk part[i] (h1 _ (List.getElem_mem hi))
      have hs := h _ (shv_mem hki)
      have hq0 := hs.q0; have hq1 := hs.q1
      simp only at hq0 hq1
      refine turn_nx (E2 := [some F, some (.loc 0), x2, x3, x4, x5, x6, x7, x8, x9, x10, some (.int (Nat.lcm below (shv sh part[i]).2 : Nat)), x12, some (.int (part[i] : Nat))]) (S2 := [encSh sh, L]) rfl ?_ rfl ?_
      · unfold B4_p_law_round
        have hg : 0 < Nat.gcd below (shv sh part[i]).2 := Nat.gcd_pos_of_pos_left _ b1
        have hg2 : Nat.gcd below (shv sh part[i]).2 ≤ 4 := Nat.le_trans (Nat.gcd_le_right _ hq0) hq1
        have m1 : ∀ S, oMul (.int (below : Nat)) (.int ((shv sh part[i]).2 : Nat)) S = .ok (.int ((below * (shv sh part[i]).2 : Nat) : Int)) S := fun S => by rw [o_mul (.inr (small4 hq1))]; simp
        have d1 : ∀ (a : Nat) S, oDiv (.int (a : Nat)) (.int (Nat.gcd below (shv sh part[i]).2 : Nat)) S = .ok (.int ((a / Nat.gcd below (shv sh part[i]).2 : Nat) : Int)) S := fun a S => by rw [o_div (by omega) (by omega)]; simp
        simp [-o_ixO, sh_ix hki, m1, gcd_eq below (shv sh part[i]).2 (by omega)]
        simp only [← Int.natCast_mul, d1, toO_ok, kset, List.set]
        rfl
      · refine ⟨_, _, rfl, rfl, Nat.lcm_pos b1 hq0, ?_, ?_⟩
        · rw [Nat.pow_succ]
          have : Nat.lcm below (shv sh part[i]).2 ≤ below * (shv sh part[i]).2 := Nat.le_of_dvd (Nat.mul_pos b1 hq0) (Nat.lcm_dvd_mul _ _)
          exact Nat.le_trans this (Nat.mul_le_mul b2 hq1)
        · intro j hj hji
          rcases Nat.lt_or_ge j i with q | q
          · exact Nat.dvd_trans (b3 j hj q) (Nat.dvd_lcm_left _ _)
          · have : j = i := by omega
            subst this; exact Nat.dvd_lcm_right _ _)
  refine ⟨below, y, e, b1, Nat.le_trans b2 (Nat.le_trans (Nat.pow_le_pow_right (by omega) h2) (by decide)), fun k hkp => ?_⟩
  obtain ⟨j, hj, rfl⟩ := List.getElem_of_mem hkp
  exact b3 j hj hj
theorem loopB {n : Nat} {c : Nat → Nat} {sh : ShL} (h : ∀ x ∈ sh, Sh n c x) (hk : ∀ k, k < n → hasK sh k) {part : List Nat} (h1 : ∀ k ∈ part, k < n) (h2 : part ≠ []) {below : Nat} (b1 : 1 ≤ below) (b2 : below ≤ 1024) (b3 : ∀ k ∈ part, (shv sh k).2 ∣ below) (F L : D) (x2 x3 x4 x5 x6 x7 x8 x9 x10 x13 : oD) :
    ∃ (com : Nat) (y : oD), forS (.its (dI (up part))) (.nm 13) B5_p_law_round [some F, some (.loc 0), x2, x3, x4, x5, x6, x7, x8, x9, x10, some (.int (below : Nat)), some (.int 0), x13] [encSh sh, L] = .nx [some F, some (.loc 0), x2, x3, x4, x5, x6, x7, x8, x9, x10, some (.int (below : Nat)), some (.int (com : Nat)), y] [encSh sh, L] ∧ 1 ≤ com ∧ com ≤ 4096 := by
  rw [up_map]
  obtain ⟨E', S', e, com, y, rfl, rfl, c1, c2⟩ := for_its part (fun k : Nat => D.int (k : Int)) (t := .nm 13) (b := B5_p_law_round) (E := [some F, some (.loc 0), x2, x3, x4, x5, x6, x7, x8, x9, x10, some (.int (below : Nat)), some (.int 0), x13]) (S := [encSh sh, L])
    (fun i E S => ∃ (com : Nat) (y : oD), E = [some F, some (.loc 0), x2, x3, x4, x5, x6, x7, x8, x9, x10, some (.int (below : Nat)), some (.int (com : Nat)), y] ∧ S = [encSh sh, L] ∧ com ≤ 4096 ∧ (0 < i → 1 ≤ com)) ⟨0, x13, rfl, rfl, by simp, by simp⟩ (by
      rintro i E S hi ⟨com, y, rfl, rfl, c1, c2⟩
      have hm := List.getElem_mem hi
      have hki := hk part[i] (h1 _ hm)
      have hs := h _ (shv_mem hki)
      have hq0 := hs.q0; have hq1 := hs.q1; have hp0 := hs.p0; have hp1 := hs.p1
      simp only at hq0 hq1 hp0 hp1
      have hq := b3 _ hm
      generalize hpe : (shv sh part[i]).1 = p at *
      generalize hqe : (shv sh part[i]).2 = q at *
      have v1 : 0 < below * p / q := Nat.div_pos (Nat.le_trans (Nat.le_of_dvd b1 hq) (Nat.le_mul_of_pos_right _ hp0)) hq0
      have v2 : below * p / q ≤ 4096 := Nat.le_trans (Nat.div_le_self _ _) (Nat.mul_le_mul b2 hp1)
      refine turn_nx (E2 := [some F, some (.loc 0), x2, x3, x4, x5, x6, x7, x8, x9, x10, some (.int (below : Nat)), some (.int (Nat.gcd com (below * p / q) : Nat)), some (.int (part[i] : Nat))]) (S2 := [encSh sh, L]) rfl ?_ rfl ?_
      · unfold B5_p_law_round
        have m1 : ∀ S, oMul (.int (below : Nat)) (.int (p : Nat)) S = .ok (.int ((below * p : Nat) : Int)) S := fun S => by rw [o_mul (.inr (small4 hp1))]; simp
        have d1 : ∀ S, oDiv (.int ((below * p : Nat) : Int)) (.int (q : Nat)) S = .ok (.int ((below * p / q : Nat) : Int)) S := fun S => by rw [o_div (by omega) (by omega)]; simp
        have hg := gcd_eq com (below * p / q) (by omega)
        have hix : ∀ S, oIx (.loc 0) (.int (part[i] : Nat)) (encSh sh :: S) = .ok (.tup [.int (p : Nat), .int (q : Nat)]) (encSh sh :: S) := fun S => by rw [sh_ix hki, hpe, hqe]
        simp only [List.set_cons_succ, List.set_cons_zero, ev_set, ev_args, ev_cons, ev_nil, ev_op, ev_var0, ev_varS, ev_c, bind_ok, kop1, kop2, hix, o_ixT, at0, at1, List.getElem?_cons_zero, List.getElem?_cons_succ, okO_s, m1, d1, kcons1, kcons2]
        rw [callI _ _ rfl, hg, kc0 rfl]
        rfl
      · exact ⟨_, _, rfl, rfl, Nat.le_trans (Nat.gcd_le_right _ v1) v2, fun _ => Nat.gcd_pos_of_pos_right _ v1⟩)
  exact ⟨com, y, e, c2 (List.length_pos_iff.mpr h2), c1⟩
theorem foundT {n : Nat} {c : Nat → Nat} (hn : n ≤ 5) {sh : ShL} (h : ∀ x ∈ sh, Sh n c x) (hk : ∀ k, k < n → hasK sh k) {ps : List Pipe} (hps : ps.length ≤ 16) {k : Nat} (hkn : k < n) {found : List Int} (hf : found.length ≤ 10) (x3 x4 x5 x6 x7 x8 x10 x11 x12 x13 : oD) :
    ∃ (v : Nat) (y10 y11 y12 y13 : oD), B6_p_law_round [some (encF n ps), some (.loc 0), some (.int k), x3, x4, x5, x6, x7, x8, some (.loc 1), x10, x11, x12, x13] [encSh sh, .lst (dI found)] = .nx [some (encF n ps), some (.loc 0), some (.int k), x3, x4, x5, x6, x7, x8, some (.loc 1), y10, y11, y12, y13] [encSh sh, .lst (dI (found ++ [(v : Int)]))] ∧ v ≤ 4096 := by
  unfold B6_p_law_round
  obtain ⟨part, e1, p1, p2, p3⟩ := joined_ok (ps := ps) hps (show n ≤ 8 by omega) hkn
  obtain ⟨below, y, e2, b1, b2, b3⟩ := loopA h hk p1 (by omega) (encF n ps) (.lst (dI found)) (some (.int k)) x3 x4 x5 x6 x7 x8 (some (.loc 1)) (some (.lst (dI (up part)))) (some (.int 0)) x13
  obtain ⟨com, y2, e3, c1, c2⟩ := loopB h hk p1 (by intro q; rw [q] at p3; cases p3) b1 b2 b3 (encF n ps) (.lst (dI found)) (some (.int k)) x3 x4 x5 x6 x7 x8 (some (.loc 1)) (some (.lst (dI (up part)))) y
  have hki := hk k hkn
  have hs := h _ (shv_mem hki)
  have hq0 := hs.q0; have hq1 := hs.q1; have hp0 := hs.p0; have hp1 := hs.p1
  simp only at hq0 hq1 hp0 hp1
  generalize hpe : (shv sh k).1 = p at *
  generalize hqe : (shv sh k).2 = q at *
  have v2 : below * p / q / com ≤ 4096 := Nat.le_trans (Nat.div_le_self _ _) (Nat.le_trans (Nat.div_le_self _ _) (Nat.mul_le_mul b2 hp1))
  refine ⟨below * p / q / com, some (.lst (dI (up part))), some (.int (below : Nat)), some (.int (com : Nat)), y2, ?_, v2⟩
  have m1 : ∀ S, oMul (.int (below : Nat)) (.int (p : Nat)) S = .ok (.int ((below * p : Nat) : Int)) S := fun S => by rw [o_mul (.inr (small4 hp1))]; simp
  have d1 : ∀ (a : Nat) S, oDiv (.int (a : Nat)) (.int (q : Nat)) S = .ok (.int ((a / q : Nat) : Int)) S := fun a S => by rw [o_div (by omega) (by omega)]; simp
  have d2 : ∀ (a : Nat) S, oDiv (.int (a : Nat)) (.int (com : Nat)) S = .ok (.int ((a / com : Nat) : Int)) S := fun a S => by rw [o_div (by omega) (by omega)]; simp
  have hix : ∀ S, oIx (.loc 0) (.int (k : Nat)) (encSh sh :: S) = .ok (.tup [.int (p : Nat), .int (q : Nat)]) (encSh sh :: S) := fun S => by rw [sh_ix hki, hpe, hqe]
  have hfl : (dI found).length < SL := by simp [dI, SL]; omega
  have hfa : dI (found ++ [((below * p / q / com : Nat) : Int)]) = dI found ++ [.int ((below * p / q / com : Nat) : Int)] := by simp [dI]
  rw [hfa]
  simp only [ev_seq, ev_par, ev_cons, ev_args, ev_nil, ev_var0, ev_varS, ev_c, bind_ok, kcons1, kcons2, call_encF _ _ _ _ _ (show D.flats [D.int (k : Int), D.bl true] = true from rfl), e1, kc0 (show (D.lst (dI (up part))).flat = true by simp), kpar3, List.set_cons_succ, List.set_cons_zero, kseq_nx, ev_for, ev_iseq, kseqi, src_lst, kSrc_s, kfor, e2, e3]
  simp only [ev_expr, ev_meth, ev_var0, ev_varS, bind_ok]
  rw [km1o (by rfl)]
  simp only [ev_cons, ev_nil, ev_op, ev_var0, ev_varS, ev_c, bind_ok, kop1, kop2, hix, o_ixT, at0, at1, List.getElem?_cons_zero, List.getElem?_cons_succ, okO_s, m1, d1, d2, kcons1, kcons2, m_app, apL_l _ hfl, toO_ok, kexpr, List.set_cons_succ, List.set_cons_zero]
theorem round_ok {n : Nat} {c : Nat → Nat} (hc : ∀ k, 1 ≤ c k ∧ c k ≤ 4) (hn : n ≤ 5) {ps : List Pipe} (hps : ps.length ≤ 16) (hp : ∀ p ∈ ps, BOk n c p) :
    ∃ counts : List Int, F_p_law_round [encF n ps] [] = .ok (.lst (dI counts)) [] ∧ counts.length = n ∧ ∀ v ∈ counts, 0 ≤ v ∧ v ≤ 4096 := by
  unfold F_p_law_round S_p_law_round
  rw [fn_ev 1 14 _ rfl]
  obtain ⟨sh, y2, y3, y4, y5, y6, y7, y8, e1, h1, h2⟩ := shares_ok hc (by omega) hps hp
  obtain ⟨E', S', e, found, z2, z10, z11, z12, z13, rfl, rfl, f1, f2⟩ := for_rng (lo := 0) (n := n) (t := .nm 2) (b := B6_p_law_round) (E := [some (encF n ps), some (.loc 0), y2, y3, y4, y5, y6, y7, y8, some (.loc 1), none, none, none, none]) (S := [encSh sh, .lst []])
    (fun i E S => ∃ (found : List Int) (z2 z10 z11 z12 z13 : oD), E = [some (encF n ps), some (.loc 0), z2, y3, y4, y5, y6, y7, y8, some (.loc 1), z10, z11, z12, z13] ∧ S = [encSh sh, .lst (dI found)] ∧ found.length = i ∧ ∀ v ∈ found, 0 ≤ v ∧ v ≤ 4096) ⟨[], y2, none, none, none, none, rfl, rfl, rfl, by simp⟩ (by
      rintro i E S hi ⟨found, z2, z10, z11, z12, z13, rfl, rfl, f1, f2⟩
      obtain ⟨v, w10, w11, w12, w13, e, hv⟩ := foundT hn h1 h2 hps hi (show found.length ≤ 10 by omega) y3 y4 y5 y6 y7 y8 z10 z11 z12 z13
      refine turn_nx rfl (E2 := [some (encF n ps), some (.loc 0), some (.int i), y3, y4, y5, y6, y7, y8, some (.loc 1), w10, w11, w12, w13]) (S2 := [encSh sh, .lst (dI (found ++ [(v : Int)]))]) ?_ rfl ?_
      · rw [← e]; simp
      · refine ⟨found ++ [(v : Int)], _, w10, w11, w12, w13, rfl, rfl, by simp [f1], ?_⟩
        intro x hx
        rcases List.mem_append.mp hx with hx | hx
        · exact f2 x hx
        · rw [List.mem_singleton.mp hx]; omega)
  refine ⟨found, ?_, f1, f2⟩
  have e0 : ∀ E : Env, eDctL E [] = .ok (.loc 0) [encSh []] := fun _ => rfl
  simp [e0, krng1n (show n < 1000000 by omega), e1, e]
  exact retF_loc (by simp) 1 rfl
theorem pick134 (r : Row) (hp : 0 ≤ r.pos) : ∃ (v : Nat) (r' : Row), F_p_law_pick [.loc 0, .lst [.int 1, .int 3, .int 4]] [encRow r] = .ok (.int (v : Nat)) [encRow r'] ∧ 1 ≤ v ∧ v ≤ 4 ∧ 0 ≤ r'.pos := by
  obtain ⟨d, r', hd, e, hp'⟩ := pick_ok r [.int 1, .int 3, .int 4] rfl hp (by simp) (by simp)
  simp at hd
  rcases hd with rfl | rfl | rfl
  · exact ⟨1, r', e, by omega, by omega, hp'⟩
  · exact ⟨3, r', e, by omega, by omega, hp'⟩
  · exact ⟨4, r', e, by omega, by omega, hp'⟩
theorem pick112 (r : Row) (hp : 0 ≤ r.pos) : ∃ (v : Nat) (r' : Row), F_p_law_pick [.loc 0, .lst [.int 1, .int 1, .int 2]] [encRow r] = .ok (.int (v : Nat)) [encRow r'] ∧ 1 ≤ v ∧ v ≤ 2 ∧ 0 ≤ r'.pos := by
  obtain ⟨d, r', hd, e, hp'⟩ := pick_ok r [.int 1, .int 1, .int 2] rfl hp (by simp) (by simp)
  simp at hd
  rcases hd with rfl | rfl
  · exact ⟨1, r', e, by omega, by omega, hp'⟩
  · exact ⟨2, r', e, by omega, by omega, hp'⟩
theorem takenN (r : Row) (m : Nat) (hp : 0 ≤ r.pos) (h : 0 < m) (h2 : m < 1000000) : ∃ (v : Nat) (r' : Row), F_p_law_taken [.loc 0, .int (m : Nat)] [encRow r] = .ok (.int (v : Nat)) [encRow r'] ∧ v < m ∧ 0 ≤ r'.pos := by
  obtain ⟨v, r', e, h1, h3, h4⟩ := taken_ok r m hp (by omega) (by omega)
  obtain ⟨v, rfl⟩ := Int.eq_ofNat_of_zero_le h1
  exact ⟨v, r', e, by omega, h4⟩
def encPr (x : Nat × Nat) : D := .tup [.int (x.1 : Nat), .int (x.2 : Nat)]
@[simp] theorem fl_encPr (x : Nat × Nat) : (encPr x).flat = true := id rfl
@[simp] theorem flats_prs (xs : List (Nat × Nat)) : D.flats (xs.map encPr) = true := flats_map _ fl_encPr xs
theorem counts_ok {n : Nat} (hn : n ≤ 5) (r : Row) (hp : 0 ≤ r.pos) (M T W : D) (x6 x7 x8 x9 x10 x11 x12 x13 x14 : oD) :
    ∃ (cs : List Nat) (r' : Row), lcS false (.rng 0 n) [7] (.nm 7) J.tYes V1_p_law_flow [some (.loc 0), some M, some T, some (.int n), some W, some (.loc 1), x6, x7, x8, x9, x10, x11, x12, x13, x14] [encRow r, .lst []] = .ok (.lst (dN cs)) [encRow r', .lst []] ∧ cs.length = n ∧ (∀ k ∈ cs, 1 ≤ k ∧ k ≤ 4) ∧ 0 ≤ r'.pos := by
  obtain ⟨acc, S', e, r', cs, rfl, rfl, h1, h2, h3⟩ := lc_inv (src := .rng 0 n) (own := [7]) (t := .nm 7) (c := J.tYes) (e := V1_p_law_flow) (E := [some (.loc 0), some M, some T, some (.int n), some W, some (.loc 1), x6, x7, x8, x9, x10, x11, x12, x13, x14]) (S := [encRow r, .lst []]) ((List.range n).map fun i => .int (0 + (i : Nat)))
    (fun i acc S => ∃ r cs, S = [encRow r, .lst []] ∧ acc = dN cs ∧ cs.length = i ∧ (∀ k ∈ cs, 1 ≤ k ∧ k ≤ 4) ∧ 0 ≤ r.pos) (by simp [SL]; omega) ⟨r, [], rfl, rfl, rfl, by simp, hp⟩ (fun i acc S _ => is_rng 0 n S) (by
      rintro i d acc S ⟨r, cs, rfl, rfl, h1, h2, h3⟩ hd
      obtain ⟨v, r1, e1, b1, b2, q1⟩ := pick134 r h3
      obtain ⟨w, r2, e2, b3, q2⟩ := takenN r1 v q1 b1 (by omega)
      refine ⟨_, rfl, .inr ⟨_, .int ((1 + w : Nat) : Int), [encRow r2, .lst []], rfl, ?_, rfl, r2, cs ++ [1 + w], rfl, by simp [dN], by simp [h1], ?_, q2⟩⟩
      · unfold V1_p_law_flow
        simp [e1, e2]
      · intro k hk
        rcases List.mem_append.mp hk with hk | hk
        · exact h2 k hk
        · rw [List.mem_singleton.mp hk]; omega)
  exact ⟨cs, r', e, by simpa using h1, h2, h3⟩
theorem tree_ok {n : Nat} (hn : n ≤ 5) (r : Row) (hp : 0 ≤ r.pos) {w : Nat} (M T C : D) (x7 x8 x9 x10 x11 x12 x13 x14 : oD) :
    ∃ (prs : List (Nat × Nat)) (r' : Row) (y7 y8 : oD), forS (.rng 1 (n - 1)) (.nm 7) B2_p_law_flow [some (.loc 0), some M, some T, some (.int n), some (.int (w : Nat)), some (.loc 1), some C, x7, x8, x9, x10, x11, x12, x13, x14] [encRow r, .lst []] = .nx [some (.loc 0), some M, some T, some (.int n), some (.int (w : Nat)), some (.loc 1), some C, y7, y8, x9, x10, x11, x12, x13, x14] [encRow r', .lst (prs.map encPr)] ∧ prs.length ≤ 4 ∧ (∀ x ∈ prs, x.1 < n ∧ x.2 < n) ∧ 0 ≤ r'.pos := by
  obtain ⟨E', S', e, prs, r', y7, y8, rfl, rfl, h1, h2, h3⟩ := for_rng (lo := 1) (n := n - 1) (t := .nm 7) (b := B2_p_law_flow) (E := [some (.loc 0), some M, some T, some (.int n), some (.int (w : Nat)), some (.loc 1), some C, x7, x8, x9, x10, x11, x12, x13, x14]) (S := [encRow r, .lst []])
    (fun i E S => ∃ prs r' y7 y8, E = [some (.loc 0), some M, some T, some (.int n), some (.int (w : Nat)), some (.loc 1), some C, y7, y8, x9, x10, x11, x12, x13, x14] ∧ S = [encRow r', .lst (prs.map encPr)] ∧ prs.length ≤ i ∧ (∀ x ∈ prs, x.1 < n ∧ x.2 < n) ∧ 0 ≤ r'.pos) ⟨[], r, x7, x8, rfl, rfl, by simp, by simp, hp⟩ (by
      rintro i E S hi ⟨prs, r, y7, y8, rfl, rfl, h1, h2, h3⟩
      have hL : prs.length < SL := by unfold SL; omega
      have hk : (1 : Int) + (i : Nat) = ((1 + i : Nat) : Int) := by simp
      rw [hk]
      obtain ⟨v, r1, e1, b1, q1⟩ := takenN r 8 h3 (by omega) (by omega)
      have e1' : F_p_law_taken [.loc 0, .int 8] [encRow r] = .ok (.int (v : Nat)) [encRow r1] := e1
      by_cases hv : 0 < v
      · -- a pipe is laid
        have hpair : ∃ (a : Nat) (r2 : Row), a < n ∧ 0 ≤ r2.pos ∧ (∀ y8, eIf (tV (eOp oEq (eVar 4) (eC (.int 0)))) (eOp oSub (eVar 7) (eC (.int 1))) (eArgs (callF F_p_law_taken) (aCons (eVar 0) (aCons (eVar 7) aNil))) [some (.loc 0), some M, some T, some (.int n), some (.int (w : Nat)), some (.loc 1), some C, some (.int ((1 + i : Nat) : Int)), y8, x9, x10, x11, x12, x13, x14] [encRow r1, .lst (prs.map encPr)] = .ok (.int (a : Nat)) [encRow r2, .lst (prs.map encPr)]) := by
          by_cases hw : w = 0
          · refine ⟨i, r1, by omega, q1, fun y8 => ?_⟩
            subst hw
            simp
            omega
          · obtain ⟨a, r2, e2, b2, q2⟩ := takenN r1 (1 + i) q1 (by omega) (by omega)
            refine ⟨a, r2, by omega, q2, fun y8 => ?_⟩
            simp [-Int.natCast_add, hw, e2]
        obtain ⟨a, r2, ha, q2, e2⟩ := hpair
        obtain ⟨u, r3, e3, b3, q3⟩ := takenN r2 3 q2 (by omega) (by omega)
        have e3' : F_p_law_taken [.loc 0, .int 3] [encRow r2] = .ok (.int (u : Nat)) [encRow r3] := e3
        have hprs : ∀ (x : Nat × Nat), x.1 < n → x.2 < n → ∀ y ∈ prs ++ [x], y.1 < n ∧ y.2 < n := by
          intro x hx1 hx2 y hy
          rcases List.mem_append.mp hy with hy | hy
          · exact h2 y hy
          · rw [List.mem_singleton.mp hy]; exact ⟨hx1, hx2⟩
        by_cases hu : 0 < u
        · refine turn_nx (E2 := [some (.loc 0), some M, some T, some (.int n), some (.int (w : Nat)), some (.loc 1), some C, some (.int ((1 + i : Nat) : Int)), some (.tup [.int (a : Nat), .int ((1 + i : Nat) : Int)]), x9, x10, x11, x12, x13, x14]) (S2 := [encRow r3, .lst ((prs ++ [(a, 1 + i)]).map encPr)]) rfl ?_ rfl ?_
          · unfold B2_p_law_flow
            simp [-Int.natCast_add, -ev_if, e1', hv, e2]
            simp [-Int.natCast_add, e3', hu, hL, encPr]
          · exact ⟨prs ++ [(a, 1 + i)], r3, _, _, rfl, rfl, by simp; omega, hprs _ ha (by simp only; omega), q3⟩
        · refine turn_nx (E2 := [some (.loc 0), some M, some T, some (.int n), some (.int (w : Nat)), some (.loc 1), some C, some (.int ((1 + i : Nat) : Int)), some (.tup [.int (a : Nat), .int ((1 + i : Nat) : Int)]), x9, x10, x11, x12, x13, x14]) (S2 := [encRow r3, .lst ((prs ++ [(1 + i, a)]).map encPr)]) rfl ?_ rfl ?_
          · unfold B2_p_law_flow
            simp [-Int.natCast_add, -ev_if, e1', hv, e2]
            simp [-Int.natCast_add, e3', hu, hL, encPr]
          · exact ⟨prs ++ [(1 + i, a)], r3, _, _, rfl, rfl, by simp; omega, hprs _ (by simp only; omega) ha, q3⟩
      · refine turn_nx (E2 := [some (.loc 0), some M, some T, some (.int n), some (.int (w : Nat)), some (.loc 1), some C, some (.int ((1 + i : Nat) : Int)), y8, x9, x10, x11, x12, x13, x14]) (S2 := [encRow r1, .lst (prs.map encPr)]) rfl ?_ rfl ?_
        · unfold B2_p_law_flow
          simp [-Int.natCast_add, e1', hv]
        · exact ⟨prs, r1, _, _, rfl, rfl, by omega, h2, q1⟩)
  exact ⟨prs, r', y7, y8, e, by omega, h2, h3⟩
theorem more_ok {n m : Nat} (hn : n ≤ 5) (hn1 : 1 ≤ n) (hm : m ≤ 2) (r : Row) (hp : 0 ≤ r.pos) {prs : List (Nat × Nat)} (l : prs.length ≤ 4) (hb : ∀ x ∈ prs, x.1 < n ∧ x.2 < n) (M T W C : D) (x7 x8 x9 x10 x11 x12 x13 x14 : oD) :
    ∃ (prs' : List (Nat × Nat)) (r' : Row) (y9 : oD), forS (.rng 0 m) (.nm 9) B3_p_law_flow [some (.loc 0), some M, some T, some (.int n), some W, some (.loc 1), some C, x7, x8, x9, x10, x11, x12, x13, x14] [encRow r, .lst (prs.map encPr)] = .nx [some (.loc 0), some M, some T, some (.int n), some W, some (.loc 1), some C, x7, x8, y9, x10, x11, x12, x13, x14] [encRow r', .lst (prs'.map encPr)] ∧ prs'.length ≤ 6 ∧ (∀ x ∈ prs', x.1 < n ∧ x.2 < n) ∧ 0 ≤ r'.pos := by
  obtain ⟨E', S', e, prs', r', y9, rfl, rfl, h1, h2, h3⟩ := for_rng (lo := 0) (n := m) (t := .nm 9) (b := B3_p_law_flow) (E := [some (.loc 0), some M, some T, some (.int n), some W, some (.loc 1), some C, x7, x8, x9, x10, x11, x12, x13, x14]) (S := [encRow r, .lst (prs.map encPr)])
    (fun i E S => ∃ prs r' y9, E = [some (.loc 0), some M, some T, some (.int n), some W, some (.loc 1), some C, x7, x8, y9, x10, x11, x12, x13, x14] ∧ S = [encRow r', .lst (prs.map encPr)] ∧ prs.length ≤ 4 + i ∧ (∀ x ∈ prs, x.1 < n ∧ x.2 < n) ∧ 0 ≤ r'.pos) ⟨prs, r, x9, rfl, rfl, by omega, hb, hp⟩ (by
      rintro i E S hi ⟨prs, r, y9, rfl, rfl, h1, h2, h3⟩
      have hL : prs.length < SL := by unfold SL; omega
      obtain ⟨a, r1, e1, b1, q1⟩ := takenN r n h3 (by omega) (by omega)
      obtain ⟨b, r2, e2, b2, q2⟩ := takenN r1 n q1 (by omega) (by omega)
      refine turn_nx (E2 := [some (.loc 0), some M, some T, some (.int n), some W, some (.loc 1), some C, x7, x8, some (.int (0 + (i : Nat))), x10, x11, x12, x13, x14]) (S2 := [encRow r2, .lst ((prs ++ [(a, b)]).map encPr)]) rfl ?_ rfl ?_
      · unfold B3_p_law_flow
        simp [e1, e2, hL, encPr]
      · refine ⟨prs ++ [(a, b)], r2, _, rfl, rfl, by simp; omega, ?_, q2⟩
        intro x hx
        rcases List.mem_append.mp hx with hx | hx
        · exact h2 x hx
        · rw [List.mem_singleton.mp hx]; exact ⟨b1, b2⟩)
  exact ⟨prs', r', y9, e, by omega, h2, h3⟩
def cN (cs : List Nat) (k : Nat) : Nat := if h : k < cs.length then cs[k] else 1
theorem cN_ok {cs : List Nat} (h : ∀ k ∈ cs, 1 ≤ k ∧ k ≤ 4) (k : Nat) : 1 ≤ cN cs k ∧ cN cs k ≤ 4 := by
  unfold cN
  split
  · exact h _ (List.getElem_mem _)
  · omega
theorem cN_at {cs : List Nat} {k : Nat} (h : k < cs.length) (S : List D) : oIx (.lst (dN cs)) (.int (k : Nat)) S = .ok (.int (cN cs k : Nat)) S := by
  simp [dN, h, cN]
theorem laid_ok {n : Nat} {cs : List Nat} (hcs : cs.length = n) (hc : ∀ k ∈ cs, 1 ≤ k ∧ k ≤ 4) (r : Row) (hp : 0 ≤ r.pos) {prs : List (Nat × Nat)} (l : prs.length ≤ 6) (hb : ∀ x ∈ prs, x.1 < n ∧ x.2 < n) (M W N : D) (x7 x8 x9 x11 x12 x13 x14 : oD) :
    ∃ (ps : List Pipe) (r' : Row) (y11 y12 y13 y14 : oD), forS (.live 1 prs.length) (.tp [.nm 11, .nm 12]) B4_p_law_flow [some (.loc 0), some M, some (.int 4), some N, some W, some (.loc 1), some (.lst (dN cs)), x7, x8, x9, some (.loc 2), x11, x12, x13, x14] [encRow r, .lst (prs.map encPr), .lst []] = .nx [some (.loc 0), some M, some (.int 4), some N, some W, some (.loc 1), some (.lst (dN cs)), x7, x8, x9, some (.loc 2), y11, y12, y13, y14] [encRow r', .lst (prs.map encPr), .lst (ps.map encP)] ∧ ps.length ≤ 6 ∧ (∀ p ∈ ps, BOk n (cN cs) p) ∧ 0 ≤ r'.pos := by
  obtain ⟨E', S', e, ps, r', y11, y12, y13, y14, rfl, rfl, h1, h2, h3⟩ := for_live prs encPr (n := 1) (t := .tp [.nm 11, .nm 12]) (b := B4_p_law_flow) (E := [some (.loc 0), some M, some (.int 4), some N, some W, some (.loc 1), some (.lst (dN cs)), x7, x8, x9, some (.loc 2), x11, x12, x13, x14]) (S := [encRow r, .lst (prs.map encPr), .lst []])
    (fun i E S => ∃ ps r' y11 y12 y13 y14, E = [some (.loc 0), some M, some (.int 4), some N, some W, some (.loc 1), some (.lst (dN cs)), x7, x8, x9, some (.loc 2), y11, y12, y13, y14] ∧ S = [encRow r', .lst (prs.map encPr), .lst (ps.map encP)] ∧ ps.length ≤ i ∧ (∀ p ∈ ps, BOk n (cN cs) p) ∧ 0 ≤ r'.pos) ⟨[], r, x11, x12, x13, x14, rfl, rfl, by simp, by simp, hp⟩ (by rintro i E S ⟨ps, r', _, _, _, _, rfl, rfl, _⟩; rfl) (by
      rintro i E S hi ⟨ps, r, y11, y12, y13, y14, rfl, rfl, h1, h2, h3⟩
      have hL : ps.length < SL := by unfold SL; omega
      obtain ⟨ha, hb'⟩ := hb prs[i] (List.getElem_mem hi)
      generalize hx : prs[i] = x at *
      obtain ⟨a, b⟩ := x
      simp only at ha hb'
      obtain ⟨v, r1, e1, b1, b2, q1⟩ := pick112 r h3
      obtain ⟨w, r2, e2, b3, q2⟩ := takenN r1 5 q1 (by omega) (by omega)
      have e2' : F_p_law_taken [.loc 0, .int 5] [encRow r1] = .ok (.int (w : Nat)) [encRow r2] := e2
      obtain ⟨ca0, ca1⟩ := cN_ok hc a
      obtain ⟨cb0, cb1⟩ := cN_ok hc b
      have xa := fun S => cN_at (cs := cs) (k := a) (by omega) S
      have xb := fun S => cN_at (cs := cs) (k := b) (by omega) S
      generalize hA : cN cs a = A at *
      generalize hB : cN cs b = B at *
      have hg := gcd_eq A B (by omega)
      have gA : Nat.gcd A B ∣ A := Nat.gcd_dvd_left A B
      have gB : Nat.gcd A B ∣ B := Nat.gcd_dvd_right A B
      have g0 : 0 < Nat.gcd A B := Nat.gcd_pos_of_pos_left _ ca0
      have g1 : Nat.gcd A B ≤ 4 := Nat.le_trans (Nat.gcd_le_left _ ca0) ca1
      generalize Nat.gcd A B = G at *
      have m1 : ∀ (c : Nat) S, c ≤ 4 → oMul (.int (v : Nat)) (.int (c : Nat)) S = .ok (.int ((v * c : Nat) : Int)) S := fun c S hc => by rw [o_mul (.inr (small4 hc))]; simp
      have d1 : ∀ (c : Nat) S, oDiv (.int (c : Nat)) (.int (G : Nat)) S = .ok (.int ((c / G : Nat) : Int)) S := fun c S => by rw [o_div (by omega) (by omega)]; simp
      let p : Pipe := ⟨a, b, (v * B / G : Nat), (v * A / G : Nat), w⟩
      have vB : v * B / G ≤ 8 := Nat.le_trans (Nat.div_le_self _ _) (Nat.mul_le_mul b2 cb1)
      have vA : v * A / G ≤ 8 := Nat.le_trans (Nat.div_le_self _ _) (Nat.mul_le_mul b2 ca1)
      have vB0 : 0 < v * B / G := Nat.div_pos (Nat.le_trans (Nat.le_of_dvd cb0 gB) (Nat.le_mul_of_pos_left _ b1)) g0
      have vA0 : 0 < v * A / G := Nat.div_pos (Nat.le_trans (Nat.le_of_dvd ca0 gA) (Nat.le_mul_of_pos_left _ b1)) g0
      have bal : A * (v * B / G) = B * (v * A / G) := by
        obtain ⟨A', rfl⟩ := gA
        obtain ⟨B', rfl⟩ := gB
        rw [show v * (G * B') = G * (v * B') by rw [Nat.mul_left_comm], show v * (G * A') = G * (v * A') by rw [Nat.mul_left_comm], Nat.mul_div_cancel_left _ g0, Nat.mul_div_cancel_left _ g0]
        simp [Nat.mul_assoc, Nat.mul_comm, Nat.mul_left_comm]
      refine turn_nx (E2 := [some (.loc 0), some M, some (.int 4), some N, some W, some (.loc 1), some (.lst (dN cs)), x7, x8, x9, some (.loc 2), some (.int (a : Nat)), some (.int (b : Nat)), some (.int (G : Nat)), some (.int (v : Nat))]) (S2 := [encRow r2, .lst (prs.map encPr), .lst ((ps ++ [p]).map encP)]) rfl ?_ rfl ?_
      · have hpe : (ps ++ [p]).map encP = ps.map encP ++ [.tup [.int (a : Nat), .int (b : Nat), .int ((v * B / G : Nat) : Int), .int ((v * A / G : Nat) : Int), .int (w : Nat)]] := by simp [p, encP]
        rw [hpe]
        unfold B4_p_law_flow
        simp only [List.set_cons_succ, List.set_cons_zero, ev_seq, ev_set, ev_args, ev_cons, ev_nil, ev_op, ev_var0, ev_varS, ev_c, bind_ok, kop1, kop2, xa, xb, kcons1, kcons2]
        rw [callI _ _ rfl, hg, kc0 rfl]
        simp only [ev_seq, ev_set, toO_ok, kset, kseq_nx, List.set_cons_succ, List.set_cons_zero, ev_args, ev_cons, ev_nil, ev_op, ev_var0, ev_varS, ev_c, bind_ok, kop1, kop2, xa, xb, kcons1, kcons2, b_lst3]
        rw [call1' _ (encRow_flat _) rfl, e1, kc1 rfl (encRow_flat _)]
        simp only [toO_ok, kset, kseq_nx, List.set_cons_succ, List.set_cons_zero, ev_expr, ev_meth, ev_var0, ev_varS, bind_ok]
        rw [km1o (by rfl)]
        simp only [ev_args, ev_cons, ev_nil, ev_op, ev_var0, ev_varS, ev_c, bind_ok, kop1, kop2, xa, xb, kcons1, kcons2, m1 _ _ ca1, m1 _ _ cb1, d1, o_add]
        rw [call1' _ (encRow_flat _) rfl, show (4 : Int) + 1 = 5 from rfl, e2', kc1 rfl (encRow_flat _)]
        simp [hL]
      · refine ⟨ps ++ [p], r2, _, _, _, _, rfl, rfl, by simp; omega, ?_, q2⟩
        intro x hx
        rcases List.mem_append.mp hx with hx | hx
        · exact h2 x hx
        · rw [List.mem_singleton.mp hx]
          refine ⟨⟨by simp only [p]; omega, by simp only [p]; omega, by simp only [p]; omega, by simp only [p]; omega, by simp only [p]; omega, by simp only [p]; omega, by simp only [p]; omega, by simp only [p]; omega, by simp only [p]; omega, by simp only [p]; omega⟩, ?_⟩
          simp only [p, Int.toNat_natCast, hA, hB]
          exact_mod_cast bal)
  exact ⟨ps, r', y11, y12, y13, y14, e, by omega, h2, h3⟩
theorem flow_ok (r : Row) (hp : 0 ≤ r.pos) : ∃ (n : Nat) (ps : List Pipe) (c : Nat → Nat) (r' : Row), F_p_law_flow [.loc 0, .int 4, .int 4] [encRow r] = .ok (encF n ps) [encRow r'] ∧ 1 ≤ n ∧ n ≤ 5 ∧ ps.length ≤ 6 ∧ (∀ k, 1 ≤ c k ∧ c k ≤ 4) ∧ (∀ p ∈ ps, BOk n c p) ∧ 0 ≤ r'.pos := by
  unfold F_p_law_flow S_p_law_flow
  rw [fn_ev 3 15 _ rfl]
  obtain ⟨v, r1, e1, b1, q1⟩ := takenN r 4 hp (by omega) (by omega)
  obtain ⟨w, r2, e2, b2, q2⟩ := takenN r1 5 q1 (by omega) (by omega)
  have e1' : F_p_law_taken [.loc 0, .int 4] [encRow r] = .ok (.int (v : Nat)) [encRow r1] := e1
  have e2' : F_p_law_taken [.loc 0, .int 5] [encRow r1] = .ok (.int (w : Nat)) [encRow r2] := e2
  obtain ⟨cs, r3, e3, hcs, hc, q3⟩ := counts_ok (n := 1 + v) (by omega) r2 q2 (.int 4) (.int 4) (.int w) none none none none none none none none none
  obtain ⟨prs, r4, y7, y8, e4, l4, hb4, q4⟩ := tree_ok (n := 1 + v) (by omega) r3 q3 (w := w) (.int 4) (.int 4) (.lst (dN cs)) none none none none none none none none
  rw [Nat.add_sub_cancel_left] at e4
  have hm : ∃ (m : Nat) (r5 : Row), m ≤ 2 ∧ 0 ≤ r5.pos ∧ ∀ x9, eIf (tV (eOp oGt (eVar 4) (eC (.int 0)))) (eArgs (callF F_p_law_taken) (aCons (eVar 0) (aCons (eC (.int 3)) aNil))) (eC (.int 0)) [some (.loc 0), some (.int 4), some (.int 4), some (.int ((1 + v : Nat) : Int)), some (.int (w : Nat)), some (.loc 1), some (.lst (dN cs)), y7, y8, x9, none, none, none, none, none] [encRow r4, .lst (prs.map encPr)] = .ok (.int (m : Nat)) [encRow r5, .lst (prs.map encPr)] := by
    by_cases hw : 0 < w
    · obtain ⟨m, r5, e5, b5, q5⟩ := takenN r4 3 q4 (by omega) (by omega)
      have e5' : F_p_law_taken [.loc 0, .int 3] [encRow r4] = .ok (.int (m : Nat)) [encRow r5] := e5
      exact ⟨m, r5, by omega, q5, fun x9 => by simp [hw, e5']⟩
    · exact ⟨0, r4, by omega, q4, fun x9 => by simp [hw]⟩
  obtain ⟨m, r5, b5, q5, e5⟩ := hm
  obtain ⟨prs2, r6, y9, e6, l6, hb6, q6⟩ := more_ok (n := 1 + v) (m := m) (by omega) (by omega) b5 r5 q5 l4 hb4 (.int 4) (.int 4) (.int (w : Nat)) (.lst (dN cs)) y7 y8 none none none none none none
  obtain ⟨ps, r7, y11, y12, y13, y14, e7, l7, hb7, q7⟩ := laid_ok (n := 1 + v) hcs hc r6 q6 l6 hb6 (.int 4) (.int (w : Nat)) (.int ((1 + v : Nat) : Int)) y7 y8 y9 none none none none
  refine ⟨1 + v, ps, cN cs, r7, ?_, by omega, by omega, l7, cN_ok hc, hb7, q7⟩
  have hv : (1 : Int) + (v : Nat) = ((1 + v : Nat) : Int) := by simp
  have k1 : ∀ S, kRng3 (.int 1) (.int ((1 + v : Nat) : Int)) S = .ok (.rng 1 v) S := fun S => by
    rw [krng3 (by decide) (by simp [okR]; omega)]
    congr 2
    omega
  have k2 : ∀ S, kRng1 (.int ((1 + v : Nat) : Int)) S = .ok (.rng 0 (1 + v)) S := fun S => krng1n (by omega)
  have k3 : ∀ S, kRng1 (.int (m : Int)) S = .ok (.rng 0 m) S := fun S => krng1n (by omega)
  simp [-Int.natCast_add, -ev_if, e1', e2', hv, k2, e3]
  simp [-Int.natCast_add, -ev_if, k1, e4, e5, k3, e6]
  rw [src_loc (n := 1) rfl]
  simp [-Int.natCast_add, e7, encF]
theorem ix_dI {xs : List Int} {t : Int} (h0 : 0 ≤ t) (h : t.toNat < xs.length) (S : List D) : oIx (.lst (dI xs)) (.int t) S = .ok (.int (ik xs t.toNat)) S := by
  rw [o_ixLs, at_int h0, at_dI h]
  rfl
theorem withT_ok {n r m m' : Int} {ps : List Pipe} {held : List Int} (h : ∀ p ∈ ps, POk n r m p) (hh : ∀ v ∈ held, 0 ≤ v ∧ v ≤ m') : ∀ p ∈ withT ps held, POk n r m' p := by
  intro p hp
  unfold withT at hp
  induction ps generalizing held with
  | nil => simp at hp
  | cons q ps ih =>
    cases held with
    | nil => simp at hp
    | cons v held =>
      rw [List.zipWith_cons_cons] at hp
      rcases List.mem_cons.mp hp with rfl | hp
      · have hq := h q List.mem_cons_self
        have hv := hh v List.mem_cons_self
        exact ⟨hq.s0, hq.s1, hq.t0, hq.t1, hq.g0, hq.g1, hq.e0, hq.e1, hv.1, hv.2⟩
      · exact ih (fun p hp => h p (List.mem_cons_of_mem _ hp)) (fun v hv => hh v (List.mem_cons_of_mem _ hv)) hp
theorem withT_len {ps : List Pipe} {held : List Int} (h : held.length = ps.length) : (withT ps held).length = ps.length := by simp [withT, h]
theorem POk.le {n r m r' m' : Int} {p : Pipe} (h : POk n r m p) (hr : r ≤ r') (hm : m ≤ m') : POk n r' m' p :=
  ⟨h.s0, h.s1, h.t0, h.t1, h.g0, by have := h.g1; omega, h.e0, by have := h.e1; omega, h.m0, by have := h.m1; omega⟩
theorem pk_mem {ps : List Pipe} {k : Nat} (h : k < ps.length) : pk ps k ∈ ps := by
  simp only [pk, List.getD_eq_getElem?_getD, List.getElem?_eq_getElem h, Option.getD_some]
  exact List.getElem_mem h
theorem sum_le : ∀ (xs : List Int), (∀ v ∈ xs, 0 ≤ v ∧ v ≤ 4096) → 0 ≤ xs.sum ∧ xs.sum ≤ 4096 * xs.length
  | [], _ => by simp
  | x :: xs, h => by
    have h1 := h x List.mem_cons_self
    have h2 := sum_le xs (fun v hv => h v (List.mem_cons_of_mem _ hv))
    simp only [List.sum_cons, List.length_cons]
    omega
theorem cmp_dI (xs : List Int) : cmpOk (.lst (dI xs)) = true := by
  have h1 : D.cmpb (.lst (dI xs)) = true := cmpbs_map _ (fun _ => rfl) xs
  have h2 : D.depth (.lst (dI xs)) ≤ 1 := by
    have := depths_map D.int 0 (fun _ => Nat.le_refl _) xs
    show D.depths (dI xs) + 1 ≤ 1
    unfold dI
    omega
  simp [cmpOk, h1]
  omega
theorem live_turn {n : Nat} (hn : n ≤ 5) {ps : List Pipe} (hps : ps.length ≤ 6) {m : Int} (hm : 6 ≤ m) (hp : ∀ p ∈ ps, POk n 8 m p) {counts : List Int} (hc : counts.length = n) (hb : ∀ v ∈ counts, 0 ≤ v ∧ v ≤ 4096) (r : Row) (hr : 0 ≤ r.pos) (x5 x6 x7 x8 x9 x10 : oD) :
    ∃ (ps' : List Pipe) (r' : Row) (y6 y7 y8 y9 : oD), B3_p_law_live [some (.loc 0), some (.int 4), some (.int 4), some (encF n ps), some (.lst (dI counts)), x5, x6, x7, x8, x9, x10] [encRow r] = .nx [some (.loc 0), some (.int 4), some (.int 4), some (encF n ps'), some (.lst (dI counts)), x5, y6, y7, y8, y9, x10] [encRow r'] ∧ ps'.length = ps.length ∧ (∀ p ∈ ps', POk n 8 (m + 8) p) ∧ 0 ≤ r'.pos := by
  obtain ⟨hs0, hs1⟩ := sum_le counts hb
  obtain ⟨done, held, e1, l1, l2⟩ := do_ok (n := n) (ps := ps) (counts := counts) (by omega) (by omega) hc hs0 (by omega)
  let left : List Nat := (List.range ps.length).filter fun k => decide (ik done (pk ps k).t.toNat < ik counts (pk ps k).t.toNat) && decide (ik held k < (pk ps k).e)
  have e2 : ∀ x8, lcS false (.rng 0 ps.length) [9] (.nm 9) C1_p_law_live V2_p_law_live [some (.loc 0), some (.int 4), some (.int 4), some (encF n ps), some (.lst (dI counts)), x5, some (.lst (dI done)), some (.tup (dI held)), x8, x9, x10] [encRow r] = .ok (.lst (dN left)) [encRow r] := by
    intro x8
    rw [lc_filt (List.range ps.length) _ (fun k => decide (ik done (pk ps k).t.toNat < ik counts (pk ps k).t.toNat) && decide (ik held k < (pk ps k).e)) (fun k : Nat => D.int (k : Int)) (by simp [SL]; omega) (is_rng 0 ps.length _) (fun k hk => ⟨_, rfl, by
      have hk' : k < ps.length := by simpa using hk
      have hpk := hp _ (pk_mem hk')
      have ht0 := hpk.t0; have ht1 := hpk.t1
      have i1 := fun S => ix_dI (xs := done) ht0 (by omega) S
      have i2 := fun S => ix_dI (xs := counts) ht0 (by omega) S
      unfold C1_p_law_live
      by_cases c : ik done (pk ps k).t.toNat < ik counts (pk ps k).t.toNat <;> simp [-o_ixLs, at_P hk', i1, i2, c, at_dI (show k < held.length by omega)], fun _ => by
      unfold V2_p_law_live
      simp⟩)]
    rfl
  have hd : (dI held).length = ps.length := by simp [dI, l2]
  have hll : left.length ≤ (List.range ps.length).length := List.length_filter_le _ _
  rw [List.length_range] at hll
  by_cases hf : left = []
  · refine ⟨ps, r, some (.lst (dI done)), some (.tup (dI held)), some (.lst (dN left)), x9, ?_, rfl, fun p h => (hp p h).le (by omega) (by omega), hr⟩
    unfold B3_p_law_live
    simp [e1, hd, krng1n (show ps.length < 1000000 by omega), e2, hf]
  · obtain ⟨d, r', hd2, e3, q3⟩ := pick_ok r (dN left) (by simp) hr (by simp [dN]; exact List.length_pos_iff.mpr hf) (by simp only [dN, List.length_map]; omega)
    simp only [dN, List.mem_map] at hd2
    obtain ⟨k, hk, rfl⟩ := hd2
    have hk' : k < ps.length := List.mem_range.mp (List.mem_filter.mp hk).1
    have hpk := hp _ (pk_mem hk')
    let new : List Int := (marksT ps).take k ++ [(pk ps k).m + (pk ps k).e] ++ (marksT ps).drop (k + 1)
    have lm : (marksT ps).length = ps.length := marks_len ps
    have hnew : new.length = ps.length := by simp [new, lm]; omega
    have hmk : ∀ v ∈ marksT ps, 0 ≤ v ∧ v ≤ m := by
      intro v hv
      simp only [marksT, List.mem_map] at hv
      obtain ⟨p, hp', rfl⟩ := hv
      exact ⟨(hp p hp').m0, (hp p hp').m1⟩
    have hnv : ∀ v ∈ new, 0 ≤ v ∧ v ≤ m + 8 := by
      intro v hv
      rcases List.mem_append.mp hv with hv | hv
      · rcases List.mem_append.mp hv with hv | hv
        · have := hmk v (List.mem_of_mem_take hv); omega
        · rw [List.mem_singleton.mp hv]
          have := hpk.m0; have := hpk.m1; have := hpk.e0; have := hpk.e1; omega
      · have := hmk v (List.mem_of_mem_drop hv); omega
    have hfe : left.isEmpty = false := by cases hq : left with | nil => exact absurd hq hf | cons _ _ => rfl
    refine ⟨withT ps new, r', some (.lst (dI done)), some (.tup (dI held)), some (.lst (dN left)), some (.int (k : Nat)), ?_, withT_len hnew, withT_ok hp hnv, q3⟩
    have hdn : dI new = (dI (marksT ps)).take k ++ [.int ((pk ps k).m + (pk ps k).e)] ++ (dI (marksT ps)).drop (k + 1) := by simp [new, dI]
    have hw := with_eq n (ps := ps) (by omega) hnew
    have hcf : ∀ xs : List D, cutOf xs (some ((k : Int) + 1)) none = xs.drop (k + 1) := fun xs => by have := cut_from (xs := xs) (k + 1); simpa using this
    have hld : (dI (marksT ps)).length = ps.length := by simp [dI, lm]
    unfold B3_p_law_live
    simp [e1, hd, krng1n (show ps.length < 1000000 by omega), e2, hfe, e3]
    simp [some_eq n (show ps.length ≤ 16 by omega), cut_to, at_P hk']
    rw [o_addT (by simp [SL]; omega)]
    simp [some_eq n (show ps.length ≤ 16 by omega), hcf]
    rw [o_addT (by simp [SL]; omega)]
    simp only [List.append_assoc] at hdn
    simp only [bind_ok, kcons1, ev_nil, kcons2, List.append_assoc, ← hdn]
    simp [hw]
@[simp] theorem o_neL (xs ys : List Int) (S : List D) : oNe (.lst (dI xs)) (.lst (dI ys)) S = .ok (.bl (!D.eqB (.lst (dI xs)) (.lst (dI ys)))) S := by
  rw [o_ne (x := .lst (dI xs)) (y := .lst (dI ys)) (cmp_dI xs) (cmp_dI ys)]
  rfl
theorem ik_ok {xs : List Int} {lo hi : Int} (h : ∀ v ∈ xs, lo ≤ v ∧ v ≤ hi) {k : Nat} (hk : k < xs.length) : lo ≤ ik xs k ∧ ik xs k ≤ hi := by
  have : ik xs k = xs[k] := by simp [ik, hk]
  rw [this]
  exact h _ (List.getElem_mem hk)
theorem live_ok (r : Row) (hr : 0 ≤ r.pos) : ∃ (n : Nat) (ps : List Pipe) (r' : Row), F_p_law_live [.loc 0, .int 4, .int 4] [encRow r] = .ok (encF n ps) [encRow r'] ∧ 1 ≤ n ∧ n ≤ 5 ∧ ps.length ≤ 6 ∧ (∀ p ∈ ps, POk n 8 40000 p) ∧ 0 ≤ r'.pos := by
  unfold F_p_law_live S_p_law_live
  rw [fn_ev 3 11 _ rfl]
  obtain ⟨n, ps, c, r1, e1, n1, n5, lp, hc, hb, q1⟩ := flow_ok r hr
  obtain ⟨counts, e2, lc, hcn⟩ := round_ok hc n5 (ps := ps) (by omega) hb
  obtain ⟨hs0, hs1⟩ := sum_le counts hcn
  obtain ⟨E', S', e3, ps2, r2, y5, y6, y7, y8, y9, rfl, rfl, l2, hp2, q2⟩ := for_rng (lo := 0) (n := 40) (t := .nm 5) (b := B3_p_law_live) (E := [some (.loc 0), some (.int 4), some (.int 4), some (encF n ps), some (.lst (dI counts)), none, none, none, none, none, none]) (S := [encRow r1])
    (fun i E S => ∃ (ps2 : List Pipe) (r2 : Row) (y5 y6 y7 y8 y9 : oD), E = [some (.loc 0), some (.int 4), some (.int 4), some (encF n ps2), some (.lst (dI counts)), y5, y6, y7, y8, y9, none] ∧ S = [encRow r2] ∧ ps2.length = ps.length ∧ (∀ p ∈ ps2, POk n 8 (6 + 8 * (i : Nat)) p) ∧ 0 ≤ r2.pos) ⟨ps, r1, none, none, none, none, none, rfl, rfl, rfl, fun p h => (hb p h).ok.le (by omega) (by omega), q1⟩ (by
      rintro i E S hi ⟨ps2, r2, y5, y6, y7, y8, y9, rfl, rfl, l2, hp2, q2⟩
      obtain ⟨ps3, r3, z6, z7, z8, z9, e, l3, hp3, q3⟩ := live_turn (n := n) n5 (ps := ps2) (by omega) (m := 6 + 8 * (i : Nat)) (by omega) hp2 lc hcn r2 q2 (some (.int (0 + (i : Nat)))) y6 y7 y8 y9 none
      exact turn_nx rfl e rfl ⟨ps3, r3, _, z6, z7, z8, z9, rfl, rfl, by omega, fun p h => (hp3 p h).le (by omega) (by omega), q3⟩)
  obtain ⟨done, held, e4, l4, l5⟩ := do_ok (n := n) (ps := ps2) (counts := counts) (by omega) (by omega) lc hs0 (by omega)
  have k40 : ∀ S, kRng1 (.int 40) S = .ok (.rng 0 40) S := fun S => rfl
  by_cases hq : D.eqB (.lst (dI done)) (.lst (dI counts)) = true
  · refine ⟨n, ps2, r2, ?_, n1, n5, by omega, fun p h => (hp2 p h).le (by omega) (by omega), q2⟩
    simp [e1, e2, k40, e3, e4, hq]
  · rw [Bool.not_eq_true] at hq
    let held2 : List Int := ps2.map fun p => p.e * ik counts p.t.toNat
    have hl2 : held2.length = ps2.length := by simp [held2]
    have hh2 : ∀ v ∈ held2, 0 ≤ v ∧ v ≤ 40000 := by
      intro v hv
      simp only [held2, List.mem_map] at hv
      obtain ⟨p, hp, rfl⟩ := hv
      have hpk := hp2 p hp
      have ht0 := hpk.t0; have ht1 := hpk.t1; have he0 := hpk.e0; have he1 := hpk.e1
      obtain ⟨k0, k1⟩ := ik_ok hcn (k := p.t.toNat) (by omega)
      refine ⟨Int.mul_nonneg (by omega) k0, ?_⟩
      calc p.e * ik counts p.t.toNat ≤ 8 * 4096 := Int.mul_le_mul he1 k1 k0 (by omega)
        _ ≤ 40000 := by omega
    refine ⟨n, withT ps2 held2, r2, ?_, n1, n5, by rw [withT_len hl2]; omega, withT_ok hp2 hh2, q2⟩
    have hw := with_eq n (ps := ps2) (by omega) hl2
    have e5 : ∀ E : Env, lcS false (.its (ps2.map encP)) [10] (.nm 10) J.tYes V4_p_law_live [some (.loc 0), some (.int 4), some (.int 4), some (encF n ps2), some (.lst (dI counts)), y5, y6, y7, y8, y9, none] [encRow r2] = .ok (.lst (dI held2)) [encRow r2] := by
      intro E
      rw [lc_true ps2 encP (fun p => D.int (p.e * ik counts p.t.toNat)) (smallL (by omega)) (is_its _ _) (fun p hp => ⟨_, rfl, rfl, by
        have hpk := hp2 p hp
        have ht0 := hpk.t0; have ht1 := hpk.t1; have he0 := hpk.e0; have he1 := hpk.e1
        have i2 := fun S => ix_dI (xs := counts) ht0 (by omega) S
        have sm : smallI p.e = true := by simp [smallI]; omega
        unfold V4_p_law_live
        simp [-o_ixLs, i2, o_mul (.inl sm)]⟩)]
      simp [held2, dI]
    simp [e1, e2, k40, e3, e4, hq, e5 [], hw]
theorem can_iff {ps : List Pipe} {held : List Int} {b : Int} : canT ps held b = true ↔ ∀ k, k < ps.length → (pk ps k).t = b → (pk ps k).e ≤ ik held k := by
  unfold canT shortT
  rw [List.isEmpty_iff, List.filter_eq_nil_iff]
  constructor
  · intro h k hk ht
    have := h k (List.mem_range.mpr hk)
    simp [ht] at this
    exact this
  · intro h k hk
    have := h k (List.mem_range.mp hk)
    simp
    exact this
theorem ik_mem {xs : List Int} {v : Int} (h : v ∈ xs) : ∃ k, k < xs.length ∧ ik xs k = v := by
  obtain ⟨k, hk, rfl⟩ := List.getElem_of_mem h
  exact ⟨k, hk, by simp [ik, hk]⟩
theorem next_ok {n m : Int} {ps : List Pipe} {held : List Int} {b : Int} (hl : held.length = ps.length) (hp : ∀ p ∈ ps, 0 ≤ p.g ∧ p.g ≤ 8 ∧ 0 ≤ p.e) (hh : ∀ v ∈ held, 0 ≤ v ∧ v ≤ m) (hc : canT ps held b = true) : ∀ v ∈ nextT ps held b, 0 ≤ v ∧ v ≤ m + 8 := by
  intro v hv
  obtain ⟨k, hk, rfl⟩ := ik_mem hv
  rw [nextT_len b hl] at hk
  rw [nextT_at hl hk]
  have h1 := hp _ (pk_mem hk)
  have h2 := ik_ok hh (k := k) (by omega)
  have h3 := can_iff.mp hc k hk
  by_cases c1 : (pk ps k).t = b <;> by_cases c2 : (pk ps k).s = b <;> simp [c1, c2] <;> (try have h4 := h3 c1) <;> omega
theorem pk_with {ps : List Pipe} {h : List Int} (hl : h.length = ps.length) {k : Nat} (hk : k < ps.length) : (pk (withT ps h) k).s = (pk ps k).s ∧ (pk (withT ps h) k).t = (pk ps k).t ∧ (pk (withT ps h) k).g = (pk ps k).g ∧ (pk (withT ps h) k).e = (pk ps k).e := by
  have h2 : k < h.length := by omega
  simp [pk, withT, hk, h2, List.getElem?_zipWith]
theorem can_with {ps : List Pipe} {h held : List Int} (hl : h.length = ps.length) (b : Int) : canT (withT ps h) held b = canT ps held b := by
  rw [Bool.eq_iff_iff, can_iff, can_iff, withT_len hl]
  constructor
  · intro q k hk ht
    have := pk_with hl hk
    rw [← this.2.2.2]
    exact q k hk (by rw [this.2.1]; exact ht)
  · intro q k hk ht
    have := pk_with hl hk
    rw [this.2.2.2]
    exact q k hk (by rw [← this.2.1]; exact ht)
theorem eqBs_map {α : Type} (e : α → D) (h : ∀ a, D.eqB (e a) (e a) = true) : ∀ xs : List α, D.eqBs (xs.map e) (xs.map e) = true
  | [] => rfl
  | x :: xs => by
    show ((e x).eqB (e x) && D.eqBs (xs.map e) (xs.map e)) = true
    simp [h, eqBs_map e h xs]
theorem eqB_P (p : Pipe) : D.eqB (encP p) (encP p) = true := by
  simp [encP, D.eqB, D.eqBs]
theorem eqB_F (n : Int) (ps : List Pipe) : D.eqB (encF n ps) (encF n ps) = true := by
  show ((n == n) && (D.eqBs (ps.map encP) (ps.map encP) && true)) = true
  simp [eqBs_map encP eqB_P ps]
theorem cmp_F (n : Int) (ps : List Pipe) : cmpOk (encF n ps) = true := by
  have h1 : D.cmpb (encF n ps) = true := by
    show (true && (D.cmpbs (ps.map encP) && true)) = true
    simp [cmpbs_map encP (fun _ => rfl) ps]
  have h2 : D.depth (encF n ps) ≤ 4 := by
    have := depths_map encP 1 (fun _ => by show max 0 (max 0 (max 0 (max 0 (max 0 0)))) + 1 ≤ 1; simp) ps
    show max 0 (max (D.depths (ps.map encP) + 1) 0) + 1 ≤ 4
    omega
  simp [cmpOk, h1]
  omega
@[simp] theorem o_neF (n : Int) (ps : List Pipe) (S : List D) : oNe (encF n ps) (encF n ps) S = .ok (.bl false) S := by
  rw [o_ne (x := encF n ps) (y := encF n ps) (cmp_F n ps) (cmp_F n ps)]
  show R.ok (D.bl (!D.eqB (encF n ps) (encF n ps))) S = _
  rw [eqB_F]
  rfl
@[simp] theorem o_ne00 (S : List D) : oNe (.lst []) (.lst []) S = .ok (.bl false) S := id rfl
@[simp] theorem o_neB (a b : Bool) (S : List D) : oNe (.bl a) (.bl b) S = .ok (.bl (!(a == b))) S := by cases a <;> cases b <;> rfl
theorem cmp_tN (ks : List Nat) : cmpOk (.tup (dN ks)) = true := by
  have h1 : D.cmpb (.tup (dN ks)) = true := cmpbs_map _ (fun _ => rfl) ks
  have h2 : D.depth (.tup (dN ks)) ≤ 1 := by
    have := depths_map (fun k : Nat => D.int (k : Int)) 0 (fun _ => Nat.le_refl _) ks
    show D.depths (dN ks) + 1 ≤ 1
    unfold dN
    omega
  simp [cmpOk, h1]
  omega
@[simp] theorem o_eqT0 (ks : List Nat) (S : List D) : oEq (.tup (dN ks)) (.tup []) S = .ok (.bl ks.isEmpty) S := by
  rw [o_eq (x := .tup (dN ks)) (y := .tup []) (cmp_tN ks) (cmp_tN [])]
  simp only [seen]
  cases ks <;> rfl
theorem mem_up {k : Nat} {ks : List Nat} : (k : Int) ∈ up ks ↔ k ∈ ks := by
  unfold up
  rw [List.mem_map]
  constructor
  · rintro ⟨j, hj, e⟩
    have : j = k := by omega
    rwa [← this]
  · exact fun h => ⟨k, h, rfl⟩
@[simp] theorem o_inN (k : Nat) (ks : List Nat) (S : List D) : oIn (.int (k : Nat)) (.tup (dN ks)) S = .ok (.bl (decide (k ∈ ks))) S := by
  rw [dN_up, o_inT, decide_eq_decide.mpr mem_up]
@[simp] theorem o_ninN (k : Nat) (ks : List Nat) (S : List D) : oNin (.int (k : Nat)) (.tup (dN ks)) S = .ok (.bl (!decide (k ∈ ks))) S := by
  rw [dN_up, o_ninT, decide_eq_decide.mpr mem_up]
structure QOk (n : Nat) (q : List Pipe) (m : Int) : Prop where
  n1 : 1 ≤ n
  n5 : n ≤ 5
  l : q.length ≤ 6
  ok : ∀ p ∈ q, POk n 8 m p
theorem QOk.f {n : Nat} {q : List Pipe} {m : Int} (h : QOk n q m) (hm : m ≤ 99999) : FOk n q :=
  ⟨by have := h.n1; omega, by have := h.n5; omega, by have := h.l; omega, fun p hp => (h.ok p hp).le (by omega) hm⟩
theorem QOk.g {n : Nat} {q : List Pipe} {m : Int} (h : QOk n q m) : ∀ p ∈ q, 0 ≤ p.g ∧ p.g ≤ 8 ∧ 0 ≤ p.e := fun p hp => by
  have x := h.ok p hp
  have x1 := x.g0; have x2 := x.g1; have x3 := x.e0
  omega
theorem QOk.marks {n : Nat} {q : List Pipe} {m : Int} (h : QOk n q m) : ∀ v ∈ marksT q, 0 ≤ v ∧ v ≤ m := by
  intro v hv
  simp only [marksT, List.mem_map] at hv
  obtain ⟨p, hp, rfl⟩ := hv
  exact ⟨(h.ok p hp).m0, (h.ok p hp).m1⟩
theorem fold_ok {n : Nat} {q : List Pipe} {m : Int} (h : QOk n q m) {word : List Int} (hw : WOk n q (marksT q) word) : ∀ i, i ≤ word.length → ∀ v ∈ stT q (marksT q) word i, 0 ≤ v ∧ v ≤ m + 8 * (i : Nat) := by
  intro i
  induction i with
  | zero => intro _ v hv; have := h.marks v hv; omega
  | succ i ih =>
    intro hi v hv
    rw [stT_succ _ _ (show i < word.length by omega)] at hv
    have := next_ok (n := 0) (stT_len (marks_len q) word i) h.g (ih (by omega)) (hw.can i (by omega)) v hv
    omega
theorem QOk.run {n : Nat} {q : List Pipe} {m : Int} (h : QOk n q m) {word : List Int} (hw : WOk n q (marksT q) word) (hl : word.length ≤ 8) : QOk n (withT q (runT q word)) (m + 64) := by
  have e : runT q word = stT q (marksT q) word word.length := by simp [runT, stT]
  have hl2 := stT_len (marks_len q) word word.length
  rw [e]
  refine ⟨h.n1, h.n5, by rw [withT_len hl2]; exact h.l, withT_ok h.ok (fun v hv => ?_)⟩
  have := fold_ok h hw word.length (Nat.le_refl _) v hv
  omega
instance : Inhabited Pipe := ⟨⟨0, 0, 0, 0, 0⟩⟩
instance (sh : ShL) (k : Nat) : Decidable (hasK sh k) := inferInstanceAs (Decidable (∃ x ∈ sh, x.1 = k))
instance : Inhabited Pipe := ⟨⟨0, 0, 0, 0, 0⟩⟩
instance (sh : ShL) (k : Nat) : Decidable (hasK sh k) := inferInstanceAs (Decidable (∃ x ∈ sh, x.1 = k))
theorem ik_set {c : List Int} {k : Nat} (h : k < c.length) (v : Int) (j : Nat) : ik (c.set k v) j = if j = k then v else ik c j := by
  unfold ik
  rw [List.getD_eq_getElem?_getD, List.getD_eq_getElem?_getD, List.getElem?_set]
  by_cases e : k = j
  · subst e; simp [h]
  · have : ¬ j = k := fun z => e z.symm
    simp [e, this]
theorem ik_ext {n : Nat} {c d : List Int} (hc : c.length = n) (hd : d.length = n) (h : ∀ k, k < n → ik c k = ik d k) : c = d := by
  apply List.ext_getElem
  · omega
  · intro i h1 h2
    have := h i (by omega)
    simpa [ik, h1, h2] using this
def leftT (ps : List Pipe) (c : List Int) : List Int := ps.map fun p => p.m + p.g * ik c p.s.toNat - p.e * ik c p.t.toNat
theorem left_len (ps : List Pipe) (c : List Int) : (leftT ps c).length = ps.length := by simp [leftT]
theorem left_at {ps : List Pipe} {c : List Int} {k : Nat} (h : k < ps.length) : ik (leftT ps c) k = (pk ps k).m + (pk ps k).g * ik c (pk ps k).s.toNat - (pk ps k).e * ik c (pk ps k).t.toNat := by
  simp [ik, leftT, pk, h]
structure PWf (n : Nat) (p : Pipe) : Prop where
  s0 : 0 ≤ p.s
  s1 : p.s < n
  t0 : 0 ≤ p.t
  t1 : p.t < n
  g0 : 1 ≤ p.g
  e0 : 1 ≤ p.e
  m0 : 0 ≤ p.m
theorem QOk.wf {n : Nat} {q : List Pipe} {m : Int} (h : QOk n q m) : ∀ p ∈ q, PWf n p := fun p hp => by
  have := h.ok p hp
  exact ⟨this.s0, this.s1, this.t0, this.t1, this.g0, this.e0, this.m0⟩
theorem ik_rep (n k : Nat) : ik (List.replicate n 0) k = 0 := by
  unfold ik
  rw [List.getD_eq_getElem?_getD, List.getElem?_replicate]
  split <;> rfl
theorem left_zero (ps : List Pipe) (n : Nat) : leftT ps (List.replicate n 0) = marksT ps := by
  unfold leftT marksT
  refine List.map_congr_left fun p _ => ?_
  rw [ik_rep, ik_rep]
  simp
theorem left_add {n : Nat} {ps : List Pipe} (hw : ∀ p ∈ ps, PWf n p) {c : List Int} (hc : c.length = n) {b : Nat} (hb : b < n) (v : Int) {k : Nat} (hk : k < ps.length) :
    ik (leftT ps (c.set b (ik c b + v))) k = ik (leftT ps c) k - (if (pk ps k).t = (b : Int) then v * (pk ps k).e else 0) + (if (pk ps k).s = (b : Int) then v * (pk ps k).g else 0) := by
  have w := hw _ (pk_mem hk)
  have h1 := w.s0; have h2 := w.t0
  rw [left_at hk, left_at hk, ik_set (by omega), ik_set (by omega)]
  have q1 : ((pk ps k).s.toNat = b) ↔ (pk ps k).s = (b : Int) := by omega
  have q2 : ((pk ps k).t.toNat = b) ↔ (pk ps k).t = (b : Int) := by omega
  by_cases c1 : (pk ps k).s = (b : Int) <;> by_cases c2 : (pk ps k).t = (b : Int)
  · rw [if_pos (q1.mpr c1), if_pos (q2.mpr c2), if_pos c1, if_pos c2, q1.mpr c1, q2.mpr c2, Int.mul_add, Int.mul_add, Int.mul_comm v, Int.mul_comm v]; omega
  · rw [if_pos (q1.mpr c1), if_neg (fun z => c2 (q2.mp z)), if_pos c1, if_neg c2, q1.mpr c1, Int.mul_add, Int.mul_comm v]; omega
  · rw [if_neg (fun z => c1 (q1.mp z)), if_pos (q2.mpr c2), if_neg c1, if_pos c2, q2.mpr c2, Int.mul_add, Int.mul_comm v]; omega
  · rw [if_neg (fun z => c1 (q1.mp z)), if_neg (fun z => c2 (q2.mp z)), if_neg c1, if_neg c2]; omega
theorem left_step {n : Nat} {ps : List Pipe} (hw : ∀ p ∈ ps, PWf n p) {c : List Int} (hc : c.length = n) {b : Nat} (hb : b < n) : leftT ps (c.set b (ik c b + 1)) = nextT ps (leftT ps c) b := by
  refine ik_ext (n := ps.length) (left_len _ _) (nextT_len _ (left_len _ _)) fun k hk => ?_
  rw [left_add hw hc hb 1 hk, nextT_at (left_len _ _) hk]
  simp
inductive Rch (n : Nat) (ps : List Pipe) : List Int → Prop where
  | zero : Rch n ps (List.replicate n 0)
  | step {c : List Int} {b : Nat} : Rch n ps c → b < n → canT ps (leftT ps c) b = true → Rch n ps (c.set b (ik c b + 1))
theorem Rch.len {n : Nat} {ps : List Pipe} {c : List Int} (h : Rch n ps c) : c.length = n := by
  induction h with
  | zero => simp
  | step _ _ _ ih => simpa using ih
theorem Rch.nn {n : Nat} {ps : List Pipe} {c : List Int} (h : Rch n ps c) : ∀ k, 0 ≤ ik c k := by
  induction h with
  | zero => intro k; rw [ik_rep]; exact Int.le_refl _
  | @step c b h1 hb _ ih =>
    intro k
    rw [ik_set (by rw [h1.len]; exact hb)]
    have := ih k
    have := ih b
    split <;> omega
theorem Rch.left {n : Nat} {ps : List Pipe} (hw : ∀ p ∈ ps, PWf n p) {c : List Int} (h : Rch n ps c) : ∀ k, k < ps.length → 0 ≤ ik (leftT ps c) k := by
  induction h with
  | zero =>
    intro k hk
    rw [left_zero]
    have := (hw _ (pk_mem hk)).m0
    simpa [ik, marksT, pk, hk] using this
  | step h1 hb hcan ih =>
    intro k hk
    rw [left_add hw h1.len hb 1 hk]
    have w := hw _ (pk_mem hk)
    have h2 := ih k hk
    have h3 := can_iff.mp hcan k hk
    have := w.g0
    split
    · rename_i c1
      have := h3 c1
      split <;> omega
    · split <;> omega
structure Best (n : Nat) (ps : List Pipe) (cs d : List Int) : Prop where
  rch : Rch n ps d
  le : ∀ k, k < n → ik d k ≤ ik cs k
  stuck : ∀ k : Nat, k < n → ik d k < ik cs k → canT ps (leftT ps d) k = false
theorem Best.ge {n : Nat} {ps : List Pipe} (hw : ∀ p ∈ ps, PWf n p) {cs d c : List Int} (B : Best n ps cs d) (h : Rch n ps c) : (∀ k, k < n → ik c k ≤ ik cs k) → ∀ k, k < n → ik c k ≤ ik d k := by
  induction h with
  | zero => intro _ k _; rw [ik_rep]; exact B.rch.nn k
  | @step c b h1 hb hcan ih =>
    intro hle k hk
    have hl := h1.len
    have hle' : ∀ j, j < n → ik c j ≤ ik cs j := fun j hj => by
      have := hle j hj
      rw [ik_set (by omega)] at this
      split at this
      · rename_i e; subst e; omega
      · exact this
    have ihc := ih hle'
    rw [ik_set (by omega)]
    split
    · rename_i e
      subst e
      have hb1 := ihc k hk
      have hb2 := hle k hk
      rw [ik_set (by omega), if_pos rfl] at hb2
      rcases Int.lt_or_lt_of_ne (show ik c k ≠ ik d k from fun q => by
        have st := B.stuck k hk (by omega)
        have : canT ps (leftT ps d) k = true := by
          rw [can_iff]
          intro j hj ht
          have w := hw _ (pk_mem hj)
          have h3 := can_iff.mp hcan j hj ht
          rw [left_at hj] at h3 ⊢
          have e1 : (pk ps j).t.toNat = k := by omega
          rw [e1] at h3 ⊢
          have h4 := ihc (pk ps j).s.toNat (by have := w.s0; have := w.s1; omega)
          have h5 : (pk ps j).g * ik c (pk ps j).s.toNat ≤ (pk ps j).g * ik d (pk ps j).s.toNat := Int.mul_le_mul_of_nonneg_left h4 (by have := w.g0; omega)
          rw [← q]
          omega
        rw [this] at st
        cases st) with q | q <;> omega
    · exact ihc k hk
theorem Best.uniq {n : Nat} {ps : List Pipe} (hw : ∀ p ∈ ps, PWf n p) {cs d d' : List Int} (B : Best n ps cs d) (B' : Best n ps cs d') : d = d' :=
  ik_ext B.rch.len B'.rch.len fun k hk => Int.le_antisymm (B'.ge hw B.rch B.le k hk) (B.ge hw B'.rch B'.le k hk)
theorem Best.self {n : Nat} {ps : List Pipe} (hw : ∀ p ∈ ps, PWf n p) {c d : List Int} (h : Rch n ps c) (B : Best n ps c d) : d = c :=
  ik_ext B.rch.len h.len fun k hk => Int.le_antisymm (B.le k hk) (B.ge hw h (fun _ _ => Int.le_refl _) k hk)
def rowC (ps : List Pipe) (h : List Int) (b : Nat) (j : Int) : Prop := ∀ k, k < ps.length → (pk ps k).t = (b : Int) → (pk ps k).e ≤ ik h k - j * (if (pk ps k).s = (pk ps k).t then (pk ps k).e - (pk ps k).g else (pk ps k).e)
theorem rowC_can {n : Nat} {ps : List Pipe} (hw : ∀ p ∈ ps, PWf n p) {c : List Int} (hc : c.length = n) {b : Nat} (hb : b < n) (j : Int) : canT ps (leftT ps (c.set b (ik c b + j))) b = true ↔ rowC ps (leftT ps c) b j := by
  rw [can_iff]
  refine forall_congr' fun k => ?_
  refine imp_congr_right fun hk => ?_
  refine imp_congr_right fun ht => ?_
  rw [left_add hw hc hb j hk, if_pos ht, ht]
  by_cases q : (pk ps k).s = (b : Int)
  · rw [if_pos q, if_pos q, Int.mul_sub]; omega
  · rw [if_neg q, if_neg q]; omega
theorem Rch.row {n : Nat} {ps : List Pipe} (hw : ∀ p ∈ ps, PWf n p) {c : List Int} (h : Rch n ps c) {b : Nat} (hb : b < n) : ∀ v : Nat, (∀ j : Int, 0 ≤ j → j < v → rowC ps (leftT ps c) b j) → Rch n ps (c.set b (ik c b + v))
  | 0, _ => by
    have hl := h.len
    have : c.set b (ik c b + ((0 : Nat) : Int)) = c := by
      refine ik_ext (n := n) (by simpa using hl) hl fun k hk => ?_
      rw [ik_set (by omega)]
      split
      · rename_i e; subst e; simp
      · rfl
    rw [this]; exact h
  | v + 1, hj => by
    have hl := h.len
    have ih := h.row hw hb v fun j h0 h1 => hj j h0 (by omega)
    have := ih.step hb ((rowC_can hw hl hb (v : Int)).mpr (hj v (by omega) (by omega)))
    rw [ik_set (by omega), if_pos rfl, List.set_set] at this
    have e : ik c b + ((v + 1 : Nat) : Int) = ik c b + v + 1 := by omega
    rw [e]
    exact this
def lossP (p : Pipe) : Int := if p.s = p.t then p.e - p.g else p.e
theorem row_eq {ps : List Pipe} {held : List Int} {b : Nat} {most : Int} (hl : held.length = ps.length) (h16 : ps.length ≤ 16) (hs : ∀ p ∈ ps, 1 ≤ p.g ∧ 1 ≤ p.e ∧ p.e ≤ 999999) (hm : 0 ≤ most) :
    ∃ v, F_p_firings_in_a_row [.tup (ps.map encP), .loc 0, .lst (dN (intoT ps b)), .int most] [.lst (dI held)] = .ok (.int v) [.lst (dI held)] ∧ 0 ≤ v ∧ v ≤ most ∧ (∀ j, 0 ≤ j → j < v → rowC ps held b j) ∧ (v = most ∨ ¬ rowC ps held b v) := by
  unfold F_p_firings_in_a_row S_p_firings_in_a_row
  rw [fn_ev 4 12 _ rfl]
  simp
  have hmem : ∀ k, k ∈ intoT ps b ↔ k < ps.length ∧ (pk ps k).t = (b : Int) := fun k => by simp [intoT]
  rcases its_ret (intoT ps b) (fun k : Nat => D.int (k : Int)) (t := Tg.nm 5) (b := B1_p_firings_in_a_row) (E := [some (.tup (ps.map encP)), some (.loc 0), some (.lst (dN (intoT ps b))), some (.int most), some (.int most), none, none, none, none, none, none, none]) (S := [.lst (dI held)])
    (fun i E S => ∃ (many : Int) (x5 x6 x7 x8 x9 x10 x11 : Option D), E = [some (.tup (ps.map encP)), some (.loc 0), some (.lst (dN (intoT ps b))), some (.int most), some (.int many), x5, x6, x7, x8, x9, x10, x11] ∧ S = [.lst (dI held)] ∧ 0 ≤ many ∧ many ≤ most ∧ (∀ q (hq : q < (intoT ps b).length), q < i → (pk ps (intoT ps b)[q]).e ≤ ik held (intoT ps b)[q] ∧ (0 < lossP (pk ps (intoT ps b)[q]) → many ≤ (ik held (intoT ps b)[q] - (pk ps (intoT ps b)[q]).e) / lossP (pk ps (intoT ps b)[q]) + 1)) ∧ (many = most ∨ ∃ k ∈ intoT ps b, 0 < lossP (pk ps k) ∧ many = (ik held k - (pk ps k).e) / lossP (pk ps k) + 1))
    (fun v S => v = .int 0 ∧ S = [.lst (dI held)] ∧ ∃ k ∈ intoT ps b, ik held k < (pk ps k).e)
    ⟨most, none, none, none, none, none, none, none, rfl, rfl, hm, Int.le_refl _, by simp, .inl rfl⟩ (by
      rintro i E S hi ⟨many, x5, x6, x7, x8, x9, x10, x11, rfl, rfl, c1, c2, c3, c4⟩
      have hk := List.getElem_mem hi
      generalize hke : (intoT ps b)[i] = k at *
      obtain ⟨hk1, hk2⟩ := (hmem k).mp hk
      have hg := hs _ (pk_mem hk1)
      by_cases hlt : ik held k < (pk ps k).e
      · right
        refine ⟨_, _, _, rfl, ?_, rfl, rfl, k, hk, hlt⟩
        unfold B1_p_firings_in_a_row
        simp [at_P hk1, at_dI (show k < held.length by omega), hlt]
      · left
        have hge : (pk ps k).e ≤ ik held k := by omega
        by_cases hpos : 0 < lossP (pk ps k)
        · have hsm : (lossP (pk ps k)).natAbs < 1073741824 := by unfold lossP at *; split at hpos <;> omega
          have hdiv : ∀ (x : Int) (S : List D), oDiv (.int x) (.int (lossP (pk ps k))) S = .ok (.int (x / lossP (pk ps k))) S := fun x S => o_div hpos (by omega)
          have hdn : 0 ≤ (ik held k - (pk ps k).e) / lossP (pk ps k) := Int.ediv_nonneg (by omega) (by omega)
          refine turn_nx (E2 := [some (.tup (ps.map encP)), some (.loc 0), some (.lst (dN (intoT ps b))), some (.int most), some (.int (if (ik held k - (pk ps k).e) / lossP (pk ps k) + 1 < many then (ik held k - (pk ps k).e) / lossP (pk ps k) + 1 else many)), some (.int (k : Nat)), some (.int (pk ps k).s), some (.int (pk ps k).t), some (.int (pk ps k).g), some (.int (pk ps k).e), some (.int (pk ps k).m), some (.int (lossP (pk ps k)))]) (S2 := [.lst (dI held)]) rfl ?_ rfl ?_
          · unfold B1_p_firings_in_a_row
            by_cases hst : (pk ps k).s = (pk ps k).t
            · have hL : lossP (pk ps k) = (pk ps k).e - (pk ps k).g := by simp [lossP, hst]
              rw [hL] at hdiv hpos ⊢
              simp [at_P hk1, at_dI (show k < held.length by omega), hlt, hst, hdiv, show (pk ps k).g < (pk ps k).e by omega]
            · have hL : lossP (pk ps k) = (pk ps k).e := by simp [lossP, hst]
              rw [hL] at hdiv hpos ⊢
              simp [at_P hk1, at_dI (show k < held.length by omega), hlt, hst, hdiv, hpos]
          · refine ⟨_, _, _, _, _, _, _, _, rfl, rfl, by split <;> omega, by split <;> omega, fun q hq hqi => ?_, ?_⟩
            · rcases Nat.lt_or_ge q i with hq2 | hq2
              · obtain ⟨d1, d2⟩ := c3 q hq hq2
                exact ⟨d1, fun z => by have := d2 z; split <;> omega⟩
              · have : q = i := by omega
                subst this
                rw [hke]
                exact ⟨hge, fun _ => by split <;> omega⟩
            · split
              · exact .inr ⟨k, hk, hpos, rfl⟩
              · exact c4
        · refine turn_nx (E2 := [some (.tup (ps.map encP)), some (.loc 0), some (.lst (dN (intoT ps b))), some (.int most), some (.int many), some (.int (k : Nat)), some (.int (pk ps k).s), some (.int (pk ps k).t), some (.int (pk ps k).g), some (.int (pk ps k).e), some (.int (pk ps k).m), some (.int (lossP (pk ps k)))]) (S2 := [.lst (dI held)]) rfl ?_ rfl ?_
          · unfold B1_p_firings_in_a_row
            by_cases hst : (pk ps k).s = (pk ps k).t
            · have hL : lossP (pk ps k) = (pk ps k).e - (pk ps k).g := by simp [lossP, hst]
              rw [hL] at hpos ⊢
              simp [at_P hk1, at_dI (show k < held.length by omega), hlt, hst, show ¬ (pk ps k).g < (pk ps k).e by omega]
            · have hL : lossP (pk ps k) = (pk ps k).e := by simp [lossP, hst]
              rw [hL] at hpos ⊢
              simp [at_P hk1, at_dI (show k < held.length by omega), hlt, hst, hpos]
          · refine ⟨_, _, _, _, _, _, _, _, rfl, rfl, c1, c2, fun q hq hqi => ?_, c4⟩
            rcases Nat.lt_or_ge q i with hq2 | hq2
            · exact c3 q hq hq2
            · have : q = i := by omega
              subst this
              rw [hke]
              exact ⟨hge, fun z => absurd z hpos⟩) with ⟨E', S', e, many, x5, x6, x7, x8, x9, x10, x11, rfl, rfl, c1, c2, c3, c4⟩ | ⟨v, S', e, rfl, rfl, k, hk, hlt⟩
  · refine ⟨many, ?_, c1, c2, fun j h0 h1 k hk ht => ?_, ?_⟩
    · change forS (Src.its (dN (intoT ps b))) _ _ _ _ = _ at e
      simp [e]
    · obtain ⟨q, hq, hqe⟩ := List.getElem_of_mem ((hmem k).mpr ⟨hk, ht⟩)
      have := c3 q hq hq
      rw [hqe] at this
      obtain ⟨d1, d2⟩ := this
      show (pk ps k).e ≤ ik held k - j * lossP (pk ps k)
      by_cases hpos : 0 < lossP (pk ps k)
      · have d3 := d2 hpos
        have d4 : j ≤ (ik held k - (pk ps k).e) / lossP (pk ps k) := by omega
        have := (Int.le_ediv_iff_mul_le hpos).mp d4
        omega
      · have : j * lossP (pk ps k) ≤ 0 := Int.mul_nonpos_of_nonneg_of_nonpos h0 (by omega)
        omega
    · rcases c4 with c4 | ⟨k, hk, hpos, hv⟩
      · exact .inl c4
      · right
        intro hr
        obtain ⟨hk1, hk2⟩ := (hmem k).mp hk
        have h1 : (pk ps k).e ≤ ik held k - many * lossP (pk ps k) := hr k hk1 hk2
        have : many ≤ (ik held k - (pk ps k).e) / lossP (pk ps k) := (Int.le_ediv_iff_mul_le hpos).mpr (by omega)
        omega
  · refine ⟨0, ?_, Int.le_refl _, hm, fun j h0 h1 => by omega, .inr fun hr => ?_⟩
    · change forS (Src.its (dN (intoT ps b))) _ _ _ _ = _ at e
      simp [e]
    · obtain ⟨hk1, hk2⟩ := (hmem k).mp hk
      have := hr k hk1 hk2
      simp at this
      omega
def rowsD (f : Nat → List Nat) (n : Nat) : D := .lst ((List.range n).map fun b : Nat => .lst (dN (f b)))
def locsD (n : Nat) : List D := (List.range n).map fun j : Nat => D.loc j
theorem locs_at {n x : Nat} (h : x < n) : (locsD n)[x]? = some (.loc x) := by simp [locsD, h]
theorem lstOf_loc {S : List D} {n : Nat} {xs : List D} (h : S[n]? = some (.lst xs)) : lstOf S (.loc n) = some xs := by simp [lstOf, h]
theorem fz_locs {S : List D} : ∀ (ls : List Nat) (f : Nat → List D), (∀ j, j ∈ ls → S[j]? = some (.lst (f j)) ∧ D.flats (f j) = true) → (ls.map D.loc).mapM (fz 0 S 7) = some (ls.map fun j => D.lst (f j))
  | [], _, _ => rfl
  | j :: ls, f, h => by
    obtain ⟨h1, h2⟩ := h j List.mem_cons_self
    rw [List.map_cons, List.mapM_cons, fz_locs ls f fun i hi => h i (List.mem_cons_of_mem _ hi)]
    have e : fz 0 S 7 (.loc j) = some (.lst (f j)) := by
      unfold fz
      rw [if_neg (by simp [D.flat])]
      simp only [Nat.not_lt_zero, if_false, h1]
      rw [mapM_flat 0 5 S (f j) h2]
      rfl
    rw [e]
    rfl
theorem retF_locs {S : List D} {n : Nat} (f : Nat → List D) (h : ∀ j, j < n → S[j]? = some (.lst (f j)) ∧ D.flats (f j) = true) : retF 0 (.lst (locsD n)) S = .ok (.lst ((List.range n).map fun j => .lst (f j))) [] := by
  unfold retF
  rw [if_pos ⟨Nat.zero_le _, by simp⟩]
  have e : fz 0 S 8 (.lst (locsD n)) = some (.lst ((List.range n).map fun j => .lst (f j))) := by
    unfold fz
    cases n with
    | zero => rfl
    | succ n =>
      rw [if_neg (by simp [D.flat, locsD, List.range_succ_eq_map, D.flats])]
      simp only
      unfold locsD
      rw [fz_locs (List.range (n + 1)) f fun j hj => h j (List.mem_range.mp hj)]
      rfl
  rw [e]
  rfl
theorem pipesat_eq {n : Nat} {ps : List Pipe} {en : Int} (sel : Pipe → Int) (h16 : ps.length ≤ 16) (hn : n ≤ 8) (hsel : ∀ (p : Pipe) (S : List D), oIx (encP p) (.int en) S = .ok (.int (sel p)) S) (hb : ∀ p ∈ ps, 0 ≤ sel p ∧ sel p < n) :
    F_p_pipes_at [.tup (ps.map encP), .int en, .int n] [] = .ok (rowsD (fun b => (List.range ps.length).filter fun k => decide (sel (pk ps k) = (b : Int))) n) [] := by
  unfold F_p_pipes_at S_p_pipes_at
  rw [fn_ev 3 7 _ rfl]
  simp [krng1n (show n < 1000000 by omega)]
  obtain ⟨acc, S', e, rfl, rfl⟩ := lc_invN (src := .rng 0 n) (own := [6]) (t := .nm 6) (c := J.tYes) (e := V1_p_pipes_at) (E := [some (.tup (ps.map encP)), some (.int en), some (.int n), none, none, none, none]) (S := []) ((List.range n).map fun i => .int (0 + (i : Nat)))
    (fun i acc S => acc = locsD i ∧ S = List.replicate i (.lst [])) (by simp [SL]; omega) ⟨rfl, rfl⟩ (fun i acc S _ => is_rng 0 n S) (by
      rintro i d acc S ⟨rfl, rfl⟩ hd
      refine ⟨_, rfl, .inr ⟨_, .loc i, List.replicate (i + 1) (.lst []), rfl, ?_, by simp, ?_, rfl⟩⟩
      · unfold V1_p_pipes_at
        simp [bLstL, SL, List.replicate_succ']
      · simp [locsD, List.range_succ])
  rw [e]
  simp only [List.length_map, List.length_range]
  have hS0 : List.replicate n (D.lst []) = (List.range n).map fun b : Nat => D.lst (dN ((List.range 0).filter fun k => decide (sel (pk ps k) = (b : Int)))) := by
    apply List.ext_getElem
    · simp
    · intro i h1 h2; simp [dN]
  obtain ⟨E', S', e2, x4, x5, rfl, rfl⟩ := for_enum ps encP (t := Tg.tp [Tg.nm 4, Tg.nm 5]) (b := B2_p_pipes_at) (E := [some (.tup (ps.map encP)), some (.int en), some (.int n), some (.lst (locsD n)), none, none, none]) (S := List.replicate n (D.lst []))
    (fun i E S => ∃ x4 x5, E = [some (.tup (ps.map encP)), some (.int en), some (.int n), some (.lst (locsD n)), x4, x5, none] ∧ S = (List.range n).map fun b : Nat => D.lst (dN ((List.range i).filter fun k => decide (sel (pk ps k) = (b : Int))))) ⟨none, none, rfl, hS0⟩ (by
      rintro i E S hi ⟨x4, x5, rfl, rfl⟩
      have hp : ps[i] = pk ps i := by simp [pk, hi]
      rw [hp]
      obtain ⟨h0, h1⟩ := hb _ (pk_mem hi)
      obtain ⟨x, hx⟩ := Int.eq_ofNat_of_zero_le h0
      have hxn : x < n := by omega
      refine turn_nx (E2 := [some (.tup (ps.map encP)), some (.int en), some (.int n), some (.lst (locsD n)), some (.int (i : Nat)), some (encP (pk ps i)), none]) (S2 := (List.range n).map fun b : Nat => D.lst (dN ((List.range (i + 1)).filter fun k => decide (sel (pk ps k) = (b : Int))))) rfl ?_ (by simp) ⟨_, _, rfl, rfl⟩
      unfold B2_p_pipes_at
      have hat : ((List.range n).map fun b : Nat => D.lst (dN ((List.range i).filter fun k => decide (sel (pk ps k) = (b : Int)))))[x]? = some (.lst (dN ((List.range i).filter fun k => decide (sel (pk ps k) = (x : Int))))) := by simp [hxn]
      have hlen : (dN ((List.range i).filter fun k => decide (sel (pk ps k) = (x : Int)))).length < SL := by
        have := List.length_filter_le (fun k => decide (sel (pk ps k) = (x : Int))) (List.range i)
        rw [List.length_range] at this
        simp [dN, SL]; omega
      have hset : (((List.range n).map fun b : Nat => D.lst (dN ((List.range i).filter fun k => decide (sel (pk ps k) = (b : Int)))))).set x (.lst (dN ((List.range i).filter fun k => decide (sel (pk ps k) = (x : Int))) ++ [.int (i : Nat)])) = (List.range n).map fun b : Nat => D.lst (dN ((List.range (i + 1)).filter fun k => decide (sel (pk ps k) = (b : Int)))) := by
        apply List.ext_getElem
        · simp
        · intro j h1 h2
          rw [List.getElem_set]
          by_cases hj : x = j
          · subst hj
            simp [List.range_succ, hx, dN]
          · have : ¬ ((x : Int) = (j : Int)) := by omega
            simp [hj, List.range_succ, hx, this]
      generalize ((List.range n).map fun b : Nat => D.lst (dN ((List.range i).filter fun k => decide (sel (pk ps k) = (b : Int))))) = S0 at *
      simp only [List.set_cons_succ, List.set_cons_zero, ev_expr, ev_meth, ev_op, ev_var0, ev_varS, bind_ok, kop1, kop2, hsel, hx]
      have hix : oIx (.lst (locsD n)) (.int (x : Nat)) S0 = .ok (.loc x) S0 := by
        simp [locs_at hxn, at_int (show (0 : Int) ≤ (x : Nat) by omega)]
      rw [hix]
      simp only [bind_ok, kM1]
      rw [if_pos (by rw [lstOf_loc hat]; rfl)]
      simp only [ev_cons, ev_nil, ev_var0, ev_varS, bind_ok, kcons1, kcons2, m_app, hat, apL_l _ hlen, toO_ok, kexpr, hset])
  simp [e2]
  rw [retF_locs (fun b : Nat => dN ((List.range ps.length).filter fun k => decide (sel (pk ps k) = (b : Int)))) fun j hj => ⟨by simp [hj], by simp⟩]
  rfl
def updL (f : Nat → Int → Int) (ks : List Nat) (h : List Int) : List Int := ks.foldl (fun h k => h.set k (f k (ik h k))) h
theorem updL_len (f : Nat → Int → Int) : ∀ (ks : List Nat) (h : List Int), (updL f ks h).length = h.length
  | [], _ => rfl
  | k :: ks, h => by
    show (updL f ks (h.set k (f k (ik h k)))).length = _
    rw [updL_len f ks]
    simp
theorem updL_succ (f : Nat → Int → Int) {ks : List Nat} (h : List Int) {i : Nat} (hi : i < ks.length) : updL f (ks.take (i + 1)) h = (updL f (ks.take i) h).set ks[i] (f ks[i] (ik (updL f (ks.take i) h) ks[i])) := by
  unfold updL
  rw [← List.take_append_getElem hi, List.foldl_append]
  rfl
theorem updL_at (f : Nat → Int → Int) : ∀ (ks : List Nat) (h : List Int), ks.Nodup → (∀ k ∈ ks, k < h.length) → ∀ j, ik (updL f ks h) j = if j ∈ ks then f j (ik h j) else ik h j
  | [], h, _, _, j => by simp [updL]
  | k :: ks, h, nd, hb, j => by
    show ik (updL f ks (h.set k (f k (ik h k)))) j = _
    rw [List.nodup_cons] at nd
    rw [updL_at f ks _ nd.2 (fun i hi => by simpa using hb i (List.mem_cons_of_mem _ hi)), ik_set (hb k List.mem_cons_self)]
    by_cases e : j = k
    · subst e
      simp [nd.1]
    · simp [e]
theorem nodup_filter (n : Nat) (p : Nat → Bool) : ((List.range n).filter p).Nodup := List.Pairwise.sublist List.filter_sublist List.nodup_range
theorem sum_set : ∀ {c : List Int} {b : Nat} (h : b < c.length) (v : Int), (c.set b (ik c b + v)).sum = c.sum + v
  | x :: c, 0, _, v => by
    show (x + v) + c.sum = (x + c.sum) + v
    omega
  | x :: c, b + 1, h, v => by
    have := sum_set (c := c) (b := b) (by simpa using h) v
    have e : ik (x :: c) (b + 1) = ik c b := rfl
    rw [e]
    show x + (c.set b (ik c b + v)).sum = (x + c.sum) + v
    omega
theorem sum_mono : ∀ {c d : List Int}, c.length = d.length → (∀ k, k < c.length → ik c k ≤ ik d k) → c.sum ≤ d.sum
  | [], [], _, _ => Int.le_refl _
  | x :: c, y :: d, hl, h => by
    have h0 : x ≤ y := h 0 (by simp)
    have := sum_mono (c := c) (d := d) (by simpa using hl) fun k hk => h (k + 1) (by simpa using hk)
    show x + c.sum ≤ y + d.sum
    omega
theorem b3_eq {ps : List Pipe} {H : List Int} {k : Nat} (hk : k < ps.length) (hH : H.length = ps.length) (he : 1 ≤ (pk ps k).e ∧ (pk ps k).e ≤ 999999) (v : Int) (x1 x2 x3 x5 x6 x7 x10 x11 : Option D) (S : List D) :
    B3_p_most_counts [some (.tup (ps.map encP)), x1, x2, x3, some (.loc 0), x5, x6, x7, some (.int v), some (.int (k : Nat)), x10, x11] (.lst (dI H) :: S) = .nx [some (.tup (ps.map encP)), x1, x2, x3, some (.loc 0), x5, x6, x7, some (.int v), some (.int (k : Nat)), x10, x11] (.lst (dI (H.set k (ik H k - v * (pk ps k).e))) :: S) := by
  unfold B3_p_most_counts
  have hm : ∀ S, oMul (.int v) (.int (pk ps k).e) S = .ok (.int (v * (pk ps k).e)) S := fun S => o_mul (.inr (by simp [smallI]; omega))
  have h2 : ixOf (dI H).length (k : Int) = some k := ix_nat (by simp [dI]; omega)
  have h3 : ∀ v : Int, (dI H).set k (.int v) = dI (H.set k v) := fun v => by simp [dI, List.map_set]
  simp [at_P hk, at_dI (show k < H.length by omega), hm, h2, h3]
theorem b4_eq {ps : List Pipe} {H : List Int} {k : Nat} {wt : List Nat} (hk : k < ps.length) (hH : H.length = ps.length) (he : 1 ≤ (pk ps k).g ∧ (pk ps k).g ≤ 999999) (ht : 0 ≤ (pk ps k).t) (hw : wt.length < SL) (v : Int) (dn : D) (x1 x2 x3 x5 x7 x10 x11 : Option D) :
    B4_p_most_counts [some (.tup (ps.map encP)), x1, x2, x3, some (.loc 0), x5, some (.loc 2), x7, some (.int v), some (.int (k : Nat)), x10, x11] [.lst (dI H), dn, .lst (dN wt)] = .nx [some (.tup (ps.map encP)), x1, x2, x3, some (.loc 0), x5, some (.loc 2), x7, some (.int v), some (.int (k : Nat)), x10, x11] [.lst (dI (H.set k (ik H k + v * (pk ps k).g))), dn, .lst (dN (wt ++ [(pk ps k).t.toNat]))] := by
  unfold B4_p_most_counts
  have hm : ∀ S, oMul (.int v) (.int (pk ps k).g) S = .ok (.int (v * (pk ps k).g)) S := fun S => o_mul (.inr (by simp [smallI]; omega))
  have h2 : ixOf (dI H).length (k : Int) = some k := ix_nat (by simp [dI]; omega)
  have h3 : ∀ v : Int, (dI H).set k (.int v) = dI (H.set k v) := fun v => by simp [dI, List.map_set]
  have h4 : dN (wt ++ [(pk ps k).t.toNat]) = dN wt ++ [.int (pk ps k).t] := by simp [dN, Int.toNat_of_nonneg ht]
  have h5 : (dN wt).length < SL := by simpa [dN] using hw
  rw [h4]
  simp [at_P hk, at_dI (show k < H.length by omega), hm, h2, h3, h5]
theorem loop3 {ps : List Pipe} {H : List Int} {b : Nat} (hH : H.length = ps.length) (he : ∀ p ∈ ps, 1 ≤ p.e ∧ p.e ≤ 999999) (v : Int) (x1 x2 x3 x5 x6 x7 x9 x10 x11 : Option D) (S : List D) :
    ∃ y9, forS (.its (dN (intoT ps b))) (.nm 9) B3_p_most_counts [some (.tup (ps.map encP)), x1, x2, x3, some (.loc 0), x5, x6, x7, some (.int v), x9, x10, x11] (.lst (dI H) :: S) = .nx [some (.tup (ps.map encP)), x1, x2, x3, some (.loc 0), x5, x6, x7, some (.int v), y9, x10, x11] (.lst (dI (updL (fun k h => h - v * (pk ps k).e) (intoT ps b) H)) :: S) := by
  obtain ⟨E', S', e, y9, rfl, rfl⟩ := for_its (intoT ps b) (fun k : Nat => D.int (k : Int)) (t := .nm 9) (b := B3_p_most_counts) (E := [some (.tup (ps.map encP)), x1, x2, x3, some (.loc 0), x5, x6, x7, some (.int v), x9, x10, x11]) (S := .lst (dI H) :: S)
    (fun i E S' => ∃ y9, E = [some (.tup (ps.map encP)), x1, x2, x3, some (.loc 0), x5, x6, x7, some (.int v), y9, x10, x11] ∧ S' = .lst (dI (updL (fun k h => h - v * (pk ps k).e) ((intoT ps b).take i) H)) :: S) ⟨x9, rfl, rfl⟩ (by
      rintro i E S' hi ⟨y9, rfl, rfl⟩
      have hk := List.getElem_mem hi
      have hk1 : (intoT ps b)[i] < ps.length := List.mem_range.mp (List.mem_filter.mp hk).1
      refine turn_nx rfl (b3_eq hk1 (by rw [updL_len]; exact hH) (he _ (pk_mem hk1)) v x1 x2 x3 x5 x6 x7 x10 x11 S) (by simp) ⟨_, rfl, ?_⟩
      rw [updL_succ _ _ hi])
  rw [List.take_of_length_le (Nat.le_refl _)] at e
  exact ⟨y9, e⟩
theorem loop4 {ps : List Pipe} {H : List Int} {b : Nat} {wt : List Nat} (h16 : ps.length ≤ 16) (hH : H.length = ps.length) (he : ∀ p ∈ ps, 1 ≤ p.g ∧ p.g ≤ 999999 ∧ 0 ≤ p.t) (hw : wt.length < 1000000) (v : Int) (dn : D) (x1 x2 x3 x5 x7 x9 x10 x11 : Option D) :
    ∃ y9, forS (.its (dN (outT ps b))) (.nm 9) B4_p_most_counts [some (.tup (ps.map encP)), x1, x2, x3, some (.loc 0), x5, some (.loc 2), x7, some (.int v), x9, x10, x11] [.lst (dI H), dn, .lst (dN wt)] = .nx [some (.tup (ps.map encP)), x1, x2, x3, some (.loc 0), x5, some (.loc 2), x7, some (.int v), y9, x10, x11] [.lst (dI (updL (fun k h => h + v * (pk ps k).g) (outT ps b) H)), dn, .lst (dN (wt ++ (outT ps b).map fun k => (pk ps k).t.toNat))] := by
  obtain ⟨E', S', e, y9, rfl, rfl⟩ := for_its (outT ps b) (fun k : Nat => D.int (k : Int)) (t := .nm 9) (b := B4_p_most_counts) (E := [some (.tup (ps.map encP)), x1, x2, x3, some (.loc 0), x5, some (.loc 2), x7, some (.int v), x9, x10, x11]) (S := [.lst (dI H), dn, .lst (dN wt)])
    (fun i E S' => ∃ y9, E = [some (.tup (ps.map encP)), x1, x2, x3, some (.loc 0), x5, some (.loc 2), x7, some (.int v), y9, x10, x11] ∧ S' = [.lst (dI (updL (fun k h => h + v * (pk ps k).g) ((outT ps b).take i) H)), dn, .lst (dN (wt ++ ((outT ps b).take i).map fun k => (pk ps k).t.toNat))]) ⟨x9, rfl, by simp [updL]⟩ (by
      rintro i E S' hi ⟨y9, rfl, rfl⟩
      have hk := List.getElem_mem hi
      have hk1 : (outT ps b)[i] < ps.length := List.mem_range.mp (List.mem_filter.mp hk).1
      have hp := he _ (pk_mem hk1)
      have hlo : (outT ps b).length ≤ ps.length := by
        have := List.length_filter_le (fun k => decide ((pk ps k).s = (b : Int))) (List.range ps.length)
        rw [List.length_range] at this; exact this
      refine turn_nx rfl (b4_eq hk1 (by rw [updL_len]; exact hH) ⟨hp.1, hp.2.1⟩ hp.2.2 (by simp [SL]; omega) v dn x1 x2 x3 x5 x7 x10 x11) rfl ⟨_, rfl, ?_⟩
      rw [updL_succ _ _ hi, ← List.take_append_getElem hi, List.map_append, List.append_assoc]
      rfl)
  rw [List.take_of_length_le (Nat.le_refl _)] at e
  exact ⟨y9, e⟩
theorem left_upd {n : Nat} {ps : List Pipe} (hw : ∀ p ∈ ps, PWf n p) {c : List Int} (hc : c.length = n) {b : Nat} (hb : b < n) (v : Int) :
    updL (fun k h => h + v * (pk ps k).g) (outT ps b) (updL (fun k h => h - v * (pk ps k).e) (intoT ps b) (leftT ps c)) = leftT ps (c.set b (ik c b + v)) := by
  have hl := left_len ps c
  have m1 : ∀ k, k ∈ intoT ps b ↔ k < ps.length ∧ (pk ps k).t = (b : Int) := fun k => by simp [intoT]
  have m2 : ∀ k, k ∈ outT ps b ↔ k < ps.length ∧ (pk ps k).s = (b : Int) := fun k => by simp [outT]
  refine ik_ext (n := ps.length) (by rw [updL_len, updL_len, hl]) (left_len _ _) fun k hk => ?_
  have nd1 : (intoT ps b).Nodup := nodup_filter _ _
  have nd2 : (outT ps b).Nodup := nodup_filter _ _
  rw [updL_at _ _ _ nd2 (fun j hj => by rw [updL_len, hl]; exact ((m2 j).mp hj).1), updL_at _ _ _ nd1 (fun j hj => by rw [hl]; exact ((m1 j).mp hj).1), left_add hw hc hb v hk]
  by_cases c1 : (pk ps k).s = (b : Int) <;> by_cases c2 : (pk ps k).t = (b : Int)
  · rw [if_pos ((m2 k).mpr ⟨hk, c1⟩), if_pos ((m1 k).mpr ⟨hk, c2⟩), if_pos c1, if_pos c2]
  · rw [if_pos ((m2 k).mpr ⟨hk, c1⟩), if_neg (fun z => c2 ((m1 k).mp z).2), if_pos c1, if_neg c2]; omega
  · rw [if_neg (fun z => c1 ((m2 k).mp z).2), if_pos ((m1 k).mpr ⟨hk, c2⟩), if_neg c1, if_pos c2]; omega
  · rw [if_neg (fun z => c1 ((m2 k).mp z).2), if_neg (fun z => c2 ((m1 k).mp z).2), if_neg c1, if_neg c2]; omega
theorem rows_at {f : Nat → List Nat} {n b : Nat} (h : b < n) (S : List D) : oIx (rowsD f n) (.int (b : Nat)) S = .ok (.lst (dN (f b))) S := by
  unfold rowsD
  simp [at_int (show (0 : Int) ≤ (b : Nat) by omega), h]
structure MI_ (n : Nat) (ps : List Pipe) (cs d : List Int) (wt : List Nat) (m : Nat) : Prop where
  rch : Rch n ps d
  le : ∀ k, k < n → ik d k ≤ ik cs k
  wn : ∀ k ∈ wt, k < n
  st : ∀ k : Nat, k < n → k ∉ wt → ik d k < ik cs k → canT ps (leftT ps d) k = false
  m1 : m = 20 * (cs.sum - d.sum).toNat + wt.length
  m2 : m < 500000
structure FP (n : Nat) (ps : List Pipe) : Prop where
  l : ps.length ≤ 16
  n8 : n ≤ 8
  ok : ∀ p ∈ ps, PWf n p
  big : ∀ p ∈ ps, p.g ≤ 999999 ∧ p.e ≤ 999999
theorem turn_mc {n : Nat} {ps : List Pipe} (F : FP n ps) {cs d : List Int} (hcs : cs.length = n) {ws : List Nat} {b m : Nat} (M : MI_ n ps cs d (ws ++ [b]) m) (x7 x8 x9 : Option D) :
    ∃ (d' : List Int) (wt' : List Nat) (m' : Nat) (y7 y8 y9 : Option D), (B5_p_most_counts [some (.tup (ps.map encP)), some (.tup (dI cs)), some (rowsD (fun b => outT ps b) n), some (rowsD (fun b => intoT ps b) n), some (.loc 0), some (.loc 1), some (.loc 2), x7, x8, x9, none, none] [.lst (dI (leftT ps d)), .lst (dI d), .lst (dN (ws ++ [b]))] = .nx [some (.tup (ps.map encP)), some (.tup (dI cs)), some (rowsD (fun b => outT ps b) n), some (rowsD (fun b => intoT ps b) n), some (.loc 0), some (.loc 1), some (.loc 2), y7, y8, y9, none, none] [.lst (dI (leftT ps d')), .lst (dI d'), .lst (dN wt')] ∨ B5_p_most_counts [some (.tup (ps.map encP)), some (.tup (dI cs)), some (rowsD (fun b => outT ps b) n), some (rowsD (fun b => intoT ps b) n), some (.loc 0), some (.loc 1), some (.loc 2), x7, x8, x9, none, none] [.lst (dI (leftT ps d)), .lst (dI d), .lst (dN (ws ++ [b]))] = .ct [some (.tup (ps.map encP)), some (.tup (dI cs)), some (rowsD (fun b => outT ps b) n), some (rowsD (fun b => intoT ps b) n), some (.loc 0), some (.loc 1), some (.loc 2), y7, y8, y9, none, none] [.lst (dI (leftT ps d')), .lst (dI d'), .lst (dN wt')]) ∧ m' < m ∧ MI_ n ps cs d' wt' m' := by
  have hb : b < n := M.wn b (by simp)
  have hd := M.rch.len
  have hm0 : 0 ≤ ik cs b - ik d b := by have := M.le b hb; omega
  obtain ⟨v, e1, v0, v1, v2, v3⟩ := row_eq (held := leftT ps d) (b := b) (most := ik cs b - ik d b) (left_len _ _) F.l (fun p hp => ⟨(F.ok p hp).g0, (F.ok p hp).e0, (F.big p hp).2⟩) hm0
  have hwl : ws.length + 1 ≤ 500000 := by have h1 := M.m1; have h2 := M.m2; simp at h1; omega
  have hc2 : ∀ S : List D, S[0]? = some (.lst (dI (leftT ps d))) → callF F_p_firings_in_a_row [.tup (ps.map encP), .loc 0, .lst (dN (intoT ps b)), .int (ik cs b - ik d b)] S = .ok (.int v) (S.set 0 (.lst (dI (leftT ps d)))) := fun S hS => by
    rw [call2 _ (by simp) hS (by simp) (by simp), e1, kc1 rfl (by simp)]
  unfold B5_p_most_counts
  have hdn : dN (ws ++ [b]) = dN ws ++ [.int (b : Nat)] := by simp [dN]
  have hpop : ∀ x y : D, mPop (.loc 2) [] [x, y, .lst (dN (ws ++ [b]))] = .ok (.int (b : Nat)) [x, y, .lst (dN ws)] := fun x y => by rw [hdn]; simp
  have hstart : ∀ x y : D, ∀ E : Env, E[6]? = some (some (.loc 2)) → eMeth mPop (eVar 6) aNil E [x, y, .lst (dN (ws ++ [b]))] = .ok (.int (b : Nat)) [x, y, .lst (dN ws)] := fun x y E hE => by
    have e0 : eVar 6 E [x, y, .lst (dN (ws ++ [b]))] = .ok (.loc 2) [x, y, .lst (dN (ws ++ [b]))] := by unfold eVar; rw [hE]
    simp only [ev_meth, e0, bind_ok, kM1]
    rw [if_pos (by rfl)]
    simp only [ev_nil, bind_ok, hpop]
  simp only [ev_seq, ev_set, hstart _ _ _ (rfl : [some (.tup (ps.map encP)), some (.tup (dI cs)), some (rowsD (fun b => outT ps b) n), some (rowsD (fun b => intoT ps b) n), some (.loc 0), some (.loc 1), some (.loc 2), x7, x8, x9, none, none][6]? = _), toO_ok, kset, List.set_cons_succ, List.set_cons_zero, kseq_nx]
  have hix : ∀ (xs : List Int) (S : List D), b < xs.length → oIx (.tup (dI xs)) (.int (b : Nat)) S = .ok (.int (ik xs b)) S := fun xs S h => by
    simp [at_int (show (0 : Int) ≤ (b : Nat) by omega), at_dI h]
  have hixL : ∀ (x : D) (xs : List Int) (S : List D), b < xs.length → oIx (.loc 1) (.int (b : Nat)) (x :: .lst (dI xs) :: S) = .ok (.int (ik xs b)) (x :: .lst (dI xs) :: S) := fun x xs S h => by
    simp [at_dI h]
  have hargs : ∀ (x7 x8 x9 : Option D), (aCons (eVar 0) (aCons (eVar 4) (aCons (eOp oIx (eVar 3) (eVar 7)) (aCons (eOp oSub (eOp oIx (eVar 1) (eVar 7)) (eOp oIx (eVar 5) (eVar 7))) aNil)))) [some (.tup (ps.map encP)), some (.tup (dI cs)), some (rowsD (fun b => outT ps b) n), some (rowsD (fun b => intoT ps b) n), some (.loc 0), some (.loc 1), some (.loc 2), some (.int (b : Nat)), x8, x9, none, none] [.lst (dI (leftT ps d)), .lst (dI d), .lst (dN ws)] = .ok [.tup (ps.map encP), .loc 0, .lst (dN (intoT ps b)), .int (ik cs b - ik d b)] [.lst (dI (leftT ps d)), .lst (dI d), .lst (dN ws)] := fun _ _ _ => by
    simp only [ev_cons, ev_nil, ev_op, ev_var0, ev_varS, bind_ok, kop1, kop2, rows_at hb, hix cs _ (by omega), hixL _ d _ (by omega), kcons1, kcons2, o_sub]
  simp only [ev_args, hargs x7 x8 x9, bind_ok, hc2 _ (rfl : [D.lst (dI (leftT ps d)), .lst (dI d), .lst (dN ws)][0]? = _), List.set_cons_zero, List.set_cons_succ, toO_ok, kset, kseq_nx]
  by_cases hv : v = 0
  · subst hv
    refine ⟨d, ws, m - 1, some (.int (b : Nat)), some (.int 0), x9, .inr ?_, ?_, M.rch, M.le, fun k hk => M.wn k (by simp [hk]), fun k hk hkw hlt => ?_, ?_, ?_⟩
    · simp
    · have := M.m1; simp at this; omega
    · by_cases hkb : k = b
      · subst hkb
        rcases v3 with v3 | v3
        · omega
        · have := rowC_can F.ok hd hb 0
          rw [Int.add_zero, show d.set k (ik d k) = d from by
            refine ik_ext (n := n) (by simpa using hd) hd fun j hj => ?_
            rw [ik_set (by omega)]; split
            · rename_i q; rw [q]
            · rfl] at this
          rw [← Bool.not_eq_true, this]
          exact v3
      · exact M.st k hk (by simp [hkw, hkb]) hlt
    · have := M.m1; simp at this; omega
    · have := M.m2; omega
  · have hvN : ∃ u : Nat, v = (u : Int) := Int.eq_ofNat_of_zero_le v0
    have hlo : (outT ps b).length ≤ ps.length := by
      have := List.length_filter_le (fun k => decide ((pk ps k).s = (b : Int))) (List.range ps.length)
      rw [List.length_range] at this; exact this
    have hF := F.l
    have hset : ∀ x y : D, putAt (.loc 1) (.int (b : Nat)) (.int (ik d b + v)) [x, .lst (dI d), y] = some [x, .lst (dI (d.set b (ik d b + v))), y] := fun x y => by
      have h2 : ixOf (dI d).length (b : Int) = some b := ix_nat (by simp [dI]; omega)
      have h3 : ∀ v : Int, (dI d).set b (.int v) = dI (d.set b v) := fun v => by simp [dI, List.map_set]
      simp [h2, h3]
    obtain ⟨y9, l3⟩ := loop3 (H := leftT ps d) (b := b) (left_len ps d) (fun p hp => ⟨(F.ok p hp).e0, (F.big p hp).2⟩) v (some (.tup (dI cs))) (some (rowsD (fun b => outT ps b) n)) (some (rowsD (fun b => intoT ps b) n)) (some (.loc 1)) (some (.loc 2)) (some (.int (b : Nat))) x9 none none [.lst (dI (d.set b (ik d b + v))), .lst (dN ws)]
    obtain ⟨z9, l4⟩ := loop4 (H := updL (fun k h => h - v * (pk ps k).e) (intoT ps b) (leftT ps d)) (b := b) (wt := ws) F.l (by rw [updL_len, left_len]) (fun p hp => ⟨(F.ok p hp).g0, (F.big p hp).1, (F.ok p hp).t0⟩) (by omega) v (.lst (dI (d.set b (ik d b + v)))) (some (.tup (dI cs))) (some (rowsD (fun b => outT ps b) n)) (some (rowsD (fun b => intoT ps b) n)) (some (.loc 1)) (some (.int (b : Nat))) y9 none none
    rw [left_upd F.ok hd hb v] at l4
    have hsum := sum_set (c := d) (b := b) (by omega) v
    have hle : ∀ k, k < n → ik (d.set b (ik d b + v)) k ≤ ik cs k := fun k hk => by
      rw [ik_set (by omega)]
      split
      · rename_i q; subst q; omega
      · exact M.le k hk
    have hsm := sum_mono (c := d.set b (ik d b + v)) (d := cs) (by simp; omega) fun k hk => hle k (by simpa [hd] using hk)
    have hm1 := M.m1
    have hm2 := M.m2
    simp at hm1
    refine ⟨d.set b (ik d b + v), ws ++ (outT ps b).map fun k => (pk ps k).t.toNat, 20 * (cs.sum - (d.set b (ik d b + v)).sum).toNat + (ws ++ (outT ps b).map fun k => (pk ps k).t.toNat).length, some (.int (b : Nat)), some (.int v), z9, .inl ?_, ?_, ?_, hle, ?_, ?_, rfl, ?_⟩
    · have hne : ¬ (v = 0) := hv
      simp only [ev_seq, ev_sif, ev_tv, ev_op, ev_var0, ev_varS, ev_c, bind_ok, kop1, kop2]
      have he0 : ∀ S, oEq (.int v) (.int 0) S = .ok (.bl false) S := fun S => by simp [hne]
      simp only [he0, bind_ok, ktv, tO_ok, ksif_f, ev_next, kseq_nx, ev_seq, ev_putAug, ev_var0, ev_varS, toO_ok]
      have hpa : ∀ E : Env, E = [some (.tup (ps.map encP)), some (.tup (dI cs)), some (rowsD (fun b => outT ps b) n), some (rowsD (fun b => intoT ps b) n), some (.loc 0), some (.loc 1), some (.loc 2), some (.int (b : Nat)), some (.int v), x9, none, none] → kPA0 iAdd (eVar 7) (eVar 8) E (.loc 1) [.lst (dI (leftT ps d)), .lst (dI d), .lst (dN ws)] = .nx E [.lst (dI (leftT ps d)), .lst (dI (d.set b (ik d b + v))), .lst (dN ws)] := fun E hE => by
        subst hE
        have h2 : ixOf (dI d).length (b : Int) = some b := ix_nat (by simp [dI]; omega)
        have h3 : ∀ v : Int, (dI d).set b (.int v) = dI (d.set b v) := fun v => by simp [dI, List.map_set]
        simp [at_dI (show b < d.length by omega), h2, h3]
      rw [hpa _ rfl]
      simp only [kseq_nx, ev_seq, ev_for, ev_iseq, ev_op, ev_var0, ev_varS, bind_ok, kop1, kop2, rows_at hb, kseqi, src_lst, kSrc_s, kfor]
      rw [l3]
      simp only [kseq_nx, ev_seq, ev_for, ev_iseq, ev_op, ev_var0, ev_varS, bind_ok, kop1, kop2, rows_at hb, kseqi, src_lst, kSrc_s, kfor]
      exact l4
    · simp
      omega
    · obtain ⟨u, hu⟩ := hvN
      subst hu
      exact M.rch.row F.ok hb u v2
    · intro k hk
      rcases List.mem_append.mp hk with hk | hk
      · exact M.wn k (by simp [hk])
      · obtain ⟨j, hj, rfl⟩ := List.mem_map.mp hk
        have hj1 : j < ps.length := List.mem_range.mp (List.mem_filter.mp hj).1
        have := F.ok _ (pk_mem hj1)
        have := this.t0; have := (F.ok _ (pk_mem hj1)).t1
        omega
    · intro k hk hkw hlt
      rw [List.mem_append, not_or] at hkw
      by_cases hkb : k = b
      · subst hkb
        rw [ik_set (by omega), if_pos rfl] at hlt
        rcases v3 with v3 | v3
        · omega
        · rw [← Bool.not_eq_true, rowC_can F.ok hd hb v]
          exact v3
      · rw [ik_set (by omega), if_neg hkb] at hlt
        have hold := M.st k hk (by simp [hkw.1, hkb]) hlt
        rw [← Bool.not_eq_true] at hold ⊢
        intro hcan
        apply hold
        rw [can_iff] at hcan ⊢
        intro j hj ht
        have h1 := hcan j hj ht
        have hs : ¬ (pk ps j).s = (b : Int) := fun z => hkw.2 (List.mem_map.mpr ⟨j, by simp [outT, hj, z], by rw [ht]; simp⟩)
        rw [left_add F.ok hd hb v hj, if_neg hs, if_neg (by rw [ht]; omega)] at h1
        omega
    · simp
      omega
theorem flat_rowsD (f : Nat → List Nat) (n : Nat) : (rowsD f n).flat = true := by
  show D.flats ((List.range n).map fun b : Nat => D.lst (dN (f b))) = true
  exact flats_map _ (fun b => by show D.flats (dN (f b)) = true; simp) _
theorem mc_eq {n : Nat} {ps : List Pipe} (F : FP n ps) {cs : List Int} (hcs : cs.length = n) (h0 : ∀ k, k < n → 0 ≤ ik cs k) (hs : cs.sum ≤ 20000) : ∃ d, F_p_most_counts [.tup (ps.map encP), .tup (dI cs)] [] = .ok (.tup (dI d)) [] ∧ Best n ps cs d := by
  unfold F_p_most_counts S_p_most_counts
  rw [fn_ev 2 12 _ rfl]
  have hn := F.n8
  have hl := F.l
  have p0 := pipesat_eq (n := n) (ps := ps) (en := 0) (fun p => p.s) F.l F.n8 (fun p S => ixP0 p S) fun p hp => ⟨(F.ok p hp).s0, (F.ok p hp).s1⟩
  have p1 := pipesat_eq (n := n) (ps := ps) (en := 1) (fun p => p.t) F.l F.n8 (fun p S => ixP1 p S) fun p hp => ⟨(F.ok p hp).t0, (F.ok p hp).t1⟩
  have hlen : (dI cs).length = n := by simp [dI, hcs]
  have e2 : ∀ E : Env, E[0]? = some (some (.tup (ps.map encP))) → E[1]? = some (some (.tup (dI cs))) → eArgs (callF F_p_pipes_at) (aCons (eVar 0) (aCons (eC (.int 0)) (aCons (eArgs bLen (aCons (eVar 1) aNil)) aNil))) E [] = .ok (rowsD (fun b => outT ps b) n) [] := fun E h1 h2 => by
    have v0 : eVar 0 E [] = .ok (.tup (ps.map encP)) [] := by unfold eVar; rw [h1]
    have v1 : eVar 1 E [] = .ok (.tup (dI cs)) [] := by unfold eVar; rw [h2]
    simp [v0, v1, hlen, p0]
    rw [kc0 (flat_rowsD _ _)]
    rfl
  have e3 : ∀ E : Env, E[0]? = some (some (.tup (ps.map encP))) → E[1]? = some (some (.tup (dI cs))) → eArgs (callF F_p_pipes_at) (aCons (eVar 0) (aCons (eC (.int 1)) (aCons (eArgs bLen (aCons (eVar 1) aNil)) aNil))) E [] = .ok (rowsD (fun b => intoT ps b) n) [] := fun E h1 h2 => by
    have v0 : eVar 0 E [] = .ok (.tup (ps.map encP)) [] := by unfold eVar; rw [h1]
    have v1 : eVar 1 E [] = .ok (.tup (dI cs)) [] := by unfold eVar; rw [h2]
    simp [v0, v1, hlen, p1]
    rw [kc0 (flat_rowsD _ _)]
    rfl
  have c4 : ∀ E : Env, lcS true (.its (ps.map encP)) [10] (.nm 10) J.tYes V1_p_most_counts (some (.tup (ps.map encP)) :: some (.tup (dI cs)) :: some (rowsD (fun b => outT ps b) n) :: some (rowsD (fun b => intoT ps b) n) :: none :: none :: none :: none :: none :: none :: none :: none :: []) [] = .ok (.loc 0) [.lst (dI (marksT ps))] := fun E => by
    rw [lc_eq ps encP (fun _ => true) (fun p => D.int p.m) (smallL F.l) (is_its _ _) (fun p _ => ⟨_, rfl, rfl, fun _ => by unfold V1_p_most_counts; simp⟩)]
    simp [dI, marksT, List.filter_eq_self.mpr]
  have c5 : lcS true (.its (dI cs)) [11] (.nm 11) J.tYes V2_p_most_counts (some (.tup (ps.map encP)) :: some (.tup (dI cs)) :: some (rowsD (fun b => outT ps b) n) :: some (rowsD (fun b => intoT ps b) n) :: some (.loc 0) :: none :: none :: none :: none :: none :: none :: none :: []) [.lst (dI (marksT ps))] = .ok (.loc 1) [.lst (dI (marksT ps)), .lst (dI (List.replicate n 0))] := by
    have := lc_eq (w := true) (src := .its (dI cs)) (own := [11]) (t := .nm 11) (c := J.tYes) (e := V2_p_most_counts) (E := some (.tup (ps.map encP)) :: some (.tup (dI cs)) :: some (rowsD (fun b => outT ps b) n) :: some (rowsD (fun b => intoT ps b) n) :: some (.loc 0) :: none :: none :: none :: none :: none :: none :: none :: []) (S := [.lst (dI (marksT ps))]) cs D.int (fun _ => true) (fun _ => D.int 0) (by simp [SL]; omega) (is_its _ _) (fun p _ => ⟨_, rfl, rfl, fun _ => by unfold V2_p_most_counts; simp⟩)
    rw [this]
    have hm : List.map (fun _ : Int => D.int 0) (List.filter (fun _ => true) cs) = dI (List.replicate n 0) := by
      rw [List.filter_eq_self.mpr (by simp)]
      rw [List.map_const']
      simp [dI, hcs]
    rw [hm]
    rfl
  have hrg : ((List.range n).map fun i : Nat => D.int (i : Int)) = dN (List.range n) := rfl
  simp only [ev_seq, ev_set, List.replicate, List.map_cons, List.map_nil, List.cons_append, List.nil_append]
  rw [e2 _ rfl rfl]
  simp only [ev_seq, ev_set, toO_ok, kset, kseq_nx, List.set_cons_succ, List.set_cons_zero]
  rw [e3 _ rfl rfl]
  simp only [ev_seq, ev_set, toO_ok, kset, kseq_nx, List.set_cons_succ, List.set_cons_zero, ev_lcL, ev_iseq, ev_var0, ev_varS, bind_ok, kseqi, src_tup, kSrc_s, klc]
  rw [c4 []]
  simp only [ev_seq, ev_set, toO_ok, kset, kseq_nx, List.set_cons_succ, List.set_cons_zero, ev_lcL, ev_iseq, ev_var0, ev_varS, bind_ok, kseqi, src_tup, kSrc_s, klc]
  rw [c5]
  simp only [ev_seq, ev_set, toO_ok, kset, kseq_nx, List.set_cons_succ, List.set_cons_zero, ev_lstRgL, ev_args, ev_cons, ev_nil, ev_var0, ev_varS, bind_ok, kcons1, kcons2, b_len, b_lenT, hlen]
  rw [klstRg (by unfold SL; omega), hrg]
  simp only [ev_seq, ev_set, toO_ok, kset, kseq_nx, List.set_cons_succ, List.set_cons_zero, ev_while]
  have hz : (List.replicate n (0 : Int)).sum = 0 := by
    induction n with
    | zero => rfl
    | succ n ih => rw [List.replicate_succ, List.sum_cons]; simp
  obtain ⟨E', S', e, d, x7, x8, x9, rfl, rfl, hB⟩ := whileGo_inv (t := C6_p_most_counts) (b := B5_p_most_counts) (n := 3)
    (fun m E S => ∃ d wt x7 x8 x9, E = [some (.tup (ps.map encP)), some (.tup (dI cs)), some (rowsD (fun b => outT ps b) n), some (rowsD (fun b => intoT ps b) n), some (.loc 0), some (.loc 1), some (.loc 2), x7, x8, x9, none, none] ∧ S = [.lst (dI (leftT ps d)), .lst (dI d), .lst (dN wt)] ∧ MI_ n ps cs d wt m)
    (fun E S => ∃ d x7 x8 x9, E = [some (.tup (ps.map encP)), some (.tup (dI cs)), some (rowsD (fun b => outT ps b) n), some (rowsD (fun b => intoT ps b) n), some (.loc 0), some (.loc 1), some (.loc 2), x7, x8, x9, none, none] ∧ S = [.lst (dI (leftT ps d)), .lst (dI d), .lst []] ∧ Best n ps cs d) (by
      rintro m E S ⟨d, wt, x7, x8, x9, rfl, rfl, M⟩
      rcases List.eq_nil_or_concat wt with rfl | ⟨ws, b, rfl⟩
      · left
        refine ⟨?_, d, x7, x8, x9, rfl, rfl, M.rch, M.le, fun k hk hlt => M.st k hk (by simp) hlt⟩
        unfold C6_p_most_counts
        simp only [ev_tr, ev_var0, ev_varS, bind_ok]
        exact ktt_loc (xs := []) rfl
      · right
        rw [List.concat_eq_append] at *
        obtain ⟨d', wt', m', y7, y8, y9, h1, h2, h3⟩ := turn_mc F hcs M x7 x8 x9
        refine ⟨?_, _, _, _, _, m', h1, gc_same rfl, h2, d', wt', y7, y8, y9, rfl, rfl, h3⟩
        unfold C6_p_most_counts
        simp only [ev_tr, ev_var0, ev_varS, bind_ok]
        rw [ktt_loc (xs := dN (ws ++ [b])) rfl]
        simp [dN]) 1000000 (20 * (cs.sum - (List.replicate n 0).sum).toNat + (List.range n).length) [some (.tup (ps.map encP)), some (.tup (dI cs)), some (rowsD (fun b => outT ps b) n), some (rowsD (fun b => intoT ps b) n), some (.loc 0), some (.loc 1), some (.loc 2), none, none, none, none, none] [.lst (dI (marksT ps)), .lst (dI (List.replicate n 0)), .lst (dN (List.range n))] (by rw [hz]; simp; omega)
      ⟨List.replicate n 0, List.range n, none, none, none, rfl, by rw [left_zero], .zero, fun k hk => by rw [ik_rep]; exact h0 k hk, fun k hk => List.mem_range.mp hk, fun k hk hkw _ => absurd (List.mem_range.mpr hk) hkw, rfl, by rw [hz]; simp; omega⟩
  refine ⟨d, ?_, hB⟩
  unfold whS
  simp only [List.length_cons, List.length_nil, List.length_append, List.append_assoc, List.cons_append, List.nil_append, Nat.reduceAdd]
  rw [e]
  simp [bTuple, seqOf]
theorem QOk.fp {n : Nat} {q : List Pipe} {m : Int} (h : QOk n q m) : FP n q := ⟨by have := h.l; omega, by have := h.n5; omega, h.wf, fun p hp => by have := h.ok p hp; have := this.g1; have := (h.ok p hp).e1; omega⟩
theorem cmp_tI (xs : List Int) : cmpOk (.tup (dI xs)) = true := by
  have := cmp_dI xs
  simp only [cmpOk, Bool.and_eq_true, decide_eq_true_eq] at this ⊢
  exact this
theorem eqBs_dI : ∀ (xs ys : List Int), D.eqBs (dI xs) (dI ys) = decide (xs = ys)
  | [], [] => rfl
  | [], _ :: _ => rfl
  | _ :: _, [] => rfl
  | x :: xs, y :: ys => by
    show ((x == y) && D.eqBs (dI xs) (dI ys)) = _
    rw [eqBs_dI xs ys]
    by_cases h : x = y
    · subst h; simp
    · simp [h]
@[simp] theorem o_eqTI (xs ys : List Int) (S : List D) : oEq (.tup (dI xs)) (.tup (dI ys)) S = .ok (.bl (decide (xs = ys))) S := by
  rw [o_eq (x := .tup (dI xs)) (y := .tup (dI ys)) (cmp_tI xs) (cmp_tI ys)]
  simp only [seen]
  rw [show D.eqB (.tup (dI xs)) (.tup (dI ys)) = D.eqBs (dI xs) (dI ys) from rfl, eqBs_dI]
@[simp] theorem o_neTI (xs ys : List Int) (S : List D) : oNe (.tup (dI xs)) (.tup (dI ys)) S = .ok (.bl (!decide (xs = ys))) S := by
  rw [o_ne (x := .tup (dI xs)) (y := .tup (dI ys)) (cmp_tI xs) (cmp_tI ys)]
  simp only [seen]
  rw [show D.eqB (.tup (dI xs)) (.tup (dI ys)) = D.eqBs (dI xs) (dI ys) from rfl, eqBs_dI]
@[simp] theorem o_neLI (xs ys : List Int) (S : List D) : oNe (.lst (dI xs)) (.lst (dI ys)) S = .ok (.bl (!decide (xs = ys))) S := by
  rw [o_ne (x := .lst (dI xs)) (y := .lst (dI ys)) (cmp_dI xs) (cmp_dI ys)]
  simp only [seen]
  rw [show D.eqB (.lst (dI xs)) (.lst (dI ys)) = D.eqBs (dI xs) (dI ys) from rfl, eqBs_dI]
structure COk (n : Nat) (cs : List Int) : Prop where
  l : cs.length = n
  b : ∀ k, k < n → 0 ≤ ik cs k ∧ ik cs k ≤ 200
theorem COk.sum {n : Nat} {cs : List Int} (h : COk n cs) : 0 ≤ cs.sum ∧ cs.sum ≤ 200 * n := by
  obtain ⟨l, b⟩ := h
  induction cs generalizing n with
  | nil => simp; omega
  | cons c cs ih =>
    cases n with
    | zero => simp at l
    | succ n =>
      have h0 := b 0 (by omega)
      have := ih (n := n) (by simpa using l) fun k hk => b (k + 1) (by omega)
      have e : ik (c :: cs) 0 = c := rfl
      rw [e] at h0
      rw [List.sum_cons]
      omega
theorem checkcounts_ok {n : Nat} {ps : List Pipe} {cs : List Int} (h : COk n cs) : F_p_check_counts [encF n ps, .tup (dI cs)] [] = .ok .non [] := by
  unfold F_p_check_counts S_p_check_counts
  rw [fn_ev 2 4 _ rfl]
  have hl : ((dI cs).length : Int) = n := by simp [dI, h.l]
  simp [isrow_eq, hl]
  obtain ⟨E', S', e, x, y, rfl, rfl⟩ := for_enum cs D.int (t := Tg.tp [Tg.nm 2, Tg.nm 3]) (b := B1_p_check_counts) (E := [some (encF n ps), some (.tup (dI cs)), none, none]) (S := [])
    (fun i E S => ∃ x y, E = [some (encF n ps), some (.tup (dI cs)), x, y] ∧ S = []) ⟨none, none, rfl, rfl⟩ (by
      rintro i E S hi ⟨x, y, rfl, rfl⟩
      refine turn_nx (E2 := [some (encF n ps), some (.tup (dI cs)), some (.int (i : Nat)), some (.int cs[i])]) (S2 := []) rfl ?_ rfl ⟨_, _, rfl, rfl⟩
      unfold B1_p_check_counts
      have hb := h.b i (by have := h.l; omega)
      have e : ik cs i = cs[i] := by simp [ik, hi]
      rw [e] at hb
      simp [isnum_eq, hb.1, hb.2])
  change forS (Src.its (dI cs)).enum _ _ _ _ = _ at e
  simp [e]
theorem ix_tI {xs : List Int} {t : Int} (h0 : 0 ≤ t) (h : t.toNat < xs.length) (S : List D) : oIx (.tup (dI xs)) (.int t) S = .ok (.int (ik xs t.toNat)) S := by
  simp [at_int h0, at_dI h]
@[simp] theorem b_sumT (xs : List Int) (S : List D) : bSum [.tup (dI xs)] S = .ok (.int xs.sum) S := by
  simp only [bSum, seqOf, intsOf_dI]
theorem sum_rep (n : Nat) : (List.replicate n (0 : Int)).sum = 0 := by
  induction n with
  | zero => rfl
  | succ n ih => rw [List.replicate_succ, List.sum_cons]; omega
theorem ik_map {n k : Nat} (f : Nat → Int) (h : k < n) : ik ((List.range n).map f) k = f k := by simp [ik, h]
theorem short_false {ps : List Pipe} {held : List Int} {b : Int} : (shortT ps held b).isEmpty = canT ps held b := rfl
def subL (n : Nat) (x y : List Int) : List Int := (List.range n).map fun k => ik x k - ik y k
def addL (n : Nat) (x y : List Int) : List Int := (List.range n).map fun k => ik x k + ik y k
theorem subL_len (n : Nat) (x y : List Int) : (subL n x y).length = n := by simp [subL]
theorem addL_len (n : Nat) (x y : List Int) : (addL n x y).length = n := by simp [addL]
theorem subL_at {n k : Nat} {x y : List Int} (h : k < n) : ik (subL n x y) k = ik x k - ik y k := ik_map _ h
theorem addL_at {n k : Nat} {x y : List Int} (h : k < n) : ik (addL n x y) k = ik x k + ik y k := ik_map _ h
theorem stT_snoc (ps : List Pipe) (held word : List Int) (b : Int) : stT ps held (word ++ [b]) (word ++ [b]).length = nextT ps (stT ps held word word.length) b := by
  unfold stT
  rw [List.take_of_length_le (Nat.le_refl _), List.take_of_length_le (Nat.le_refl _), List.foldl_append]
  rfl
theorem stT_pre (ps : List Pipe) (held word : List Int) (b : Int) {j : Nat} (hj : j ≤ word.length) : stT ps held (word ++ [b]) j = stT ps held word j := by
  unfold stT
  rw [List.take_append_of_le_length hj]
structure WD (n : Nat) (ps : List Pipe) (c word : List Int) : Prop where
  rch : Rch n ps c
  end_ : stT ps (marksT ps) word word.length = leftT ps c
  len : (word.length : Int) = c.sum
  b0 : ∀ b ∈ word, 0 ≤ b ∧ b < n
  can : ∀ i (h : i < word.length), canT ps (stT ps (marksT ps) word i) word[i] = true
  cn : ∀ k : Nat, k < n → ik c k = (word.count (k : Int) : Nat)
theorem WD.step {n : Nat} {ps : List Pipe} (hw : ∀ p ∈ ps, PWf n p) {c word : List Int} (h : WD n ps c word) {b : Nat} (hb : b < n) (hc : canT ps (leftT ps c) b = true) : WD n ps (c.set b (ik c b + 1)) (word ++ [(b : Int)]) := by
  have hl := h.rch.len
  refine ⟨h.rch.step hb hc, ?_, ?_, ?_, ?_, fun k hk => ?_⟩
  rotate_left 4
  · rw [ik_set (by omega), List.count_append]
    by_cases e : k = b
    · subst e
      rw [if_pos rfl, h.cn k hk]
      simp
    · rw [if_neg e, h.cn k hk, List.count_singleton]
      have : ((b : Int) == (k : Int)) = false := by simp; omega
      rw [this]
      simp
  · rw [stT_snoc, h.end_, left_step hw hl hb]
  · rw [sum_set (by omega)]
    have := h.len
    simp
    omega
  · intro x hx
    rcases List.mem_append.mp hx with hx | hx
    · exact h.b0 x hx
    · rw [List.mem_singleton.mp hx]; omega
  · intro i hi
    rcases Nat.lt_or_ge i word.length with q | q
    · rw [stT_pre _ _ _ _ (by omega), List.getElem_append_left q]
      exact h.can i q
    · have : i = word.length := by simp at hi; omega
      subst this
      rw [stT_pre _ _ _ _ (Nat.le_refl _), h.end_]
      simpa using hc
theorem min_dN {ks : List Nat} (h : ks ≠ []) (S : List D) : ∃ k, k ∈ ks ∧ bMin1 [.lst (dN ks)] S = .ok (.int (k : Nat)) S := by
  cases ks with
  | nil => exact absurd rfl h
  | cons x xs =>
    have hm := foldMin_mem (up xs) (x : Int)
    have e : bMin1 [.lst (dN (x :: xs))] S = .ok (.int ((up xs).foldl (fun a y => if y < a then y else a) (x : Int))) S := by
      rw [dN_up]
      unfold bMin1
      simp only [seqOf, intsOf_dI]
      rfl
    have hm2 : (up xs).foldl (fun a y => if y < a then y else a) (x : Int) ∈ up (x :: xs) := hm
    generalize (up xs).foldl (fun a y => if y < a then y else a) (x : Int) = v at *
    obtain ⟨k, hk, rfl⟩ := List.mem_map.mp hm2
    exact ⟨k, hk, e⟩
theorem any_dI : ∀ (xs : List Int), scals (dI xs) = some (xs.map fun x => x != 0)
  | [] => rfl
  | x :: xs => by
    show ((scal (.int x)).bind fun b => (scals (dI xs)).map (b :: ·)) = _
    rw [any_dI xs]
    rfl
theorem b_any {n : Nat} {S : List D} {xs : List Int} (h : S[n]? = some (.lst (dI xs))) : bAny [.loc n] S = .ok (.bl ((xs.map fun x => x != 0).any id)) S := by
  unfold bAny
  simp only [lstOf, h, any_dI]
theorem live_enum {n : Nat} {S : List D} {xs : List Int} (h : S[n]? = some (.lst (dI xs))) : (Src.enum (.live n (dI xs).length)).Is S ((List.range xs.length).map fun k : Nat => D.tup [.int (k : Int), .int (ik xs k)]) := by
  have e : ((dI xs).mapIdx fun i d => D.tup [.int (i : Nat), d]) = (List.range xs.length).map fun k : Nat => D.tup [.int (k : Int), .int (ik xs k)] := by
    apply List.ext_getElem
    · simp [dI]
    · intro i h1 h2
      simp [dI] at h1
      simp [dI, ik, h1]
  rw [← e]
  exact is_enum (is_live h)
def waitsT (ps : List Pipe) (cs d : List Int) : List Nat := (List.range ps.length).filter fun k => decide (ik d (pk ps k).t.toNat < ik cs (pk ps k).t.toNat) && decide (ik (leftT ps d) k < (pk ps k).e)
theorem left_with {n : Nat} {ps : List Pipe} (hw : ∀ p ∈ ps, PWf n p) {d c : List Int} : leftT (withT ps (leftT ps d)) c = leftT ps (addL n d c) := by
  have hl := left_len ps d
  refine ik_ext (n := ps.length) (by rw [left_len, withT_len hl]) (left_len _ _) fun k hk => ?_
  have w := hw _ (pk_mem hk)
  have h1 := w.s0; have h2 := w.s1; have h3 := w.t0; have h4 := w.t1
  rw [left_at (by rw [withT_len hl]; exact hk), left_at hk, addL_at (by omega), addL_at (by omega)]
  have hpk : pk (withT ps (leftT ps d)) k = ⟨(pk ps k).s, (pk ps k).t, (pk ps k).g, (pk ps k).e, ik (leftT ps d) k⟩ := by
    simp [pk, withT, ik, hk, hl]
  rw [hpk]
  simp only
  rw [left_at hk, Int.mul_add, Int.mul_add]
  omega
theorem Rch.shift {n : Nat} {ps : List Pipe} (hw : ∀ p ∈ ps, PWf n p) {d c : List Int} (hd : Rch n ps d) (hc : Rch n (withT ps (leftT ps d)) c) : Rch n ps (addL n d c) := by
  induction hc with
  | zero =>
    rw [show addL n d (List.replicate n 0) = d from ik_ext (n := n) (addL_len _ _ _) hd.len fun k hk => by rw [addL_at hk, ik_rep]; omega]
    exact hd
  | @step c b h1 hb hcan ih =>
    rw [left_with hw, can_with (left_len ps d)] at hcan
    have := ih.step hb hcan
    have e : addL n d (c.set b (ik c b + 1)) = (addL n d c).set b (ik (addL n d c) b + 1) := by
      refine ik_ext (n := n) (addL_len _ _ _) (by simp [addL_len]) fun k hk => ?_
      rw [ik_set (by rw [addL_len]; exact hb), addL_at hk, ik_set (by rw [h1.len]; exact hb), addL_at hb, addL_at hk]
      split
      · rename_i q; subst q; omega
      · rfl
    rw [e]
    exact this
theorem Best.shift {n : Nat} {ps : List Pipe} (hw : ∀ p ∈ ps, PWf n p) {d c both left : List Int} (hd : Rch n ps d) (B : Best n (withT ps (leftT ps d)) left c) (hl : ∀ k, k < n → ik left k = ik both k - ik d k) : Best n ps both (addL n d c) := by
  refine ⟨hd.shift hw B.rch, fun k hk => ?_, fun k hk hlt => ?_⟩
  · rw [addL_at hk]
    have := B.le k hk
    rw [hl k hk] at this
    omega
  · rw [addL_at hk] at hlt
    have := B.stuck k hk (by rw [hl k hk]; omega)
    rw [left_with hw, can_with (left_len ps d)] at this
    exact this
mutual
def agB : D → Bool
  | .tup ds => decide (ds.length < 1000000) && agBs ds
  | .lst ds => decide (ds.length < 1000000) && agBs ds
  | .int _ => true
  | .bl _ => true
  | .non => true
  | _ => false
def agBs : List D → Bool
  | [] => true
  | d :: ds => agB d && agBs ds
end
mutual
theorem agB_flat : ∀ d : D, agB d = true → d.flat = true
  | .tup ds, h => by
    simp only [agB, Bool.and_eq_true] at h
    show D.flats ds = true
    exact agBs_flat ds h.2
  | .lst ds, h => by
    simp only [agB, Bool.and_eq_true] at h
    show D.flats ds = true
    exact agBs_flat ds h.2
  | .int _, _ => rfl
  | .bl _, _ => rfl
  | .non, _ => rfl
  | .str _, h => by simp [agB] at h
  | .ty _, h => by simp [agB] at h
  | .rdl _, h => by simp [agB] at h
  | .dct _ _, h => by simp [agB] at h
  | .loc _, h => by simp [agB] at h
theorem agBs_flat : ∀ ds : List D, agBs ds = true → D.flats ds = true
  | [], _ => rfl
  | d :: ds, h => by
    simp only [agBs, Bool.and_eq_true] at h
    show (d.flat && D.flats ds) = true
    rw [agB_flat d h.1, agBs_flat ds h.2]
    rfl
end
theorem o_eqBB (a b : Bool) (S : List D) : oEq (.bl a) (.bl b) S = .ok (.bl (a == b)) S := by
  rw [o_eq (x := .bl a) (y := .bl b) rfl rfl]
  rfl
theorem o_eq00 (S : List D) : oEq (.lst []) (.lst []) S = .ok (.bl true) S := rfl
inductive Rt (L : List (Nat × Nat)) : Nat → Nat → Prop where
  | refl (a : Nat) : Rt L a a
  | step {a b c : Nat} : Rt L a b → (b, c) ∈ L → Rt L a c
theorem Rt.trans {L : List (Nat × Nat)} {a b c : Nat} (h : Rt L a b) (h2 : Rt L b c) : Rt L a c := by
  induction h2 with
  | refl => exact h
  | step _ e ih => exact .step ih e
theorem Rt.lt {L : List (Nat × Nat)} {n : Nat} (hL : ∀ x ∈ L, x.1 < n ∧ x.2 < n) {a b : Nat} (h : Rt L a b) (ha : a < n) : b < n := by
  induction h with
  | refl => exact ha
  | step _ e _ => exact (hL _ e).2
noncomputable def rtB (L : List (Nat × Nat)) (a b : Nat) : Bool := @decide (Rt L a b) (Classical.propDecidable _)
def kN' (k : Nat) : Ky := .inl (k : Int)
def encK (ks : List Nat) : D := .dct (ks.map kN') (ks.map fun _ => .bl true)
def unm (n : Nat) (ks : List Nat) : Nat := ((List.range n).filter fun k => !decide (k ∈ ks)).length
theorem unm_lt {n : Nat} {ks : List Nat} {k : Nat} (hk : k < n) (h : k ∉ ks) : unm n (ks ++ [k]) < unm n ks := by
  unfold unm
  have e : ((List.range n).filter fun j => !decide (j ∈ ks ++ [k])) = ((List.range n).filter fun j => !decide (j ∈ ks)).filter fun j => !decide (j = k) := by
    rw [List.filter_filter]
    congr 1
    funext j
    simp only [List.mem_append, List.mem_singleton]
    by_cases h1 : j ∈ ks <;> by_cases h2 : j = k <;> simp [h1, h2]
  rw [e, List.length_filter_lt_length_iff_exists]
  exact ⟨k, List.mem_filter.mpr ⟨List.mem_range.mpr hk, by simp [h]⟩, by simp⟩
structure RI (n : Nat) (L : List (Nat × Nat)) (box : Nat) (ks wt : List Nat) : Prop where
  b : box ∈ ks
  r : ∀ k ∈ ks, Rt L box k
  w : ∀ k ∈ wt, k ∈ ks
  c : ∀ k ∈ ks, k ∉ wt → ∀ c, (k, c) ∈ L → c ∈ ks
  l : ks.length + unm n ks ≤ n + 1
abbrev LD (L : List (Nat × Nat)) : D := .lst (L.map encPr)
def cls (n : Nat) (e : Nat → Nat → Bool) (k : Nat) : List Nat := (List.range n).filter (e k)
def isMin (n : Nat) (e : Nat → Nat → Bool) (k : Nat) : Bool := decide ((cls n e k).head? = some k)
def grD (n : Nat) (e : Nat → Nat → Bool) (i : Nat) : List D := ((List.range i).filter (isMin n e)).map fun k => D.tup (dN (cls n e k))
noncomputable def bothB (L : List (Nat × Nat)) (a b : Nat) : Bool := rtB L a b && rtB L b a
def LB (ps : List Pipe) (both : Bool) : List (Nat × Nat) := (ps.map fun p => (p.s.toNat, p.t.toNat)) ++ (if both = true then ps.map fun p => (p.t.toNat, p.s.toNat) else [])
structure PB (n : Nat) (ps : List Pipe) : Prop where
  l : ps.length ≤ 16
  n8 : n ≤ 8
  b : ∀ p ∈ ps, 0 ≤ p.s ∧ p.s < n ∧ 0 ≤ p.t ∧ p.t < n
def Can (n : Nat) (part : List Nat) : Prop := part = (List.range n).filter fun k => decide (k ∈ part)
structure Eqv (n : Nat) (e : Nat → Nat → Bool) : Prop where
  r : ∀ a, e a a = true
  s : ∀ a b, e a b = true → e b a = true
  t : ∀ a b c, e a b = true → e b c = true → e a c = true
def BK (ps : List Pipe) : List (Nat × Nat) := ps.map fun p => (p.t.toNat, p.s.toNat)
structure Bal (n : Nat) (ps : List Pipe) (b : List Int) : Prop where
  l : b.length = n
  pos : ∀ k, k < n → 1 ≤ ik b k
  eq : ∀ j, j < ps.length → (pk ps j).g * ik b (pk ps j).s.toNat = (pk ps j).e * ik b (pk ps j).t.toNat
def mulL (n : Nat) (m : Int) (b : List Int) : List Int := (List.range n).map fun k => m * ik b k
theorem mulL_len (n : Nat) (m : Int) (b : List Int) : (mulL n m b).length = n := by simp [mulL]
theorem mulL_at {n k : Nat} {m : Int} {b : List Int} (h : k < n) : ik (mulL n m b) k = m * ik b k := ik_map _ h
theorem marks_at {ps : List Pipe} {k : Nat} (h : k < ps.length) : ik (marksT ps) k = (pk ps k).m := by simp [ik, marksT, pk, h]
theorem Bal.left {n : Nat} {ps : List Pipe} (hw : ∀ p ∈ ps, PWf n p) {b : List Int} (h : Bal n ps b) (m : Int) : leftT ps (mulL n m b) = marksT ps := by
  refine ik_ext (n := ps.length) (left_len _ _) (marks_len _) fun k hk => ?_
  have w := hw _ (pk_mem hk)
  have h1 := w.s0; have h2 := w.s1; have h3 := w.t0; have h4 := w.t1
  rw [left_at hk, marks_at hk, mulL_at (by omega), mulL_at (by omega)]
  have := h.eq k hk
  have e1 : (pk ps k).g * (m * ik b (pk ps k).s.toNat) = m * ((pk ps k).g * ik b (pk ps k).s.toNat) := by rw [← Int.mul_assoc, Int.mul_comm (pk ps k).g m, Int.mul_assoc]
  have e2 : (pk ps k).e * (m * ik b (pk ps k).t.toNat) = m * ((pk ps k).e * ik b (pk ps k).t.toNat) := by rw [← Int.mul_assoc, Int.mul_comm (pk ps k).e m, Int.mul_assoc]
  rw [e1, e2, this]
  omega
theorem with_marks (ps : List Pipe) : withT ps (marksT ps) = ps := by
  unfold withT marksT
  induction ps with
  | nil => rfl
  | cons p ps ih => rw [List.map_cons, List.zipWith_cons_cons, ih]
theorem Bal.rounds {n : Nat} {ps : List Pipe} (hw : ∀ p ∈ ps, PWf n p) {b : List Int} (h : Bal n ps b) (hr : Rch n ps b) : ∀ m : Nat, Rch n ps (mulL n (m : Int) b) := by
  intro m
  induction m with
  | zero =>
    have e : mulL n ((0 : Nat) : Int) b = List.replicate n 0 := by
      refine ik_ext (n := n) (mulL_len _ _ _) (by simp) fun k hk => ?_
      rw [mulL_at hk, ik_rep]
      show (0 : Int) * _ = 0
      rw [Int.zero_mul]
    rw [e]
    exact Rch.zero
  | succ m ih =>
    have h1 : Rch n (withT ps (leftT ps (mulL n (m : Int) b))) b := by
      rw [h.left hw, with_marks]
      exact hr
    have h2 := ih.shift hw h1
    have e : addL n (mulL n (m : Int) b) b = mulL n ((m + 1 : Nat) : Int) b := by
      refine ik_ext (n := n) (addL_len _ _ _) (mulL_len _ _ _) fun k hk => ?_
      rw [addL_at hk, mulL_at hk, mulL_at hk]
      have : ((m + 1 : Nat) : Int) = (m : Int) + 1 := by omega
      rw [this, Int.add_mul, Int.one_mul]
    rw [← e]
    exact h2
theorem Best.ring {n : Nat} {ps : List Pipe} (hw : ∀ p ∈ ps, PWf n p) {x d : List Int} (B : Best n ps x d) (hl : ∀ j, j < ps.length → 0 ≤ ik (leftT ps x) j) {c : List Int} (h : Rch n ps c) : ∀ k, k < n → ik d k < ik x k → ik c k ≤ ik d k := by
  induction h with
  | zero => intro k _ _; rw [ik_rep]; exact B.rch.nn k
  | @step c b h1 hb hcan ih =>
    intro k hk hlt
    have hlen := h1.len
    rw [ik_set (by omega)]
    split
    · rename_i e
      subst e
      have hle := ih k hk hlt
      apply Classical.byContradiction
      intro hgt
      have hck : ik c k = ik d k := by omega
      have st := B.stuck k hk hlt
      rw [← Bool.not_eq_true, can_iff] at st
      apply st
      intro j hj ht
      have w := hw _ (pk_mem hj)
      have w1 := w.s0; have w2 := w.s1; have w3 := w.g0; have w4 := w.e0
      have h3 := can_iff.mp hcan j hj ht
      have h4 := hl j hj
      rw [left_at hj] at h3 h4 ⊢
      have e1 : (pk ps j).t.toNat = k := by omega
      rw [e1] at h3 h4 ⊢
      by_cases hs : ik d (pk ps j).s.toNat < ik x (pk ps j).s.toNat
      · have h5 := ih (pk ps j).s.toNat (by omega) hs
        have h6 : (pk ps j).g * ik c (pk ps j).s.toNat ≤ (pk ps j).g * ik d (pk ps j).s.toNat := Int.mul_le_mul_of_nonneg_left h5 (by omega)
        rw [← hck]
        omega
      · have h5 : ik d (pk ps j).s.toNat = ik x (pk ps j).s.toNat := by
          have := B.le (pk ps j).s.toNat (by omega)
          omega
        have h6 : (pk ps j).e * (ik d k + 1) ≤ (pk ps j).e * ik x k := Int.mul_le_mul_of_nonneg_left (by omega) (by omega)
        rw [Int.mul_add, Int.mul_one] at h6
        rw [h5]
        omega
    · exact ih k hk hlt
theorem live_do {n : Nat} {ps : List Pipe} (hw : ∀ p ∈ ps, PWf n p) {b : List Int} (h : Bal n ps b) (hr : Rch n ps b) {x d : List Int} (hx : x.length = n) (hl : ∀ j, j < ps.length → 0 ≤ ik (leftT ps x) j) (B : Best n ps x d) : d = x := by
  refine ik_ext B.rch.len hx fun k hk => ?_
  have hle := B.le k hk
  apply Classical.byContradiction
  intro hne
  have hm := h.rounds hw hr (ik x k).toNat
  have h1 := B.ring hw hl hm k hk (by omega)
  rw [mulL_at hk] at h1
  have h2 := h.pos k hk
  have h0 := B.rch.nn k
  have h3 : ((ik x k).toNat : Int) * 1 ≤ ((ik x k).toNat : Int) * ik b k := Int.mul_le_mul_of_nonneg_left h2 (by omega)
  omega
theorem Bal.same {n : Nat} {ps : List Pipe} (hw : ∀ p ∈ ps, PWf n p) (hm : ∀ p ∈ ps, 0 ≤ p.m) {b c : List Int} (hb : Bal n ps b) (hc : Bal n ps c) {d e : List Int} (Bb : Best n ps b d) (Bc : Best n ps c e) : d = b ↔ e = c := by
  have key : ∀ {b c d e : List Int}, Bal n ps b → Bal n ps c → Best n ps b d → Best n ps c e → d = b → e = c := fun {b c d e} hb hc Bb Bc q => by
    subst q
    refine live_do hw hb Bb.rch hc.l (fun j hj => ?_) Bc
    have e1 : mulL n 1 c = c := ik_ext (mulL_len _ _ _) hc.l fun k hk => by rw [mulL_at hk, Int.one_mul]
    have := hc.left hw 1
    rw [e1] at this
    rw [this, marks_at hj]
    exact hm _ (pk_mem hj)
  exact ⟨key hb hc Bb Bc, key hc hb Bc Bb⟩
structure BQ (n : Nat) (c : Nat → Nat) (p : Pipe) : Prop where
  ok : POk n 8 40000 p
  b : (c p.s.toNat : Int) * p.g = (c p.t.toNat : Int) * p.e
def encS (x : Nat × Bool) : D := .tup [.int (x.1 : Nat), .bl x.2]
def srcN (ps : List Pipe) (x : Nat × Bool) : Nat := if x.2 = true then (pk ps x.1).s.toNat else (pk ps x.1).t.toNat
def dstN (ps : List Pipe) (x : Nat × Bool) : Nat := if x.2 = true then (pk ps x.1).t.toNat else (pk ps x.1).s.toNat
def PathOk (ps : List Pipe) (nd : Nat → Nat) (xs : List (Nat × Bool)) : Prop := ∀ i (h : i < xs.length), xs[i].1 < ps.length ∧ srcN ps xs[i] = nd i ∧ dstN ps xs[i] = nd (i + 1)
def flipS (x : Nat × Bool) : Nat × Bool := (x.1, !x.2)
theorem boxes_range {n : Nat} {ps : List Pipe} (hw : ∀ p ∈ ps, PWf n p) {x : Nat × Bool} (h : x.1 < ps.length) : srcN ps x < n ∧ dstN ps x < n := by
  have w := hw _ (pk_mem h)
  have := w.s0; have := w.t0; have := w.s1; have := w.t1
  unfold srcN dstN
  split <;> omega
def fromT (ps : List Pipe) (b : Nat) : List (Nat × Bool) := ((List.range ps.length).filter fun k => decide ((pk ps k).s = (b : Int))).map (fun k => (k, true)) ++ ((List.range ps.length).filter fun k => decide ((pk ps k).t = (b : Int))).map (fun k => (k, false))
structure SI (n : Nat) (ps : List Pipe) (root : Nat) (ks : List Nat) (st : List (Nat × Bool)) : Prop where
  k : ks = root :: st.map (dstN ps)
  s : ∀ x ∈ st, x.1 < ps.length
  o : ∀ i (h : i < st.length), srcN ps st[i] ∈ root :: (st.take i).map (dstN ps)
  nd : ks.Nodup
  l : ks.length + unm n ks ≤ n + 1
theorem SI.add {n : Nat} {ps : List Pipe} (hw : ∀ p ∈ ps, PWf n p) {root : Nat} {ks : List Nat} {st : List (Nat × Bool)} (h : SI n ps root ks st) {x : Nat × Bool} (hx : x.1 < ps.length) (hs : srcN ps x ∈ ks) (hd : dstN ps x ∉ ks) : SI n ps root (ks ++ [dstN ps x]) (st ++ [x]) := by
  have hlt := unm_lt (boxes_range hw hx).2 hd
  refine ⟨by rw [h.k]; simp, fun y hy => ?_, fun i hi => ?_, ?_, by have := h.l; simp; omega⟩
  · rcases List.mem_append.mp hy with hy | hy
    · exact h.s y hy
    · rw [List.mem_singleton.mp hy]; exact hx
  · simp at hi
    by_cases e : i < st.length
    · rw [List.getElem_append_left e, List.take_append_of_le_length (by omega)]
      exact h.o i e
    · have e2 : i = st.length := by omega
      subst e2
      rw [List.getElem_append_right (by omega), List.take_append_of_le_length (by omega), List.take_length]
      simp only [Nat.sub_self, List.getElem_cons_zero]
      rw [← h.k]
      exact hs
  · rw [List.nodup_append]
    refine ⟨h.nd, by simp, fun a ha b hb e => ?_⟩
    rw [List.mem_singleton.mp hb] at e
    exact hd (by rw [← e]; exact ha)
abbrev Tr := Nat × Nat × List (Nat × Bool)
def encT (prs : List Tr) : D := .dct (prs.map fun p => kN' p.1) (prs.map fun p => .tup (p.2.2.map encS))
structure TrOk (ps : List Pipe) (p : Tr) : Prop where
  path : ∃ nd, PathOk ps nd p.2.2 ∧ nd 0 = p.2.1 ∧ nd p.2.2.length = p.1
  l : p.2.2.length ≤ 90
theorem getT : ∀ (prs : List Tr) (k : Nat), k ∈ prs.map (·.1) → ∃ p ∈ prs, p.1 = k ∧ getK (prs.map fun p => kN' p.1) (prs.map fun p => D.tup (p.2.2.map encS)) (.inl (k : Int)) = some (.tup (p.2.2.map encS))
  | [], k, h => by simp at h
  | p :: prs, k, h => by
    by_cases e : p.1 = k
    · refine ⟨p, List.mem_cons_self, e, ?_⟩
      show (if kN' p.1 = Sum.inl (k : Int) then some (D.tup (p.2.2.map encS)) else _) = _
      rw [if_pos (by rw [e]; rfl)]
    · have hk : k ∈ prs.map (·.1) := by
        rcases List.mem_cons.mp h with h | h
        · exact absurd h.symm e
        · exact h
      obtain ⟨q, h1, h2, h3⟩ := getT prs k hk
      refine ⟨q, List.mem_cons_of_mem _ h1, h2, ?_⟩
      show (if kN' p.1 = Sum.inl (k : Int) then some (D.tup (p.2.2.map encS)) else _) = _
      rw [if_neg (fun z => e (by have := Sum.inl.inj z; omega))]
      exact h3
abbrev LL (ps : List Pipe) : List (Nat × Nat) := LB ps true
noncomputable def rootL (n : Nat) (ps : List Pipe) : List Nat := (List.range n).filter (isMin n (bothB (LL ps)))
abbrev Sr := Nat × Nat × Nat
def keyS (s : Sr) : Ky := kN' s.1
def valS (s : Sr) : D := .tup [.int (s.2.1 : Nat), .int (s.2.2 : Nat)]
structure SrOk (n : Nat) (ps : List Pipe) (c : Nat → Nat) (s : Sr) : Prop where
  k : s.1 < n
  p : 0 < s.2.1
  q : 0 < s.2.2
  cop : Nat.Coprime s.2.1 s.2.2
  r : ∃ r ∈ rootL n ps, Rt (LL ps) r s.1 ∧ s.2.1 * c r = s.2.2 * c s.1
noncomputable def rtF (n : Nat) (ps : List Pipe) (b : Nat) : Nat := ((cls n (bothB (LL ps)) b).head?).getD 0
structure Sx (n : Nat) (c r : Nat → Nat) (x : Nat × Nat × Nat) : Prop where
  k : x.1 < n
  p0 : 1 ≤ x.2.1
  q0 : 1 ≤ x.2.2
  cop : Nat.Coprime x.2.1 x.2.2
  e : x.2.1 * c (r x.1) = x.2.2 * c x.1
theorem Sx.pd {n : Nat} {c r : Nat → Nat} {x : Nat × Nat × Nat} (h : Sx n c r x) : x.2.1 ∣ c x.1 := h.cop.dvd_of_dvd_mul_left ⟨c (r x.1), h.e.symm⟩
theorem Sx.qd {n : Nat} {c r : Nat → Nat} {x : Nat × Nat × Nat} (h : Sx n c r x) : x.2.2 ∣ c (r x.1) := h.cop.symm.dvd_of_dvd_mul_left ⟨c x.1, h.e⟩
theorem Sx.sh {n : Nat} {c r : Nat → Nat} (hc : ∀ k, 1 ≤ c k ∧ c k ≤ 4) {x : Nat × Nat × Nat} (h : Sx n c r x) : Sh n c x :=
  ⟨h.k, h.p0, Nat.le_trans (Nat.le_of_dvd (by have := (hc x.1).1; omega) h.pd) (hc _).2, h.q0, Nat.le_trans (Nat.le_of_dvd (by have := (hc (r x.1)).1; omega) h.qd) (hc _).2, c (r x.1), (hc _).1, (hc _).2, h.e⟩
structure Gx (n : Nat) (c r : Nat → Nat) (sh sh' : ShL) (m : Nat) : Prop where
  ok : ∀ x ∈ sh', Sx n c r x
  keep : ∀ k, hasK sh k → hasK sh' k
  len : sh'.length ≤ sh.length + m
def Even (sh : ShL) (p : Pipe) : Prop := hasK sh p.s.toNat ↔ hasK sh p.t.toNat
def keysN (n : Nat) (sh : ShL) : List Nat := (List.range n).filter fun k => decide (hasK sh k)
def lcmF (sh : ShL) (part : List Nat) : Nat := part.foldl (fun b k => Nat.lcm b (shv sh k).2) 1
def gcdF (sh : ShL) (part : List Nat) (below : Nat) : Nat := part.foldl (fun g k => Nat.gcd g (below * (shv sh k).1 / (shv sh k).2)) 0
noncomputable def partN (n : Nat) (ps : List Pipe) (k : Nat) : List Nat := cls n (bothB (LL ps)) k
noncomputable def lowX (n : Nat) (ps : List Pipe) (sh : ShL) (k : Nat) : Nat := lcmF sh (partN n ps k)
noncomputable def comX (n : Nat) (ps : List Pipe) (sh : ShL) (k : Nat) : Nat := gcdF sh (partN n ps k) (lowX n ps sh k)
noncomputable def valX (n : Nat) (ps : List Pipe) (sh : ShL) (k : Nat) : Nat := lowX n ps sh k * (shv sh k).1 / (shv sh k).2 / comX n ps sh k
def encSr (shs : List Sr) : D := .dct (shs.map keyS) (shs.map valS)
def encC (l : List (Nat × Nat)) : D := .dct (l.map fun s => kN' s.1) (l.map fun s => D.int (s.2 : Nat))
abbrev PQ := Nat → Nat × Nat
def lcmP (P : PQ) (part : List Nat) : Nat := part.foldl (fun b k => Nat.lcm b (P k).2) 1
noncomputable def repX (n : Nat) (ps : List Pipe) (P : PQ) (b : Nat) : Nat := (P b).1 * lcmP P (partN n ps b) / (P b).2
structure POk' (n : Nat) (ps : List Pipe) (c : Nat → Nat) (shs : List Sr) (P : PQ) : Prop where
  g : ∀ b, b < n → getK (shs.map keyS) (shs.map valS) (.inl (b : Int)) = some (.tup [.int ((P b).1 : Nat), .int ((P b).2 : Nat)])
  s : ∀ b, b < n → Sx n c (rtF n ps) (b, P b)
theorem POk'.ix {n : Nat} {ps : List Pipe} {c : Nat → Nat} {shs : List Sr} {P : PQ} (h : POk' n ps c shs P) {b : Nat} (hb : b < n) (S : List D) : oIx (encSr shs) (.int (b : Nat)) S = .ok (.tup [.int ((P b).1 : Nat), .int ((P b).2 : Nat)]) S := by
  show (match getK (shs.map keyS) (shs.map valS) (.inl (b : Int)) with
    | some d => R.ok d S
    | none => .bad) = _
  rw [h.g b hb]
def backP (ps : List Pipe) (room : List Int) (k : Nat) : Pipe := ⟨(pk ps k).t, (pk ps k).s, (pk ps k).e, (pk ps k).g, ik room k - (pk ps k).m⟩
def backT (ps : List Pipe) (room : List Int) : List Pipe := (List.range ps.length).map (backP ps room)
theorem backT_len (ps : List Pipe) (room : List Int) : (backT ps room).length = ps.length := by simp [backT]
def freeT (ps : List Pipe) (room held : List Int) : List Int := (List.range ps.length).map fun k => ik room k - ik held k
structure ROk (ps : List Pipe) (room : List Int) : Prop where
  l : room.length = ps.length
  b : ∀ k, k < ps.length → (pk ps k).m ≤ ik room k ∧ ik room k ≤ 99999
def BalP (c : Nat → Nat) (ps : List Pipe) : Prop := ∀ p ∈ ps, (c p.s.toNat : Int) * p.g = (c p.t.toNat : Int) * p.e
theorem BalP.with {c : Nat → Nat} : ∀ {ps : List Pipe} (xs : List Int), BalP c ps → BalP c (withT ps xs)
  | [], _, _ => fun p hp => by simp [withT] at hp
  | q :: ps, [], _ => fun p hp => by simp [withT] at hp
  | q :: ps, x :: xs, h => fun p hp => by
    have hp' : p ∈ _ :: withT ps xs := hp
    rcases List.mem_cons.mp hp' with e | e
    · rw [e]; exact h q List.mem_cons_self
    · exact BalP.with xs (fun p hp => h p (List.mem_cons_of_mem _ hp)) p e
theorem Bal.back {n : Nat} {ps : List Pipe} {b : List Int} (h : Bal n ps b) (room : List Int) : Bal n (ps ++ backT ps room) b := by
  refine ⟨h.l, h.pos, fun j hj => ?_⟩
  rw [List.length_append, backT_len] at hj
  rcases Nat.lt_or_ge j ps.length with q | q
  · have e : pk (ps ++ backT ps room) j = pk ps j := by simp [pk, List.getElem?_append_left q, List.getD_eq_getElem?_getD]
    rw [e]
    exact h.eq j q
  · have e : pk (ps ++ backT ps room) j = backP ps room (j - ps.length) := by
      have hk : j - ps.length < ps.length := by omega
      simp [pk, List.getD_eq_getElem?_getD, List.getElem?_append_right q, backT, hk]
    rw [e]
    show (pk ps (j - ps.length)).e * ik b (pk ps (j - ps.length)).t.toNat = (pk ps (j - ps.length)).g * ik b (pk ps (j - ps.length)).s.toNat
    exact (h.eq _ (by omega)).symm
instance : Inhabited Pipe := ⟨⟨0, 0, 0, 0, 0⟩⟩
instance (sh : ShL) (k : Nat) : Decidable (hasK sh k) := inferInstanceAs (Decidable (∃ x ∈ sh, x.1 = k))
def isLoop (ps : List Pipe) (k : Nat) (b : Int) : Prop := (pk ps k).s = b ∧ (pk ps k).t = b
instance (ps : List Pipe) (k : Nat) (b : Int) : Decidable (isLoop ps k b) := by unfold isLoop; infer_instance
def m3 (i j k : Int) : Int := if k > (if j > i then j else i) then k else (if j > i then j else i)
def ownV (ps : List Pipe) (held : List Int) (b : Int) (k : Nat) : Int := if isLoop ps k b then ik held k + (pk ps k).g else 0
def pkT (ps : List Pipe) (held word : List Int) : Nat → Nat → Int
  | 0, k => ik held k
  | i + 1, k => m3 (pkT ps held word i k) (ik (stT ps held word (i + 1)) k) (ownV ps (stT ps held word i) (ik word i) k)
structure Peak (ps : List Pipe) (held word : List Int) (L k : Nat) (M : Int) : Prop where
  up : ∀ j, j ≤ L → ik (stT ps held word j) k ≤ M
  own : ∀ j, j < L → isLoop ps k (ik word j) → ik (stT ps held word j) k + (pk ps k).g ≤ M
  at_ : (∃ j, j ≤ L ∧ M = ik (stT ps held word j) k) ∨ ∃ j, j < L ∧ isLoop ps k (ik word j) ∧ M = ik (stT ps held word j) k + (pk ps k).g
theorem Peak.uniq {ps : List Pipe} {held word : List Int} {L k : Nat} {M M' : Int} (h : Peak ps held word L k M) (h' : Peak ps held word L k M') : M = M' := by
  refine Int.le_antisymm ?_ ?_
  · rcases h.at_ with ⟨j, hj, e⟩ | ⟨j, hj, hl, e⟩
    · rw [e]; exact h'.up j hj
    · rw [e]; exact h'.own j hj hl
  · rcases h'.at_ with ⟨j, hj, e⟩ | ⟨j, hj, hl, e⟩
    · rw [e]; exact h.up j hj
    · rw [e]; exact h.own j hj hl
def roomT (ps : List Pipe) (held word : List Int) (i : Nat) : List Int := (List.range ps.length).map (pkT ps held word i)
def mxL : List Int → Int
  | [] => 0
  | x :: xs => xs.foldl (fun a y => if a < y then y else a) x
@[simp] theorem slP3 (p : Pipe) (S : List D) : oSl (encP p) none (some 3) S = .ok (.tup [.int p.s, .int p.t, .int p.g]) S := id rfl
def gainL (p : Pipe) (toks word : List Int) : List Int := ((List.zip toks word).filter fun x => decide (x.2 = p.s)).map fun x => x.1 + p.g
def ppT (p : Pipe) (toks word : List Int) : Int := if p.s = p.t then mxL (mxL toks :: gainL p toks word) else mxL toks
instance : Inhabited Pipe := ⟨⟨0, 0, 0, 0, 0⟩⟩
instance (sh : ShL) (k : Nat) : Decidable (hasK sh k) := inferInstanceAs (Decidable (∃ x ∈ sh, x.1 = k))
theorem md_ok {n : Nat} {ps : List Pipe} (h : FOk n ps) (F : FP n ps) {c : List Int} (hc : COk n c) : ∃ d, F_p_most_done [encF n ps, .tup (dI c)] [] = .ok (.tup (dI d)) [] ∧ Best n ps c d := by
  obtain ⟨d, e, B⟩ := mc_eq F hc.l (fun k hk => (hc.b k hk).1) (by have := hc.sum; have := F.n8; omega)
  refine ⟨d, ?_, B⟩
  unfold F_p_most_done S_p_most_done
  rw [fn_ev 2 2 _ rfl]
  simp [check_ok h, checkcounts_ok hc, e]
theorem lcounts_ok {n : Nat} {ps : List Pipe} {m : Nat} (hn : n ≤ 8) (hm : m ≤ 199) (r : Row) (hp : 0 ≤ r.pos) : ∃ (cs : List Int) (r' : Row), F_p_law_counts [.loc 0, encF n ps, .int m] [encRow r] = .ok (.tup (dI cs)) [encRow r'] ∧ COk n cs ∧ (∀ v ∈ cs, v ≤ m) ∧ 0 ≤ r'.pos := by
  unfold F_p_law_counts S_p_law_counts
  rw [fn_ev 3 4 _ rfl]
  simp [krng1n (show n < 1000000 by omega)]
  obtain ⟨acc, S', e, r', cs, rfl, rfl, h1, h2, h3⟩ := lc_inv (src := .rng 0 n) (own := [3]) (t := .nm 3) (c := J.tYes) (e := V1_p_law_counts) (E := [some (.loc 0), some (encF n ps), some (.int m), none]) (S := [encRow r]) ((List.range n).map fun i => .int (0 + (i : Nat)))
    (fun i acc S => ∃ r cs, S = [encRow r] ∧ acc = dI cs ∧ cs.length = i ∧ (∀ v ∈ cs, 0 ≤ v ∧ v ≤ m) ∧ 0 ≤ r.pos) (by simp [SL]; omega) ⟨r, [], rfl, rfl, rfl, by simp, hp⟩ (fun i acc S _ => is_rng 0 n S) (by
      rintro i d acc S ⟨r, cs, rfl, rfl, h1, h2, h3⟩ hd
      obtain ⟨v, r1, e1, b1, b2, q1⟩ := taken_ok r (m + 1) h3 (by omega) (by omega)
      refine ⟨_, rfl, .inr ⟨_, .int v, [encRow r1], rfl, ?_, rfl, r1, cs ++ [v], rfl, by simp [dI], by simp [h1], ?_, q1⟩⟩
      · unfold V1_p_law_counts
        simp [e1]
      · intro x hx
        rcases List.mem_append.mp hx with hx | hx
        · exact h2 x hx
        · rw [List.mem_singleton.mp hx]; omega)
  refine ⟨cs, r', ?_, ⟨by simpa using h1, fun k hk => ?_⟩, fun v hv => (h2 v hv).2, h3⟩
  · rw [e]
    simp
  · simp at h1
    have := ik_ok (lo := 0) (hi := m) h2 (k := k) (by omega)
    omega
def maxL (n : Nat) (x y : List Int) : List Int := (List.range n).map fun k => if ik y k > ik x k then ik y k else ik x k
def minL (n : Nat) (x y : List Int) : List Int := (List.range n).map fun k => if ik y k < ik x k then ik y k else ik x k
theorem Best.top {n : Nat} {ps : List Pipe} {L : List Int} (h : Rch n ps L) : Best n ps L L := ⟨h, fun _ _ => Int.le_refl _, fun k _ z => absurd z (Int.lt_irrefl _)⟩
theorem lwno_ok {n : Nat} {ps : List Pipe} (F : FP n ps) {cs d : List Int} (hc : COk n cs) (B : Best n ps cs d) (hne : d ≠ cs) : F_p_least_word [.tup (ps.map encP), .tup (dI cs)] [] = .ok .non [] := by
  have hs := hc.sum
  have hn := F.n8
  obtain ⟨d2, e2, B2⟩ := mc_eq F (cs := cs) hc.l (fun k hk => (hc.b k hk).1) (by omega)
  have := B2.uniq F.ok B
  subst this
  unfold F_p_least_word S_p_least_word
  rw [fn_ev 2 8 _ rfl]
  simp [e2, hne]
structure Two (g e m r : Int) (D : Int) : Prop where
  g1 : 1 ≤ g
  g8 : g ≤ 8
  e1 : 1 ≤ e
  e8 : e ≤ 8
  m0 : 0 ≤ m
  mr : m ≤ r
  d1 : 1 ≤ D
  dg : D ∣ g
  de : D ∣ e
def twoP (g e m r : Int) : List Pipe := [⟨0, 1, g, e, m⟩, ⟨1, 0, e, g, r - m⟩]
def lowT (g e m : Int) : Int := g + e - (Nat.gcd g.natAbs e.natAbs : Nat) + m % (Nat.gcd g.natAbs e.natAbs : Nat)
def ownT (p : Pipe) : Int := if p.s = p.t then p.m + p.g else if lowT p.g p.e p.m > p.m then lowT p.g p.e p.m else p.m
def selfP (g m r : Int) : List Pipe := [⟨0, 0, g, g, m⟩, ⟨0, 0, g, g, r - m⟩]
instance : Inhabited Pipe := ⟨⟨0, 0, 0, 0, 0⟩⟩
instance (sh : ShL) (k : Nat) : Decidable (hasK sh k) := inferInstanceAs (Decidable (∃ x ∈ sh, x.1 = k))
theorem lefton_eq {n : Nat} {ps : List Pipe} (F : FP n ps) {c : List Int} (hc : c.length = n) : F_p_left_on [.tup (ps.map encP), .tup (dI c)] [] = .ok (.tup (dI (leftT ps c))) [] := by
  unfold F_p_left_on S_p_left_on
  rw [fn_ev 2 7 _ rfl]
  simp
  rw [lc_true ps encP (fun p => D.int (p.m + p.g * ik c p.s.toNat - p.e * ik c p.t.toNat)) (smallL F.l) (is_its _ _) (fun p hp => ⟨_, rfl, rfl, by
    have w := F.ok p hp
    have hb := F.big p hp
    have i1 := fun S => ix_tI (xs := c) (t := p.s) w.s0 (by have := w.s0; have := w.s1; omega) S
    have i2 := fun S => ix_tI (xs := c) (t := p.t) w.t0 (by have := w.t0; have := w.t1; omega) S
    have m1 : ∀ (j : Int) S, oMul (.int p.g) (.int j) S = .ok (.int (p.g * j)) S := fun j S => o_mul (.inl (by have := w.g0; simp [smallI]; omega))
    have m2 : ∀ (j : Int) S, oMul (.int p.e) (.int j) S = .ok (.int (p.e * j)) S := fun j S => o_mul (.inl (by have := w.e0; simp [smallI]; omega))
    unfold V1_p_left_on
    simp only [ev_op, wipe_cons, wipe_nil, List.set_cons_succ, List.set_cons_zero, ev_var0, ev_varS, bind_ok, kop1, kop2, i1, i2, m1, m2, o_add, o_sub]⟩)]
  have : (List.map (fun p : Pipe => D.int (p.m + p.g * ik c p.s.toNat - p.e * ik c p.t.toNat)) ps) = dI (leftT ps c) := by simp [dI, leftT]
  rw [this]
  simp
theorem cando_eq {n : Nat} {ps : List Pipe} (h : FOk n ps) {c d : List Int} (e : F_p_most_done [encF n ps, .tup (dI c)] [] = .ok (.tup (dI d)) []) : F_p_can_do [encF n ps, .tup (dI c)] [] = .ok (.bl (decide (d = c))) [] := by
  unfold F_p_can_do S_p_can_do
  rw [fn_ev 2 2 _ rfl]
  simp [e]
abbrev oX := Option D
theorem wordno_ok {n : Nat} {ps : List Pipe} (h : FOk n ps) (F : FP n ps) {cs d : List Int} (hc : COk n cs) (B : Best n ps cs d) (hne : d ≠ cs) : F_p_word_for [encF n ps, .tup (dI cs)] [] = .ok .non [] := by
  unfold F_p_word_for S_p_word_for
  rw [fn_ev 2 2 _ rfl]
  have e := lwno_ok F hc B hne
  have hcall : ∀ S, callF F_p_least_word [.tup (ps.map encP), .tup (dI cs)] S = .ok .non S := fun S => by
    rw [call0 _ (by
      show (D.flats (ps.map encP) && (D.flats (dI cs) && true)) = true
      rw [flats_map _ (fun _ => rfl) ps]
      simp), e]
    rfl
  simp [-callT, check_ok h, checkcounts_ok hc, hcall]
def preT (n : Nat) (c word : List Int) (i : Nat) : List Int := (List.range n).map fun k => ik c k - ((word.take i).count (k : Int) : Nat)
def iS (c : List Int) : List Ky := c.map Sum.inl
theorem iS_inj {a b : List Int} (h : iS a = iS b) : a = b := by
  unfold iS at h
  exact List.map_inj_right (fun x y z => by injection z) |>.mp h
theorem keysOf_dI : ∀ c : List Int, keysOf (dI c) = some (iS c)
  | [] => rfl
  | x :: c => by
    show (match keyOf (.int x), keysOf (dI c) with | some k, some ks => some (k :: ks) | _, _ => none) = _
    rw [keysOf_dI c]
    rfl
theorem keyT_dI (c : List Int) : keyT (.tup (dI c)) = some (iS c) := keysOf_dI c
abbrev Tw := List (List Int × Int)
def encW (T : Tw) : D := .dcT (T.map fun p => iS p.1) (T.map fun p => D.int p.2)
@[simp] theorem encW_flat (T : Tw) : (encW T).flat = true := flats_map (fun p : List Int × Int => D.int p.2) (fun _ => rfl) T
def valO (T : Tw) (c : List Int) : Option Int := (T.find? fun p => decide (p.1 = c)).map (·.2)
theorem getT_enc (c : List Int) : ∀ T : Tw, J.getT (T.map fun p => iS p.1) (T.map fun p => D.int p.2) (iS c) = (valO T c).map D.int
  | [] => rfl
  | p :: T => by
    have ih := getT_enc c T
    show (if iS p.1 = iS c then some (D.int p.2) else J.getT (T.map fun p => iS p.1) (T.map fun p => D.int p.2) (iS c)) = _
    unfold valO
    by_cases h : p.1 = c
    · rw [if_pos (by rw [h])]
      simp [List.find?_cons, h]
    · rw [if_neg (fun z => h (iS_inj z)), ih]
      simp [List.find?_cons, h, valO]
def putW (T : Tw) (c : List Int) (v : Int) : Tw := if (T.any fun p => decide (p.1 = c)) = true then T.map (fun p => if p.1 = c then (p.1, v) else p) else T ++ [(c, v)]
theorem any_enc (c : List Int) : ∀ T : Tw, ((T.map fun p => iS p.1).any fun q => decide (q = iS c)) = T.any fun p => decide (p.1 = c)
  | [] => rfl
  | p :: T => by
    simp only [List.map_cons, List.any_cons]
    rw [any_enc c T]
    congr 1
    rw [decide_eq_decide]
    exact ⟨iS_inj, fun z => by rw [z]⟩
theorem zip_enc2 (c : List Int) (v : Int) : ∀ T : Tw, List.zipWith (fun q d => if q = iS c then D.int v else d) (T.map fun p => iS p.1) (T.map fun p => D.int p.2) = T.map fun p => D.int (if p.1 = c then (p.1, v) else p).2
  | [] => rfl
  | p :: T => by
    simp only [List.map_cons, List.zipWith_cons_cons]
    rw [zip_enc2 c v T]
    congr 1
    by_cases h : p.1 = c
    · rw [if_pos (by rw [h]), if_pos h]
    · rw [if_neg (fun z => h (iS_inj z)), if_neg h]
theorem putT_enc (T : Tw) (c : List Int) (v : Int) : putAt.putT (T.map fun p => iS p.1) (T.map fun p => D.int p.2) (iS c) (.int v) = encW (putW T c v) := by
  unfold putAt.putT putW
  rw [any_enc]
  split
  · unfold encW
    rw [zip_enc2, List.map_map, List.map_map]
    congr 1
    refine List.map_congr_left fun p _ => ?_
    simp only [Function.comp]
    split <;> rfl
  · unfold encW
    simp
theorem put_enc (T : Tw) (c : List Int) (v : Int) (h : T.length < SL) : putAt (.loc 0) (.tup (dI c)) (.int v) [encW T] = some [encW (putW T c v)] := by
  have e : putAt (.loc 0) (.tup (dI c)) (.int v) [encW T] = (match keyT (.tup (dI c)) with
    | some k => if (T.map fun p => iS p.1).length < SL then some ([encW T].set 0 (putAt.putT (T.map fun p => iS p.1) (T.map fun p => D.int p.2) k (.int v))) else none
    | none => none) := rfl
  rw [e, keyT_dI]
  simp only [List.length_map]
  rw [if_pos h, putT_enc]
  rfl
def encI (p : List Int × Int) : D := .tup [.tup (dI p.1), .int p.2]
theorem items_enc : ∀ T : Tw, itemsT (T.map fun p => iS p.1) (T.map fun p => D.int p.2) = T.map encI
  | [] => rfl
  | p :: T => by
    have ih := items_enc T
    unfold itemsT at ih ⊢
    simp only [List.map_cons, List.zipWith_cons_cons]
    rw [ih]
    congr 1
    unfold encI iS dI
    rw [List.map_map]
    rfl
def valW (T : Tw) (c : List Int) : Int := (valO T c).getD 0
def addW (T : Tw) (c : List Int) (v : Int) : Tw := putW T c (valW T c + v)
def okD (ps : List Pipe) (cs d : List Int) (b : Nat) : Bool := !decide (ik d b = ik cs b) && canT ps (leftT ps d) b
def incL (d : List Int) (b : Nat) : List Int := d.set b (ik d b + 1)
def rowW (ps : List Pipe) (cs : List Int) (L : Tw) (d : List Int) (x : Int) (k : Nat) : Tw := (List.range k).foldl (fun L b => if okD ps cs d b = true then addW L (incL d b) x else L) L
theorem rowW_succ (ps : List Pipe) (cs : List Int) (L : Tw) (d : List Int) (x : Int) (k : Nat) : rowW ps cs L d x (k + 1) = if okD ps cs d k = true then addW (rowW ps cs L d x k) (incL d k) x else rowW ps cs L d x k := by
  unfold rowW
  rw [List.range_succ, List.foldl_append]
  rfl
def stepW (n : Nat) (ps : List Pipe) (cs : List Int) (L T : Tw) : Tw := T.foldl (fun L p => rowW ps cs L p.1 p.2 n) L
structure KOkW (n : Nat) (cs : List Int) (T : Tw) : Prop where
  nd : (T.map (·.1)).Nodup
  l : ∀ p ∈ T, p.1.length = n
  b : ∀ p ∈ T, ∀ k, k < n → 0 ≤ ik p.1 k ∧ ik p.1 k ≤ ik cs k
theorem nodup_len : ∀ (N : Nat) (l : List Nat), l.Nodup → (∀ x ∈ l, x < N) → l.length ≤ N
  | 0, l, _, h => by
    cases l with
    | nil => simp
    | cons a l => exact absurd (h a (by simp)) (by omega)
  | N + 1, l, hn, h => by
    by_cases hm : N ∈ l
    · have h1 := List.length_erase_of_mem hm
      have h2 := nodup_len N (l.erase N) (hn.erase N) (fun x hx => by
        have h3 := (List.Nodup.mem_erase_iff hn).mp hx
        have := h x h3.2
        omega)
      have : 0 < l.length := List.length_pos_of_mem hm
      omega
    · have := nodup_len N l hn (fun x hx => by
        have := h x hx
        have : x ≠ N := fun z => hm (by rw [← z]; exact hx)
        omega)
      omega
def codeL : List Int → Nat
  | [] => 0
  | x :: c => x.toNat + 4 * codeL c
theorem codeL_inj : ∀ {a b : List Int}, a.length = b.length → (∀ x ∈ a, 0 ≤ x ∧ x ≤ 3) → (∀ x ∈ b, 0 ≤ x ∧ x ≤ 3) → codeL a = codeL b → a = b
  | [], [], _, _, _, _ => rfl
  | x :: a, y :: b, l, ha, hb, h => by
    have h1 := ha x (by simp)
    have h2 := hb y (by simp)
    have h' : x.toNat + 4 * codeL a = y.toNat + 4 * codeL b := h
    have : codeL a = codeL b := by omega
    rw [codeL_inj (by simpa using l) (fun z hz => ha z (by simp [hz])) (fun z hz => hb z (by simp [hz])) this, show x = y by omega]
theorem codeL_lt : ∀ {a : List Int}, (∀ x ∈ a, 0 ≤ x ∧ x ≤ 3) → codeL a < 4 ^ a.length
  | [], _ => by simp [codeL]
  | x :: a, h => by
    have h1 := h x (by simp)
    have := codeL_lt (a := a) (fun z hz => h z (by simp [hz]))
    show x.toNat + 4 * codeL a < _
    rw [List.length_cons, Nat.pow_succ]
    omega
theorem KOkW.len {n : Nat} {cs : List Int} {T : Tw} (h : KOkW n cs T) (hn : n ≤ 5) (hc : ∀ k, k < n → ik cs k ≤ 3) : T.length ≤ 1024 := by
  have hb : ∀ p ∈ T, ∀ x ∈ p.1, 0 ≤ x ∧ x ≤ 3 := fun p hp x hx => by
    obtain ⟨k, hk, rfl⟩ := ik_mem hx
    have hk' : k < n := by rw [← h.l p hp]; exact hk
    have := h.b p hp k hk'
    have := hc k hk'
    omega
  have h1 : (T.map fun p => codeL p.1).length ≤ 1024 := by
    refine nodup_len 1024 _ ?_ fun x hx => ?_
    · have := h.nd
      rw [List.nodup_iff_pairwise_ne, List.pairwise_map] at this ⊢
      refine this.imp_of_mem fun {p q} hp hq hne z => hne ?_
      exact codeL_inj (by rw [h.l p hp, h.l q hq]) (hb p hp) (hb q hq) z
    · obtain ⟨p, hp, rfl⟩ := List.mem_map.mp hx
      have := codeL_lt (hb p hp)
      rw [h.l p hp] at this
      have h2 : 4 ^ n ≤ 4 ^ 5 := Nat.pow_le_pow_right (by decide) hn
      omega
  simpa using h1
theorem putW_keys (T : Tw) (c : List Int) (v : Int) : (putW T c v).map (·.1) = if c ∈ T.map (·.1) then T.map (·.1) else T.map (·.1) ++ [c] := by
  unfold putW
  by_cases h : (T.any fun p => decide (p.1 = c)) = true
  · rw [if_pos h]
    obtain ⟨p, hp, e⟩ := List.any_eq_true.mp h
    rw [if_pos (List.mem_map.mpr ⟨p, hp, of_decide_eq_true e⟩), List.map_map]
    refine List.map_congr_left fun p _ => ?_
    simp only [Function.comp]
    split <;> rfl
  · rw [if_neg h, if_neg (fun z => h (by
      obtain ⟨p, hp, e⟩ := List.mem_map.mp z
      exact List.any_eq_true.mpr ⟨p, hp, decide_eq_true e⟩))]
    simp
theorem KOkW.put {n : Nat} {cs : List Int} {T : Tw} (h : KOkW n cs T) {c : List Int} (hl : c.length = n) (hb : ∀ k, k < n → 0 ≤ ik c k ∧ ik c k ≤ ik cs k) (v : Int) : KOkW n cs (putW T c v) := by
  have hk := putW_keys T c v
  have hm : ∀ p ∈ putW T c v, p.1 = c ∨ ∃ q ∈ T, p.1 = q.1 := fun p hp => by
    have : p.1 ∈ (putW T c v).map (·.1) := List.mem_map.mpr ⟨p, hp, rfl⟩
    rw [hk] at this
    split at this
    · obtain ⟨q, hq, e⟩ := List.mem_map.mp this
      exact .inr ⟨q, hq, e.symm⟩
    · rcases List.mem_append.mp this with z | z
      · obtain ⟨q, hq, e⟩ := List.mem_map.mp z
        exact .inr ⟨q, hq, e.symm⟩
      · exact .inl (List.mem_singleton.mp z)
  refine ⟨?_, fun p hp => ?_, fun p hp => ?_⟩
  · rw [hk]
    split
    · exact h.nd
    · rename_i hc
      rw [List.nodup_append]
      exact ⟨h.nd, by simp, fun a ha b hb z => hc (by rw [← List.mem_singleton.mp hb, ← z]; exact ha)⟩
  · rcases hm p hp with e | ⟨q, hq, e⟩
    · rw [e]; exact hl
    · rw [e]; exact h.l q hq
  · rcases hm p hp with e | ⟨q, hq, e⟩
    · rw [e]; exact hb
    · rw [e]; exact h.b q hq
theorem valO_put (T : Tw) (c d : List Int) (v : Int) : valO (putW T c v) d = if d = c then some v else valO T d := by
  unfold putW
  by_cases h : (T.any fun p => decide (p.1 = c)) = true
  · rw [if_pos h]
    induction T with
    | nil => simp at h
    | cons p T ih =>
      unfold valO
      rw [List.map_cons, List.find?_cons, List.find?_cons]
      by_cases hp : p.1 = c
      · rw [if_pos hp]
        by_cases hd : d = c
        · subst hd
          simp [hp]
        · have : ¬ p.1 = d := fun z => hd (by rw [← z, hp])
          simp only [this, decide_false, hd, if_false]
          have hT : ∀ T : Tw, ((T.map fun p => if p.1 = c then (p.1, v) else p).find? fun p => decide (p.1 = d)) = T.find? fun p => decide (p.1 = d) := fun T => by
            induction T with
            | nil => rfl
            | cons q T ih =>
              rw [List.map_cons, List.find?_cons, List.find?_cons, ih]
              by_cases hq : q.1 = c
              · rw [if_pos hq]
                have : ¬ q.1 = d := fun z => hd (by rw [← z, hq])
                simp [this]
              · rw [if_neg hq]
          rw [hT]
      · rw [if_neg hp]
        have hT : (T.any fun p => decide (p.1 = c)) = true := by
          rw [List.any_cons] at h
          simpa [hp] using h
        have ih' := ih hT
        unfold valO at ih'
        by_cases hpd : p.1 = d
        · have : ¬ d = c := fun z => hp (by rw [hpd, z])
          simp [hpd, this]
        · simp only [hpd, decide_false]
          exact ih'
  · rw [if_neg h]
    unfold valO
    rw [List.find?_append]
    have hn : ∀ p ∈ T, ¬ p.1 = c := fun p hp z => h (List.any_eq_true.mpr ⟨p, hp, decide_eq_true z⟩)
    by_cases hd : d = c
    · subst hd
      have : T.find? (fun p => decide (p.1 = d)) = none := List.find?_eq_none.mpr fun p hp => by simpa using hn p hp
      simp [this]
    · have : ¬ c = d := fun z => hd z.symm
      simp only [hd, if_false, List.find?_cons, this, decide_false, List.find?_nil, Option.or_none]
theorem valW_add (T : Tw) (c d : List Int) (v : Int) : valW (addW T c v) d = if d = c then valW T c + v else valW T d := by
  unfold addW
  rw [show valW (putW T c (valW T c + v)) d = (valO (putW T c (valW T c + v)) d).getD 0 from rfl, valO_put]
  split
  · rfl
  · rfl
theorem incL_eq {d : List Int} {b : Nat} (h : b < d.length) : dI (d.take b) ++ [.int (ik d b + 1)] ++ dI (d.drop (b + 1)) = dI (incL d b) := by
  unfold incL
  rw [List.set_eq_take_append_cons_drop, if_pos h]
  simp [dI]
def kGetT (x y z : D) (S : List D) : R D := match dctT S x, keyT y with
  | some (ks, ds), some q => .ok ((J.getT ks ds q).getD z) S
  | _, _ => .bad
theorem ev_get2T (o a b : ME) (E : Env) (S : List D) : eGet2T o a b E S = (o E S).bind fun x S1 => if (dctT S1 x).isSome = true then (a E S1).bind fun y S2 => (b E S2).bind fun z S3 => kGetT x y z S3 else .bad := rfl
theorem kGetT_loc (T : Tw) (c : List Int) (v : Int) : kGetT (.loc 0) (.tup (dI c)) (.int v) [encW T] = .ok (.int ((valO T c).getD v)) [encW T] := by
  unfold kGetT
  rw [keyT_dI, show dctT [encW T] (.loc 0) = some (T.map fun p => iS p.1, T.map fun p => D.int p.2) from rfl]
  simp only [getT_enc]
  cases valO T c <;> rfl
theorem kGetT_val (T : Tw) (c : List Int) (v : Int) (S : List D) : kGetT (encW T) (.tup (dI c)) (.int v) S = .ok (.int ((valO T c).getD v)) S := by
  unfold kGetT
  rw [keyT_dI, show dctT S (encW T) = some (T.map fun p => iS p.1, T.map fun p => D.int p.2) from rfl]
  simp only [getT_enc]
  cases valO T c <;> rfl
theorem row_ok {n : Nat} {ps : List Pipe} (F : FP n ps) {cs d : List Int} (hn : n ≤ 5) (hcs : cs.length = n) (hd : d.length = n) (hb : ∀ k, k < n → 0 ≤ ik d k ∧ ik d k ≤ ik cs k) (h3 : ∀ k, k < n → ik cs k ≤ 3) {L : Tw} (hL : KOkW n cs L) (x : Int) (a2 x7 x8 x9 : Option D) :
    ∃ (y7 y8 y9 : Option D), forS (.enum (.its (dI d))) (.tp [.nm 7, .nm 8]) B1_p_one_firing_on [some (.tup (ps.map encP)), some (.tup (dI cs)), a2, some (.loc 0), some (.tup (dI d)), some (.int x), some (.tup (dI (leftT ps d))), x7, x8, x9] [encW L]
      = .nx [some (.tup (ps.map encP)), some (.tup (dI cs)), a2, some (.loc 0), some (.tup (dI d)), some (.int x), some (.tup (dI (leftT ps d))), y7, y8, y9] [encW (rowW ps cs L d x n)] ∧ KOkW n cs (rowW ps cs L d x n) := by
  obtain ⟨E', S', e, y7, y8, y9, rfl, rfl, h⟩ := for_enum d D.int (t := .tp [.nm 7, .nm 8]) (b := B1_p_one_firing_on) (E := [some (.tup (ps.map encP)), some (.tup (dI cs)), a2, some (.loc 0), some (.tup (dI d)), some (.int x), some (.tup (dI (leftT ps d))), x7, x8, x9]) (S := [encW L])
    (fun i E S => ∃ (y7 y8 y9 : Option D), E = [some (.tup (ps.map encP)), some (.tup (dI cs)), a2, some (.loc 0), some (.tup (dI d)), some (.int x), some (.tup (dI (leftT ps d))), y7, y8, y9] ∧ S = [encW (rowW ps cs L d x i)] ∧ KOkW n cs (rowW ps cs L d x i)) ⟨x7, x8, x9, rfl, rfl, hL⟩ (by
      rintro i E S hi ⟨y7, y8, y9, rfl, rfl, hK⟩
      have hin : i < n := by omega
      have ei : d[i] = ik d i := by simp [ik, hi]
      rw [ei]
      have hcl : i < cs.length := by omega
      rw [rowW_succ]
      have hsh := short_eq (i : Int) F.l (left_len ps d)
      by_cases hok : okD ps cs d i = true
      · rw [if_pos hok]
        unfold okD at hok
        rw [Bool.and_eq_true, Bool.not_eq_true', decide_eq_false_iff_not] at hok
        have hlt : ik d i + 1 ≤ ik cs i := by have := hb i hin; omega
        have hK2 : KOkW n cs (addW (rowW ps cs L d x i) (incL d i) x) := by
          refine hK.put (by simp [incL, hd]) (fun k hk => ?_) _
          unfold incL
          rw [ik_set (by omega)]
          have := hb k hk
          have := hb i hin
          split
          · rename_i q; subst q; omega
          · omega
        have hlen := hK.len hn h3
        refine turn_nx rfl (E2 := [some (.tup (ps.map encP)), some (.tup (dI cs)), a2, some (.loc 0), some (.tup (dI d)), some (.int x), some (.tup (dI (leftT ps d))), some (.int (i : Nat)), some (.int (ik d i)), some (.tup (dI (incL d i)))]) (S2 := [encW (addW (rowW ps cs L d x i) (incL d i) x)]) ?_ rfl ⟨_, _, _, rfl, rfl, hK2⟩
        generalize rowW ps cs L d x i = T at *
        unfold B1_p_one_firing_on
        have c1 : cutOf (dI d) none (some (i : Int)) = dI (d.take i) := by rw [cut_to]; simp [dI, List.map_take]
        have c2 : cutOf (dI d) (some ((i : Int) + 1)) none = dI (d.drop (i + 1)) := by
          rw [show ((i : Int) + 1) = ((i + 1 : Nat) : Int) by omega, cut_from]
          simp [dI, List.map_drop]
        have p1 : ∀ S, oAdd (.tup (dI (d.take i))) (.tup [.int (ik d i + 1)]) S = .ok (.tup (dI (d.take i) ++ [.int (ik d i + 1)])) S := fun S => o_addT (by simp [dI, SL]; omega)
        have p2 : ∀ S, oAdd (.tup (dI (d.take i) ++ [.int (ik d i + 1)])) (.tup (dI (d.drop (i + 1)))) S = .ok (.tup (dI (incL d i))) S := fun S => by
          rw [o_addT (by simp [dI, SL]; omega), incL_eq (by omega)]
        have hp : putAt (.loc 0) (.tup (dI (incL d i))) (.int ((valO T (incL d i)).getD 0 + x)) [encW T] = some [encW (addW T (incL d i) x)] := put_enc T (incL d i) (valW T (incL d i) + x) (by simp [SL]; omega)
        have hds : (dctT [encW T] (.loc 0)).isSome = true := rfl
        simp [at_dI hcl, hok.1, hsh, short_false, hok.2, c1, c2, p1, p2, ev_get2T, kGetT_loc, hds, hp]
      · rw [if_neg hok]
        refine ⟨_, _, [encW (rowW ps cs L d x i)], _, [encW (rowW ps cs L d x i)], rfl, .inr ?_, gc_same rfl, some (.int (i : Nat)), some (.int (ik d i)), y9, rfl, rfl, hK⟩
        generalize rowW ps cs L d x i = T at *
        unfold okD at hok
        unfold B1_p_one_firing_on
        by_cases hE : ik d i = ik cs i
        · simp [at_dI hcl, hE]
        · have hc : canT ps (leftT ps d) i = false := by
            rw [← Bool.not_eq_true]
            intro z
            apply hok
            simp [hE, z]
          simp [at_dI hcl, hE, hsh, short_false, hc])
  rw [hd] at e h
  exact ⟨y7, y8, y9, e, h⟩
theorem mapM_self {f : D → Option D} : ∀ {ds : List D}, (∀ d ∈ ds, f d = some d) → ds.mapM f = some ds
  | [], _ => rfl
  | d :: ds, h => by
    rw [List.mapM_cons, h d (by simp), mapM_self (fun e he => h e (by simp [he]))]
    rfl
theorem ret_encW (T : Tw) : retF 0 (.loc 0) [encW T] = .ok (encW T) [] := by
  have h1 : fz 0 [encW T] 8 (.loc 0) = some (encW T) := by
    have e : fz 0 [encW T] 8 (.loc 0) = ((T.map fun p => D.int p.2).mapM (fz 0 [encW T] 7)).map (.dcT (T.map fun p => iS p.1)) := rfl
    rw [e, mapM_self fun d hd => by
      obtain ⟨p, _, rfl⟩ := List.mem_map.mp hd
      rfl]
    rfl
  unfold retF
  rw [h1]
  rfl
theorem stepW_snoc (n : Nat) (ps : List Pipe) (cs : List Int) (L T : Tw) (p : List Int × Int) : stepW n ps cs L (T ++ [p]) = rowW ps cs (stepW n ps cs L T) p.1 p.2 n := by
  unfold stepW
  rw [List.foldl_append]
  rfl
theorem take_snoc {α : Type} (T : List α) (i : Nat) (h : i < T.length) : T.take (i + 1) = T.take i ++ [T[i]] := by
  rw [List.take_succ_eq_append_getElem h]
theorem onefire_ok {n : Nat} {ps : List Pipe} (F : FP n ps) {cs : List Int} (hn : n ≤ 5) (hcs : cs.length = n) (h3 : ∀ k, k < n → ik cs k ≤ 3) {T : Tw} (hT : KOkW n cs T) :
    F_p_one_firing_on [.tup (ps.map encP), .tup (dI cs), encW T] [] = .ok (encW (stepW n ps cs [] T)) [] ∧ KOkW n cs (stepW n ps cs [] T) := by
  unfold F_p_one_firing_on S_p_one_firing_on
  rw [fn_ev 3 10 _ rfl]
  obtain ⟨E', S', e, y4, y5, y6, y7, y8, y9, rfl, rfl, h⟩ := for_its T encI (t := .tp [.nm 4, .nm 5]) (b := B2_p_one_firing_on) (E := [some (.tup (ps.map encP)), some (.tup (dI cs)), some (encW T), some (.loc 0), none, none, none, none, none, none]) (S := [encW []])
    (fun i E S => ∃ (y4 y5 y6 y7 y8 y9 : Option D), E = [some (.tup (ps.map encP)), some (.tup (dI cs)), some (encW T), some (.loc 0), y4, y5, y6, y7, y8, y9] ∧ S = [encW (stepW n ps cs [] (T.take i))] ∧ KOkW n cs (stepW n ps cs [] (T.take i))) ⟨none, none, none, none, none, none, rfl, rfl, by simp [stepW], by simp [stepW], by simp [stepW]⟩ (by
      rintro i E S hi ⟨y4, y5, y6, y7, y8, y9, rfl, rfl, hK⟩
      have hm := List.getElem_mem hi
      obtain ⟨z7, z8, z9, e1, hK2⟩ := row_ok F hn hcs (hT.l _ hm) (hT.b _ hm) h3 hK T[i].2 (some (encW T)) y7 y8 y9
      rw [take_snoc T i hi, stepW_snoc]
      refine turn_nx rfl (E2 := [some (.tup (ps.map encP)), some (.tup (dI cs)), some (encW T), some (.loc 0), some (.tup (dI T[i].1)), some (.int T[i].2), some (.tup (dI (leftT ps T[i].1))), z7, z8, z9]) (S2 := [encW (rowW ps cs (stepW n ps cs [] (T.take i)) T[i].1 T[i].2 n)]) ?_ rfl ⟨_, _, _, _, _, _, rfl, rfl, hK2⟩
      unfold B2_p_one_firing_on
      simp [lefton_eq F (hT.l _ hm), e1])
  rw [List.take_length] at e h
  refine ⟨?_, h⟩
  have hit : ∀ E S, E[2]? = some (some (encW T)) → iItemsT (eVar 2) E S = .ok (Src.its (T.map encI)) S := fun E S hE => by
    have v : eVar 2 E S = .ok (encW T) S := by unfold eVar; rw [hE]
    unfold iItemsT
    rw [v]
    show R.ok (Src.its (itemsT (T.map fun p => iS p.1) (T.map fun p => D.int p.2))) S = _
    rw [items_enc]
  have hnew : ∀ E, eDctTL E [] = .ok (.loc 0) [encW []] := fun E => rfl
  simp [hnew, hit, e, ret_encW]
theorem mult_ok {xs : List Int} (hl : xs.length ≤ 5) (hb : ∀ x ∈ xs, 1 ≤ x ∧ x ≤ 4) : ∃ v : Int, F_p_multiplied [.lst (dI xs)] [] = .ok (.int v) [] ∧ v ≤ 3000 := by
  unfold F_p_multiplied S_p_multiplied
  rw [fn_ev 1 3 _ rfl]
  obtain ⟨E', S', e, y2, v, rfl, rfl, h1, h2⟩ := for_its xs D.int (t := .nm 2) (b := B1_p_multiplied) (E := [some (.lst (dI xs)), some (.int 1), none]) (S := [])
    (fun i E S => ∃ (y2 : Option D) (v : Int), E = [some (.lst (dI xs)), some (.int v), y2] ∧ S = [] ∧ 0 ≤ v ∧ v ≤ 4 ^ i) ⟨none, 1, rfl, rfl, by omega, by simp⟩ (by
      rintro i E S hi ⟨y2, v, rfl, rfl, h1, h2⟩
      have hx := hb _ (List.getElem_mem hi)
      have h4 : (4 : Int) ^ i ≤ 4 ^ 5 := by
        have : (4 : Nat) ^ i ≤ 4 ^ 5 := Nat.pow_le_pow_right (by decide) (by omega)
        exact_mod_cast this
      have hm : v * xs[i] ≤ 4 ^ i * 4 := Int.mul_le_mul h2 hx.2 (by omega) (by omega)
      have hm0 : 0 ≤ v * xs[i] := Int.mul_nonneg h1 (by omega)
      refine turn_nx rfl (E2 := [some (.lst (dI xs)), some (.int (v * xs[i])), some (.int xs[i])]) (S2 := []) ?_ rfl ⟨_, _, rfl, rfl, hm0, by rw [Int.pow_succ]; exact hm⟩
      have hs : smallI v = true := by
        unfold smallI
        simp
        omega
      unfold B1_p_multiplied
      simp [iMul, hs])
  have h4 : (4 : Int) ^ xs.length ≤ 4 ^ 5 := by
    have : (4 : Nat) ^ xs.length ≤ 4 ^ 5 := Nat.pow_le_pow_right (by decide) hl
    exact_mod_cast this
  refine ⟨v, ?_, by omega⟩
  rw [show xs.map D.int = dI xs from rfl] at e
  simp [e]
def zeroL (n : Nat) : List Int := List.replicate n 0
def itW (n : Nat) (ps : List Pipe) (cs : List Int) : Nat → Tw
  | 0 => [(zeroL n, 1)]
  | k + 1 => stepW n ps cs [] (itW n ps cs k)
theorem ways_ok {n : Nat} {ps : List Pipe} (h : FOk n ps) (F : FP n ps) {cs : List Int} (hn : n ≤ 5) (hC : COk n cs) (h3 : ∀ k, k < n → ik cs k ≤ 3) :
    F_p_ways [encF n ps, .tup (dI cs)] [] = .ok (.int (valW (itW n ps cs cs.sum.toNat) cs)) [] ∧ ∀ k, KOkW n cs (itW n ps cs k) := by
  have hcs := hC.l
  have h0 : KOkW n cs [(zeroL n, 1)] := ⟨by simp, by simp [zeroL], fun p hp k hk => by
    rw [List.mem_singleton.mp hp]
    show 0 ≤ ik (List.replicate n 0) k ∧ ik (List.replicate n 0) k ≤ ik cs k
    rw [ik_rep]
    have := hC.b k hk
    omega⟩
  have hK : ∀ k, KOkW n cs (itW n ps cs k) := fun k => by
    induction k with
    | zero => exact h0
    | succ k ih => exact (onefire_ok F hn hcs h3 ih).2
  refine ⟨?_, hK⟩
  unfold F_p_ways S_p_ways
  rw [fn_ev 2 5 _ rfl]
  have hs := hC.sum
  obtain ⟨v, e1, hv⟩ := mult_ok (xs := cs.map (· + 1)) (by simp; omega) (fun x hx => by
    obtain ⟨y, hy, rfl⟩ := List.mem_map.mp hx
    obtain ⟨k, hk, rfl⟩ := ik_mem hy
    have := hC.b k (by omega)
    have := h3 k (by omega)
    omega)
  have hl1 : ∀ (x2 x3 : Option D), lcS false (.its (dI cs)) [4] (.nm 4) J.tYes V1_p_ways [some (encF n ps), some (.tup (dI cs)), x2, x3, none] [] = .ok (.lst (dI (cs.map (· + 1)))) [] := fun x2 x3 => by
    rw [show Src.its (dI cs) = Src.its (cs.map D.int) from rfl, lc_true cs D.int (fun y => D.int (y + 1)) (by simp [SL]; omega) (is_its _ _) (fun y _ => ⟨_, rfl, rfl, by unfold V1_p_ways; simp⟩)]
    simp [dI]
  have hl2 : ∀ (x2 x3 : Option D), lcS false (.its (dI cs)) [3] (.nm 3) J.tYes V2_p_ways [some (encF n ps), some (.tup (dI cs)), x2, x3, none] [] = .ok (.lst (dI (zeroL n))) [] := fun x2 x3 => by
    rw [show Src.its (dI cs) = Src.its (cs.map D.int) from rfl, lc_true cs D.int (fun y => D.int 0) (by simp [SL]; omega) (is_its _ _) (fun y _ => ⟨_, rfl, rfl, by unfold V2_p_ways; simp⟩)]
    simp only [dI, zeroL, List.map_replicate]
    rw [← hcs, List.map_const']
  obtain ⟨E', S', e2, y3, rfl, rfl⟩ := for_rng (lo := 0) (n := cs.sum.toNat) (t := .nm 3) (b := B3_p_ways) (E := [some (encF n ps), some (.tup (dI cs)), some (encW (itW n ps cs 0)), none, none]) (S := [])
    (fun i E S => ∃ (y3 : Option D), E = [some (encF n ps), some (.tup (dI cs)), some (encW (itW n ps cs i)), y3, none] ∧ S = []) ⟨none, rfl, rfl⟩ (by
      rintro i E S hi ⟨y3, rfl, rfl⟩
      refine turn_nx rfl (E2 := [some (encF n ps), some (.tup (dI cs)), some (encW (itW n ps cs (i + 1))), some (.int (0 + (i : Nat))), none]) (S2 := []) ?_ rfl ⟨_, rfl, rfl⟩
      unfold B3_p_ways
      simp [(onefire_ok F hn hcs h3 (hK i)).1, itW])
  have hd : ∀ (S : List D), kDispT (.tup (dI (zeroL n))) (.int 1) S = .ok (encW (itW n ps cs 0)) S := fun S => by
    unfold kDispT
    rw [keyT_dI]
    rfl
  have hdd : ∀ (k v : ME) (E : Env) (S : List D), eDispT k v E S = (k E S).bind fun x S1 => (v E S1).bind fun y S2 => kDispT x y S2 := fun _ _ _ _ => rfl
  have hr : ∀ S, kRng1 (.int cs.sum) S = .ok (.rng 0 cs.sum.toNat) S := fun S => krng1 (by omega) (by omega)
  have hsm : ∀ S, bSum [.tup (dI cs)] S = .ok (.int cs.sum) S := fun S => b_sumT _ _
  have hv3 : decide (3000 < v) = false := decide_eq_false (by omega)
  have hds : (dctT [] (encW (itW n ps cs cs.sum.toNat))).isSome = true := rfl
  simp [check_ok h, checkcounts_ok hC, hl1, hl2, e1, hv3, hdd, hd, hsm, hr, e2, ev_get2T, hds, kGetT_val]
  rfl
def sumB (k : Nat) (f : Nat → Int) : Int := ((List.range k).map f).sum
theorem sumB_succ (k : Nat) (f : Nat → Int) : sumB (k + 1) f = sumB k f + f k := by
  unfold sumB
  rw [List.range_succ, List.map_append, List.sum_append]
  simp
theorem sumB_congr {k : Nat} {f g : Nat → Int} (h : ∀ b, b < k → f b = g b) : sumB k f = sumB k g := by
  unfold sumB
  rw [List.map_congr_left fun b hb => h b (List.mem_range.mp hb)]
theorem sumB_zero (k : Nat) : sumB k (fun _ => 0) = 0 := by
  induction k with
  | zero => rfl
  | succ k ih => rw [sumB_succ, ih]; rfl
theorem sumB_add (k : Nat) (f g : Nat → Int) : sumB k (fun b => f b + g b) = sumB k f + sumB k g := by
  induction k with
  | zero => rfl
  | succ k ih => rw [sumB_succ, sumB_succ, sumB_succ, ih]; omega
theorem sumB_swap (k m : Nat) (f : Nat → Nat → Int) : sumB k (fun a => sumB m fun b => f a b) = sumB m fun b => sumB k fun a => f a b := by
  induction k with
  | zero =>
    show 0 = sumB m fun b => 0
    rw [sumB_zero]
  | succ k ih =>
    rw [sumB_succ, ih, ← sumB_add]
    exact sumB_congr fun b _ => (sumB_succ k fun a => f a b).symm
theorem sumB_if (k : Nat) (p : Prop) [Decidable p] (f : Nat → Int) : (if p then sumB k f else 0) = sumB k fun b => if p then f b else 0 := by
  split
  · rfl
  · rw [sumB_zero]
theorem sumB_nn {k : Nat} {f : Nat → Int} (h : ∀ b, b < k → 0 ≤ f b) : 0 ≤ sumB k f := by
  induction k with
  | zero => exact Int.le_refl _
  | succ k ih =>
    rw [sumB_succ]
    have := ih fun b hb => h b (by omega)
    have := h k (by omega)
    omega
theorem sumB_ge {k : Nat} {f : Nat → Int} (h : ∀ b, b < k → 0 ≤ f b) {b : Nat} (hb : b < k) : f b ≤ sumB k f := by
  induction k with
  | zero => omega
  | succ k ih =>
    rw [sumB_succ]
    have h1 := sumB_nn (k := k) (f := f) fun b hb => h b (by omega)
    have h2 := h k (by omega)
    by_cases e : b = k
    · subst e; omega
    · have := ih (fun b hb => h b (by omega)) (by omega)
      omega
theorem sumB_pos {k : Nat} {f : Nat → Int} (h : ∀ b, b < k → 0 ≤ f b) (hp : 0 < sumB k f) : ∃ b, b < k ∧ 0 < f b := by
  apply Classical.byContradiction
  intro hno
  have : sumB k f = 0 := by
    rw [← sumB_zero k]
    refine sumB_congr fun b hb => ?_
    have h1 := h b hb
    have : ¬ 0 < f b := fun z => hno ⟨b, hb, z⟩
    omega
  omega
theorem sum_sumB (m : Nat) {α : Type} (f : α → Nat → Int) : ∀ T : List α, (T.map fun p => sumB m (f p)).sum = sumB m fun b => (T.map fun p => f p b).sum
  | [] => by
    show (0 : Int) = sumB m fun b => 0
    rw [sumB_zero]
  | p :: T => by
    rw [List.map_cons, List.sum_cons, sum_sumB m f T, ← sumB_add]
    exact sumB_congr fun b _ => by rw [List.map_cons, List.sum_cons]
def decL (c : List Int) (b : Nat) : List Int := c.set b (ik c b - 1)
theorem incL_len {c : List Int} {b : Nat} : (incL c b).length = c.length := by simp [incL]
theorem decL_len {c : List Int} {b : Nat} : (decL c b).length = c.length := by simp [decL]
theorem ik_incL {c : List Int} {b : Nat} (h : b < c.length) (k : Nat) : ik (incL c b) k = if k = b then ik c b + 1 else ik c k := ik_set h _ _
theorem ik_decL {c : List Int} {b : Nat} (h : b < c.length) (k : Nat) : ik (decL c b) k = if k = b then ik c b - 1 else ik c k := ik_set h _ _
theorem inc_dec {c : List Int} {b : Nat} (h : b < c.length) : incL (decL c b) b = c := by
  refine ik_ext (n := c.length) (by rw [incL_len, decL_len]) rfl fun k hk => ?_
  rw [ik_incL (by rw [decL_len]; exact h), ik_decL h, ik_decL h]
  split
  · rename_i q; subst q; simp
  · rfl
theorem dec_inc {c : List Int} {b : Nat} (h : b < c.length) : decL (incL c b) b = c := by
  refine ik_ext (n := c.length) (by rw [decL_len, incL_len]) rfl fun k hk => ?_
  rw [ik_decL (by rw [incL_len]; exact h), ik_incL h, ik_incL h]
  split
  · rename_i q; subst q; simp
  · rfl
theorem inc_eq {a c : List Int} {b : Nat} (ha : b < a.length) (hl : a.length = c.length) : incL a b = c ↔ a = decL c b := by
  constructor
  · intro h; rw [← h, dec_inc ha]
  · intro h; rw [h, inc_dec (by omega)]
theorem sum_inc {c : List Int} {b : Nat} (h : b < c.length) : (incL c b).sum = c.sum + 1 := sum_set h 1
theorem sum_dec {c : List Int} {b : Nat} (h : b < c.length) : (decL c b).sum = c.sum - 1 := by
  have := sum_set h (-1)
  have e : ik c b + -1 = ik c b - 1 := by omega
  rw [e] at this
  exact this
theorem valW_row (ps : List Pipe) (cs : List Int) (L : Tw) (d : List Int) (x : Int) (k : Nat) (c : List Int) : valW (rowW ps cs L d x k) c = valW L c + sumB k fun b => if okD ps cs d b = true ∧ incL d b = c then x else 0 := by
  induction k with
  | zero => show valW L c = valW L c + 0; omega
  | succ k ih =>
    rw [rowW_succ, sumB_succ]
    by_cases h : okD ps cs d k = true
    · rw [if_pos h, valW_add]
      by_cases e : c = incL d k
      · rw [if_pos e, if_pos ⟨h, e.symm⟩, ← e, ih]; omega
      · rw [if_neg e, if_neg (fun z => e z.2.symm), ih]; omega
    · rw [if_neg h, if_neg (fun z => h z.1), ih]; omega
theorem valW_step (n : Nat) (ps : List Pipe) (cs : List Int) (c : List Int) : ∀ (T L : Tw), valW (stepW n ps cs L T) c = valW L c + (T.map fun p => sumB n fun b => if okD ps cs p.1 b = true ∧ incL p.1 b = c then p.2 else 0).sum
  | [], L => by simp [stepW]
  | p :: T, L => by
    have ih := valW_step n ps cs c T (rowW ps cs L p.1 p.2 n)
    rw [List.map_cons, List.sum_cons]
    rw [show stepW n ps cs L (p :: T) = stepW n ps cs (rowW ps cs L p.1 p.2 n) T from rfl, ih, valW_row]
    omega
theorem sum_key (d : List Int) : ∀ T : Tw, (T.map (·.1)).Nodup → (T.map fun p => if p.1 = d then p.2 else 0).sum = valW T d
  | [], _ => rfl
  | p :: T, h => by
    rw [List.map_cons, List.nodup_cons] at h
    have ih := sum_key d T h.2
    rw [List.map_cons, List.sum_cons, ih]
    unfold valW valO
    rw [List.find?_cons]
    by_cases e : p.1 = d
    · have hn : T.find? (fun p => decide (p.1 = d)) = none := List.find?_eq_none.mpr fun q hq => by
        have : ¬ q.1 = d := fun z => h.1 (List.mem_map.mpr ⟨q, hq, by rw [z, e]⟩)
        simpa using this
      simp [e, hn]
    · simp [e]
theorem sum_zeros : ∀ T : Tw, (T.map fun _ => (0 : Int)).sum = 0
  | [] => rfl
  | p :: T => by rw [List.map_cons, List.sum_cons, sum_zeros T]; rfl
theorem step_val {n : Nat} {ps : List Pipe} {cs : List Int} {T : Tw} (hT : KOkW n cs T) {c : List Int} (hc : c.length = n) :
    valW (stepW n ps cs [] T) c = sumB n fun b => if okD ps cs (decL c b) b = true then valW T (decL c b) else 0 := by
  rw [valW_step, sum_sumB]
  show 0 + _ = _
  rw [Int.zero_add]
  refine sumB_congr fun b hb => ?_
  have e : (T.map fun p => if okD ps cs p.1 b = true ∧ incL p.1 b = c then p.2 else 0) = T.map fun p => if okD ps cs (decL c b) b = true then (if p.1 = decL c b then p.2 else 0) else 0 := by
    refine List.map_congr_left fun p hp => ?_
    have hl := hT.l p hp
    have hi := inc_eq (a := p.1) (c := c) (b := b) (by omega) (by omega)
    by_cases h1 : p.1 = decL c b
    · have h0 := hi.mpr h1
      by_cases h2 : okD ps cs (decL c b) b = true
      · rw [if_pos ⟨by rw [h1]; exact h2, h0⟩, if_pos h2, if_pos h1]
      · rw [if_neg (fun z => h2 (by rw [← h1]; exact z.1)), if_neg h2]
    · rw [if_neg (fun z => h1 (hi.mp z.2))]
      simp [h1]
  rw [e]
  split
  · exact sum_key _ _ hT.nd
  · exact sum_zeros T
def Pa (n : Nat) (ps : List Pipe) (cs : List Int) : Nat → List Int → List Int → Int
  | 0, a, c => if a = c then 1 else 0
  | k + 1, a, c => sumB n fun b => if okD ps cs (decL c b) b = true then Pa n ps cs k a (decL c b) else 0
theorem itW_val {n : Nat} {ps : List Pipe} {cs : List Int} (hK : ∀ k, KOkW n cs (itW n ps cs k)) : ∀ (k : Nat) (c : List Int), c.length = n → valW (itW n ps cs k) c = Pa n ps cs k (zeroL n) c
  | 0, c, hc => by
    show valW [(zeroL n, 1)] c = if zeroL n = c then 1 else 0
    unfold valW valO
    by_cases h : zeroL n = c
    · simp [h]
    · simp [h]
  | k + 1, c, hc => by
    show valW (stepW n ps cs [] (itW n ps cs k)) c = sumB n fun b => if okD ps cs (decL c b) b = true then Pa n ps cs k (zeroL n) (decL c b) else 0
    rw [step_val (hK k) hc]
    refine sumB_congr fun b hb => ?_
    rw [itW_val hK k (decL c b) (by rw [decL_len]; exact hc)]
theorem Pa_nn (n : Nat) (ps : List Pipe) (cs : List Int) : ∀ (k : Nat) (a c : List Int), 0 ≤ Pa n ps cs k a c
  | 0, a, c => by
    show 0 ≤ if a = c then (1 : Int) else 0
    split <;> omega
  | k + 1, a, c => sumB_nn fun b _ => by
    split
    · exact Pa_nn n ps cs k a _
    · exact Int.le_refl _
theorem Pa_first {n : Nat} {ps : List Pipe} {cs : List Int} : ∀ (k : Nat) (a c : List Int), a.length = n → c.length = n → Pa n ps cs (k + 1) a c = sumB n fun b => if okD ps cs a b = true then Pa n ps cs k (incL a b) c else 0
  | 0, a, c, ha, hc => sumB_congr fun b hb => by
    show (if okD ps cs (decL c b) b = true then (if a = decL c b then (1 : Int) else 0) else 0) = if okD ps cs a b = true then (if incL a b = c then 1 else 0) else 0
    have := inc_eq (a := a) (c := c) (b := b) (by omega) (by omega)
    by_cases h : a = decL c b
    · rw [if_pos h, if_pos (this.mpr h), ← h]
    · rw [if_neg h, if_neg (fun z => h (this.mp z))]
      simp
  | k + 1, a, c, ha, hc => by
    have h1 : Pa n ps cs (k + 2) a c = sumB n fun b => sumB n fun b' => if okD ps cs (decL c b) b = true then (if okD ps cs a b' = true then Pa n ps cs k (incL a b') (decL c b) else 0) else 0 := by
      refine sumB_congr fun b hb => ?_
      rw [Pa_first k a (decL c b) ha (by rw [decL_len]; exact hc)]
      exact sumB_if n _ _
    rw [h1, sumB_swap]
    refine sumB_congr fun b' hb' => ?_
    show _ = if okD ps cs a b' = true then (sumB n fun b => if okD ps cs (decL c b) b = true then Pa n ps cs k (incL a b') (decL c b) else 0) else 0
    rw [sumB_if]
    refine sumB_congr fun b hb => ?_
    by_cases h2 : okD ps cs (decL c b) b = true <;> by_cases h3 : okD ps cs a b' = true <;> simp [h2, h3]
theorem Pa_rch {n : Nat} {ps : List Pipe} {cs : List Int} : ∀ (k : Nat) (c : List Int), c.length = n → 0 < Pa n ps cs k (zeroL n) c → Rch n ps c ∧ c.sum = k
  | 0, c, hc, h => by
    have h' : 0 < if zeroL n = c then (1 : Int) else 0 := h
    split at h'
    · rename_i e
      rw [← e]
      exact ⟨.zero, sum_rep n⟩
    · omega
  | k + 1, c, hc, h => by
    obtain ⟨b, hb, hp⟩ := sumB_pos (fun b _ => by
      split
      · exact Pa_nn n ps cs k _ _
      · exact Int.le_refl _) h
    split at hp
    · rename_i hok
      obtain ⟨R, e⟩ := Pa_rch k (decL c b) (by rw [decL_len]; exact hc) hp
      unfold okD at hok
      rw [Bool.and_eq_true] at hok
      have := R.step hb hok.2
      rw [show (decL c b).set b (ik (decL c b) b + 1) = incL (decL c b) b from rfl, inc_dec (by omega)] at this
      rw [sum_dec (by omega)] at e
      exact ⟨this, by omega⟩
    · omega
theorem rch_Pa {n : Nat} {ps : List Pipe} {cs c : List Int} (R : Rch n ps c) : (∀ k, k < n → ik c k ≤ ik cs k) → ∃ m : Nat, c.sum = m ∧ 0 < Pa n ps cs m (zeroL n) c := by
  induction R with
  | zero => exact fun _ => ⟨0, sum_rep n, by show 0 < if zeroL n = List.replicate n 0 then (1 : Int) else 0; rw [if_pos (show zeroL n = List.replicate n 0 from rfl)]; omega⟩
  | @step c b R hb hc ih =>
    intro hle
    have hl := R.len
    have e : c.set b (ik c b + 1) = incL c b := rfl
    rw [e] at hle ⊢
    obtain ⟨m, e1, h1⟩ := ih fun k hk => by
      have := hle k hk
      rw [ik_incL (by omega)] at this
      split at this
      · rename_i q; subst q; omega
      · exact this
    refine ⟨m + 1, by rw [sum_inc (by omega)]; omega, ?_⟩
    refine Int.lt_of_lt_of_le h1 ?_
    have := sumB_ge (k := n) (f := fun b' => if okD ps cs (decL (incL c b) b') b' = true then Pa n ps cs m (zeroL n) (decL (incL c b) b') else 0) (fun b' _ => by
      split
      · exact Pa_nn n ps cs m _ _
      · exact Int.le_refl _) hb
    have hok : okD ps cs c b = true := by
      unfold okD
      have := hle b hb
      rw [ik_incL (by omega), if_pos rfl] at this
      rw [hc, Bool.and_true, Bool.not_eq_true', decide_eq_false_iff_not]
      omega
    simp only [dec_inc (c := c) (b := b) (by omega), hok, if_true] at this
    exact this
def unitL (n b : Nat) : List Int := incL (zeroL n) b
def firedT (n : Nat) (ps : List Pipe) (b : Nat) : List Pipe := withT ps (leftT ps (unitL n b))
def gW (n : Nat) (ps : List Pipe) (cs : List Int) : Nat → List Int → List Int
  | 0, _ => []
  | k + 1, c => match (List.range n).find? (okD ps cs c) with
    | some b => (b : Int) :: gW n ps cs k (incL c b)
    | none => []
theorem gW_succ {n : Nat} {ps : List Pipe} {cs c : List Int} {k b : Nat} (h : (List.range n).find? (okD ps cs c) = some b) : gW n ps cs (k + 1) c = (b : Int) :: gW n ps cs k (incL c b) := by
  show (match (List.range n).find? (okD ps cs c) with | some b => (b : Int) :: gW n ps cs k (incL c b) | none => []) = _
  rw [h]
theorem min_head {k : Nat} {ks : List Nat} (h : (k :: ks).Pairwise (· < ·)) {S : List D} : bMin1 [.lst (dN (k :: ks))] S = .ok (.int (k : Nat)) S := by
  rw [dN_up]
  unfold bMin1
  simp only [seqOf, intsOf_dI]
  show R.ok (D.int ((up ks).foldl (fun a y => if y < a then y else a) (k : Int))) S = _
  have hk : ∀ y ∈ up ks, ¬ y < (k : Int) := fun y hy => by
    obtain ⟨j, hj, rfl⟩ := List.mem_map.mp hy
    have := (List.pairwise_cons.mp h).1 j hj
    omega
  have : (up ks).foldl (fun a y => if y < a then y else a) (k : Int) = k := by
    generalize up ks = ys at hk
    induction ys with
    | nil => rfl
    | cons y ys ih =>
      rw [List.foldl_cons, if_neg (hk y (by simp))]
      exact ih fun z hz => hk z (by simp [hz])
  rw [this]
theorem lwg_ok {n : Nat} {ps : List Pipe} (F : FP n ps) {cs : List Int} (hc : COk n cs) (R : Rch n ps cs) : F_p_least_word [.tup (ps.map encP), .tup (dI cs)] [] = .ok (.tup (dI (gW n ps cs cs.sum.toNat (zeroL n)))) [] := by
  unfold F_p_least_word S_p_least_word
  rw [fn_ev 2 8 _ rfl]
  have hs := hc.sum
  have hn := F.n8
  obtain ⟨d, e1, B⟩ := mc_eq F hc.l (fun k hk => (hc.b k hk).1) (by omega)
  have hd := B.self F.ok R
  subst hd
  have hmk : ∀ (x2 x3 x4 x5 x6 x7 : Option D) (S : List D), lcS false (.its (ps.map encP)) [6] (.nm 6) J.tYes V1_p_least_word [some (.tup (ps.map encP)), some (.tup (dI d)), x2, x3, x4, x5, x6, x7] S = .ok (.lst (dI (marksT ps))) S := fun x2 x3 x4 x5 x6 x7 S => by
    rw [lc_true ps encP (fun p => D.int p.m) (smallL F.l) (is_its _ _) (fun p _ => ⟨_, rfl, rfl, by unfold V1_p_least_word; simp⟩)]
    simp [dI, marksT]
  simp [e1, hmk]
  obtain ⟨E', S', e, x5, x7, rfl, rfl⟩ := whileGo_inv (t := C5_p_least_word) (b := B4_p_least_word) (n := 2)
    (fun m E S => ∃ (c word : List Int) (x5 x7 : Option D), E = [some (.tup (ps.map encP)), some (.tup (dI d)), some (.tup (dI (leftT ps c))), some (.loc 0), some (.loc 1), x5, none, x7] ∧ S = [.lst (dI (subL n d c)), .lst (dI word)] ∧ WD n ps c word ∧ (∀ k, k < n → ik c k ≤ ik d k) ∧ m = (d.sum - c.sum).toNat ∧ word ++ gW n ps d (d.sum - c.sum).toNat c = gW n ps d d.sum.toNat (zeroL n))
    (fun E S => ∃ (x5 x7 : Option D), E = [some (.tup (ps.map encP)), some (.tup (dI d)), some (.tup (dI (leftT ps d))), some (.loc 0), some (.loc 1), x5, none, x7] ∧ S = [.lst (dI (subL n d d)), .lst (dI (gW n ps d d.sum.toNat (zeroL n)))]) (by
      rintro m E S ⟨c, word, x5, x7, rfl, rfl, W, hle, rfl, hg⟩
      have hcl := W.rch.len
      have hdl := R.len
      have htest : C5_p_least_word [some (.tup (ps.map encP)), some (.tup (dI d)), some (.tup (dI (leftT ps c))), some (.loc 0), some (.loc 1), x5, none, x7] [.lst (dI (subL n d c)), .lst (dI word)] = .ok ((List.map (fun x => x != 0) (subL n d c)).any id) [.lst (dI (subL n d c)), .lst (dI word)] := by
        unfold C5_p_least_word
        simp only [ev_tr, ev_args, ev_cons, ev_nil, ev_var0, ev_varS, bind_ok, kcons1, kcons2]
        rw [b_any (n := 0) rfl]
        rfl
      by_cases hcd : c = d
      · left
        subst hcd
        have hw0 : word = gW n ps c c.sum.toNat (zeroL n) := by
          rw [Int.sub_self] at hg
          simpa [gW] using hg
        refine ⟨?_, x5, x7, rfl, by rw [← hw0]⟩
        rw [htest]
        congr 1
        rw [List.any_eq_false]
        intro b hb
        obtain ⟨x, hx, rfl⟩ := List.mem_map.mp hb
        obtain ⟨k, hk, rfl⟩ := List.mem_map.mp hx
        simp
      · right
        have hex : ∃ k, k < n ∧ ik c k < ik d k := by
          apply Classical.byContradiction
          intro hno
          apply hcd
          exact ik_ext hcl hdl fun k hk => by
            have := hle k hk
            have : ¬ ik c k < ik d k := fun z => hno ⟨k, hk, z⟩
            omega
        obtain ⟨k0, hk0, hk1⟩ := hex
        let fits : List Nat := (List.range n).filter fun k : Nat => decide (ik (subL n d c) k ≠ 0) && canT ps (leftT ps c) k
        have hf : fits ≠ [] := fun hz => by
          apply hcd
          refine Best.uniq F.ok (cs := d) ⟨W.rch, hle, fun k hk hlt => ?_⟩ B
          have := List.filter_eq_nil_iff.mp hz k (List.mem_range.mpr hk)
          rw [Bool.and_eq_true, decide_eq_true_eq, subL_at hk] at this
          rw [← Bool.not_eq_true]
          exact fun z => this ⟨by omega, z⟩
        obtain ⟨b, hbm, hmin⟩ := min_dN hf [.lst (dI (subL n d c)), .lst (dI word)]
        obtain ⟨hb1, hb2⟩ := List.mem_filter.mp hbm
        have hfind : (List.range n).find? (okD ps d c) = some b := by
          have h1 : fits.head? = (List.range n).find? (okD ps d c) := by
            have hfl : fits = (List.range n).filter (okD ps d c) := List.filter_congr fun k hk => by
              unfold okD
              rw [subL_at (List.mem_range.mp hk)]
              congr 1
              rw [Bool.eq_iff_iff, Bool.not_eq_true', decide_eq_true_eq, decide_eq_false_iff_not]
              constructor <;> (intro z w; apply z; omega)
            rw [← List.head?_filter, hfl]
          rw [← h1]
          have h2 : fits.Pairwise (· < ·) := List.pairwise_lt_range.filter _
          match hfe : fits, hf, h2 with
          | k0 :: ks, _, h2 =>
            rw [min_head h2] at hmin
            injection hmin with h3
            injection h3 with h3
            rw [show b = k0 by omega]
            rfl
        have hb := List.mem_range.mp hb1
        rw [Bool.and_eq_true, decide_eq_true_eq, subL_at hb] at hb2
        have hlt : ik c b < ik d b := by have := hle b hb; omega
        have W2 := W.step F.ok hb hb2.2
        have hsum := sum_set (c := c) (b := b) (by omega) 1
        have hle2 : ∀ k, k < n → ik (c.set b (ik c b + 1)) k ≤ ik d k := fun k hk => by
          rw [ik_set (by omega)]
          split
          · rename_i q; subst q; omega
          · exact hle k hk
        have hsm := sum_mono (c := c.set b (ik c b + 1)) (d := d) (by simp; omega) fun k hk => hle2 k (by simp at hk; omega)
        have hg2 : (word ++ [(b : Int)]) ++ gW n ps d (d.sum - (c.set b (ik c b + 1)).sum).toNat (c.set b (ik c b + 1)) = gW n ps d d.sum.toNat (zeroL n) := by
          rw [← hg]
          have hmm : (d.sum - c.sum).toNat = (d.sum - (c.set b (ik c b + 1)).sum).toNat + 1 := by omega
          rw [hmm, gW_succ hfind, List.append_assoc]
          rfl
        have hlc : lcS false (.enum (.live 0 (dI (subL n d c)).length)) [5, 7] (.tp [.nm 5, .nm 7]) C2_p_least_word V3_p_least_word [some (.tup (ps.map encP)), some (.tup (dI d)), some (.tup (dI (leftT ps c))), some (.loc 0), some (.loc 1), x5, none, x7] [.lst (dI (subL n d c)), .lst (dI word)] = .ok (.lst (dN fits)) [.lst (dI (subL n d c)), .lst (dI word)] := by
          have hiS := live_enum (n := 0) (S := [.lst (dI (subL n d c)), .lst (dI word)]) (xs := subL n d c) rfl
          rw [subL_len] at hiS
          rw [lc_filt (List.range n) _ (fun k : Nat => decide (ik (subL n d c) k ≠ 0) && canT ps (leftT ps c) k) (fun k : Nat => D.int (k : Int)) (by simp [SL]; omega) hiS (fun k hk => ⟨_, rfl, by
            unfold C2_p_least_word
            by_cases z : ik (subL n d c) k = 0
            · simp [z]
            · simp [z, short_eq (k : Int) F.l (left_len ps c), short_false], fun _ => by
            unfold V3_p_least_word
            simp⟩)]
          rfl
        refine ⟨?_, [some (.tup (ps.map encP)), some (.tup (dI d)), some (.tup (dI (leftT ps (c.set b (ik c b + 1))))), some (.loc 0), some (.loc 1), some (.int (b : Nat)), none, x7], [.lst (dI (subL n d (c.set b (ik c b + 1)))), .lst (dI (word ++ [(b : Int)]))], _, _, (d.sum - (c.set b (ik c b + 1)).sum).toNat, .inl ?_, gc_same rfl, by omega, c.set b (ik c b + 1), word ++ [(b : Int)], _, x7, rfl, rfl, W2, hle2, rfl, hg2⟩
        · rw [htest]
          congr 1
          rw [List.any_eq_true]
          refine ⟨true, List.mem_map.mpr ⟨ik (subL n d c) k0, ?_, ?_⟩, rfl⟩
          · rw [subL_at hk0]
            exact List.mem_map.mpr ⟨k0, List.mem_range.mpr hk0, rfl⟩
          · rw [subL_at hk0]
            simp
            omega
        · unfold B4_p_least_word
          have hsub : (subL n d c).set b (ik (subL n d c) b - 1) = subL n d (c.set b (ik c b + 1)) := by
            refine ik_ext (n := n) (by simp [subL_len]) (subL_len _ _ _) fun k hk => ?_
            rw [ik_set (by rw [subL_len]; exact hb), subL_at hb, subL_at hk, subL_at hk, ik_set (by omega)]
            split
            · rename_i q; subst q; omega
            · rfl
          have hwl : word.length ≤ 1600 := by
            have h1 := W.len
            have h2 := sum_mono (c := c) (d := d) (by omega) fun k hk => hle k (by omega)
            omega
          have h2 : ixOf (dI (subL n d c)).length (b : Int) = some b := ix_nat (by simp [dI, subL_len]; omega)
          have h3 : ∀ v : Int, (dI (subL n d c)).set b (.int v) = dI ((subL n d c).set b v) := fun v => by simp [dI, List.map_set]
          have h4 : dI (word ++ [(b : Int)]) = dI word ++ [.int (b : Nat)] := by simp [dI]
          have h5 : (dI word).length < SL := by simp [dI, SL]; omega
          have hsrc : ∀ S : List D, S[0]? = some (.lst (dI (subL n d c))) → srcOf S (.loc 0) = some (.live 0 (dI (subL n d c)).length) := fun S hS => src_loc hS
          have hbeh := behind_eq (held := leftT ps c) (b : Int) F.l (left_len ps c)
          rw [← left_step F.ok hcl hb] at hbeh
          rw [h4]
          have hit : ∀ E : Env, E[3]? = some (some (.loc 0)) → J.iEnum (eVar 3) E [.lst (dI (subL n d c)), .lst (dI word)] = .ok (.enum (.live 0 (dI (subL n d c)).length)) [.lst (dI (subL n d c)), .lst (dI word)] := fun E hE => by
            have v : eVar 3 E [.lst (dI (subL n d c)), .lst (dI word)] = .ok (.loc 0) [.lst (dI (subL n d c)), .lst (dI word)] := by unfold eVar; rw [hE]
            unfold J.iEnum
            rw [v]
            simp only [bind_ok, hsrc [.lst (dI (subL n d c)), .lst (dI word)] rfl]
          simp only [ev_seq, ev_set, ev_args, ev_cons, ev_nil, ev_lc]
          rw [hit _ rfl, klc, hlc]
          simp only [bind_ok, kcons1, kcons2, ev_nil, hmin, toO_ok, kset, kseq_nx, List.set_cons_succ, List.set_cons_zero]
          simp [at_dI (show b < (subL n d c).length by rw [subL_len]; exact hb), h2, h3, hsub, h5, hbeh]) 1000000 (d.sum - (List.replicate n 0).sum).toNat [some (.tup (ps.map encP)), some (.tup (dI d)), some (.tup (dI (marksT ps))), some (.loc 0), some (.loc 1), none, none, none] [.lst (dI d), .lst []] (by rw [sum_rep]; omega)
      ⟨List.replicate n 0, [], none, none, by rw [left_zero], by
        rw [show subL n d (List.replicate n 0) = d from ik_ext (n := n) (subL_len _ _ _) hc.l fun k hk => by rw [subL_at hk, ik_rep]; omega]
        rfl, ⟨.zero, by rw [left_zero]; rfl, by rw [sum_rep]; rfl, by simp, by simp, fun k hk => by rw [ik_rep]; simp⟩, fun k hk => by rw [ik_rep]; exact (hc.b k hk).1, rfl, by rw [sum_rep, Int.sub_zero]; rfl⟩
  unfold whS
  simp only [List.length_cons, List.length_nil, List.length_append, List.append_assoc, List.cons_append, List.nil_append, Nat.reduceAdd]
  rw [e]
  simp [bTuple, seqOf]
def waysT (n : Nat) (ps : List Pipe) (cs : List Int) : Int := Pa n ps cs cs.sum.toNat (zeroL n) cs
theorem ways_eq {n : Nat} {ps : List Pipe} (h : FOk n ps) (F : FP n ps) {cs : List Int} (hn : n ≤ 5) (hC : COk n cs) (h3 : ∀ k, k < n → ik cs k ≤ 3) : F_p_ways [encF n ps, .tup (dI cs)] [] = .ok (.int (waysT n ps cs)) [] := by
  obtain ⟨e, hK⟩ := ways_ok h F hn hC h3
  rw [e, itW_val hK _ _ hC.l]
  rfl
theorem ways_nn (n : Nat) (ps : List Pipe) (cs : List Int) : 0 ≤ waysT n ps cs := Pa_nn _ _ _ _ _ _
theorem ways_pos {n : Nat} {ps : List Pipe} {cs : List Int} (hl : cs.length = n) : 0 < waysT n ps cs ↔ Rch n ps cs :=
  ⟨fun h => (Pa_rch _ _ hl h).1, fun R => by
    obtain ⟨m, e, h⟩ := rch_Pa R (fun _ _ => Int.le_refl _)
    unfold waysT
    rw [show cs.sum.toNat = m by omega]
    exact h⟩
theorem Rch.unit {n b : Nat} {ps : List Pipe} (hb : b < n) (hc : canT ps (marksT ps) b = true) : Rch n ps (unitL n b) := by
  show Rch n ps ((List.replicate n 0).set b (ik (List.replicate n 0) b + 1))
  refine Rch.step .zero hb ?_
  rw [show leftT ps (List.replicate n 0) = marksT ps from left_zero ps n]
  exact hc
def restT (n : Nat) (ps : List Pipe) (cs : List Int) (b : Nat) : Int := Pa n ps cs (cs.sum.toNat - 1) (unitL n b) cs
def fndT (n : Nat) (ps : List Pipe) (cs : List Int) (bs : List Nat) : Int := (bs.map fun b => if 0 < ik cs b then restT n ps cs b else 0).sum
def firstT (n : Nat) (ps : List Pipe) (cs : List Int) (bs : List Nat) : Option Nat := bs.find? fun b => decide (0 < ik cs b) && decide (0 < restT n ps cs b)
theorem sum_filter (f : Nat → Int) (p : Nat → Bool) : ∀ n : Nat, (((List.range n).filter p).map f).sum = sumB n fun b => if p b = true then f b else 0
  | 0 => rfl
  | n + 1 => by
    rw [List.range_succ, List.filter_append, List.map_append, List.sum_append, sum_filter f p n, sumB_succ]
    congr 1
    by_cases h : p n = true <;> simp [h]
def encO (cs : List Int) : Option Nat → D
  | none => .non
  | some b => .tup [.int (b : Nat), .tup (dI (decL cs b))]
@[simp] theorem encO_flat (cs : List Int) (o : Option Nat) : (encO cs o).flat = true := by
  cases o <;> simp [encO]
theorem wordg_ok {n : Nat} {ps : List Pipe} (h : FOk n ps) (F : FP n ps) {c : List Int} (hc : COk n c) (R : Rch n ps c) : F_p_word_for [encF n ps, .tup (dI c)] [] = .ok (.tup (dI (gW n ps c c.sum.toNat (zeroL n)))) [] := by
  unfold F_p_word_for S_p_word_for
  rw [fn_ev 2 2 _ rfl]
  simp [check_ok h, checkcounts_ok hc, lwg_ok F hc R]
end K11
set_option linter.all false
set_option maxRecDepth 100000
namespace K11
open J
/-! all words that keep the counts, letter by letter -/
def nxt (n : Nat) (ps : List Pipe) (cs c : List Int) : List Nat := (List.range n).filter (okD ps cs c)
abbrev Rw := List Int × List Int
def ext (n : Nat) (ps : List Pipe) (cs : List Int) (x : Rw) : List Rw := (nxt n ps cs x.2).map fun b : Nat => (x.1 ++ [(b : Int)], incL x.2 b)
def iterX (n : Nat) (ps : List Pipe) (cs : List Int) : Nat → List Rw → List Rw
  | 0, L => L
  | t + 1, L => iterX n ps cs t (L.flatMap (ext n ps cs))
theorem iterX_succ (n : Nat) (ps : List Pipe) (cs : List Int) : ∀ (t : Nat) (L : List Rw), iterX n ps cs (t + 1) L = (iterX n ps cs t L).flatMap (ext n ps cs)
  | 0, _ => rfl
  | t + 1, L => iterX_succ n ps cs t (L.flatMap (ext n ps cs))
def Wr (n : Nat) (ps : List Pipe) (cs : List Int) : Nat → List Int → List (List Int)
  | 0, _ => [[]]
  | t + 1, c => (nxt n ps cs c).flatMap fun b : Nat => (Wr n ps cs t (incL c b)).map ((b : Int) :: ·)
theorem words_eq (n : Nat) (ps : List Pipe) (cs : List Int) : ∀ (t : Nat) (L : List Rw), (iterX n ps cs t L).map (·.1) = L.flatMap fun x => (Wr n ps cs t x.2).map (x.1 ++ ·)
  | 0, L => by
    show L.map (·.1) = L.flatMap fun x => ([[]] : List (List Int)).map (x.1 ++ ·)
    induction L with
    | nil => rfl
    | cons x L ih => simp [List.flatMap_cons, ih]
  | t + 1, L => by
    show (iterX n ps cs t (L.flatMap (ext n ps cs))).map (·.1) = _
    rw [words_eq n ps cs t, List.flatMap_assoc]
    congr 1
    funext x
    show ((nxt n ps cs x.2).map fun b : Nat => ((x.1 ++ [(b : Int)], incL x.2 b) : Rw)).flatMap (fun x => (Wr n ps cs t x.2).map (x.1 ++ ·)) = ((nxt n ps cs x.2).flatMap fun b : Nat => (Wr n ps cs t (incL x.2 b)).map ((b : Int) :: ·)).map (x.1 ++ ·)
    rw [List.flatMap_map, List.map_flatMap]
    congr 1
    funext b
    rw [List.map_map]
    refine List.map_congr_left fun w _ => ?_
    simp
structure Bel (n : Nat) (cs c : List Int) (t : Nat) : Prop where
  l : c.length = n
  le : ∀ k, k < n → ik c k ≤ ik cs k
  s : c.sum + t = cs.sum
theorem sum_lt_of : ∀ {a b : List Int}, a.length = b.length → (∀ k, k < a.length → ik a k ≤ ik b k) → a.sum ≤ b.sum ∧ (a.sum = b.sum → a = b)
  | [], [], _, _ => by simp
  | x :: a, y :: b, h, hle => by
    have h0 : x ≤ y := hle 0 (by simp)
    obtain ⟨h1, h2⟩ := sum_lt_of (a := a) (b := b) (by simpa using h) fun k hk => by
      have := hle (k + 1) (by simp; omega)
      simpa [ik] using this
    simp only [List.sum_cons]
    refine ⟨by omega, fun e => ?_⟩
    have e1 : x = y := by omega
    rw [e1, h2 (by omega)]
  | [], _ :: _, h, _ => by simp at h
  | _ :: _, [], h, _ => by simp at h
theorem Bel.zero {n : Nat} {cs c : List Int} (hl : cs.length = n) (B : Bel n cs c 0) : c = cs :=
  (sum_lt_of (a := c) (b := cs) (by rw [B.l, hl]) fun k hk => B.le k (by rw [← B.l]; exact hk)).2 (by have := B.s; omega)
theorem okD_is {ps : List Pipe} {cs c : List Int} {b : Nat} (h : okD ps cs c b = true) : ik c b ≠ ik cs b ∧ canT ps (leftT ps c) b = true := by
  unfold okD at h
  simpa using h
theorem Bel.next {n : Nat} {ps : List Pipe} {cs c : List Int} {t b : Nat} (B : Bel n cs c (t + 1)) (hb : b < n) (h : okD ps cs c b = true) : Bel n cs (incL c b) t := by
  have hbl : b < c.length := by rw [B.l]; exact hb
  obtain ⟨h1, h2⟩ := okD_is h
  refine ⟨by rw [incL_len]; exact B.l, fun k hk => ?_, by rw [sum_inc hbl]; have := B.s; omega⟩
  rw [ik_incL hbl]
  have := B.le k hk
  split
  · rename_i e; subst e; omega
  · exact this
theorem nxt_mem {n : Nat} {ps : List Pipe} {cs c : List Int} {b : Nat} : b ∈ nxt n ps cs c ↔ b < n ∧ okD ps cs c b = true := by
  unfold nxt
  rw [List.mem_filter, List.mem_range]
theorem len_flat {α : Type} (f : Nat → List α) : ∀ (l : List Nat), ((l.flatMap f).length : Int) = (l.map fun b => ((f b).length : Int)).sum
  | [] => rfl
  | b :: l => by
    rw [List.flatMap_cons, List.length_append, List.map_cons, List.sum_cons, ← len_flat f l]
    exact Int.natCast_add _ _
theorem Wr_len {n : Nat} {ps : List Pipe} {cs : List Int} (hl : cs.length = n) : ∀ (t : Nat) (c : List Int), Bel n cs c t → ((Wr n ps cs t c).length : Int) = Pa n ps cs t c cs
  | 0, c, B => by
    rw [B.zero hl]
    show (1 : Int) = if cs = cs then 1 else 0
    rw [if_pos rfl]
  | t + 1, c, B => by
    rw [Pa_first t c cs B.l hl]
    show (((nxt n ps cs c).flatMap fun b : Nat => (Wr n ps cs t (incL c b)).map ((b : Int) :: ·)).length : Int) = _
    rw [len_flat, ← sum_filter]
    congr 1
    refine List.map_congr_left fun b hb => ?_
    obtain ⟨h1, h2⟩ := nxt_mem.mp hb
    rw [List.length_map]
    exact Wr_len hl t _ (B.next h1 h2)
theorem Wr_size {n : Nat} {ps : List Pipe} {cs : List Int} : ∀ (t : Nat) (c : List Int), ∀ w ∈ Wr n ps cs t c, w.length = t
  | 0, _, w, h => by
    have : w = [] := by simpa [Wr] using h
    rw [this]; rfl
  | t + 1, c, w, h => by
    obtain ⟨b, hb, hw⟩ := List.mem_flatMap.mp h
    obtain ⟨v, hv, rfl⟩ := List.mem_map.mp hw
    simp [Wr_size t _ v hv]
theorem find_filter {α : Type} (p : α → Bool) : ∀ (l : List α), l.find? p = (l.filter p).head?
  | [] => rfl
  | x :: l => by
    by_cases h : p x = true
    · rw [List.find?_cons_of_pos h, List.filter_cons_of_pos h]; rfl
    · rw [List.find?_cons_of_neg h, List.filter_cons_of_neg h, find_filter p l]
theorem fit_any {n : Nat} {ps : List Pipe} (hw : ∀ p ∈ ps, PWf n p) {cs c : List Int} {t : Nat} (R : Rch n ps cs) (Rc : Rch n ps c) (B : Bel n cs c (t + 1)) : ∃ b, (List.range n).find? (okD ps cs c) = some b := by
  cases h : (List.range n).find? (okD ps cs c) with
  | some b => exact ⟨b, rfl⟩
  | none =>
    have hno := List.find?_eq_none.mp h
    have B2 : Best n ps cs c := ⟨Rc, B.le, fun k hk hlt => by
      have := hno k (List.mem_range.mpr hk)
      unfold okD at this
      rw [Bool.not_eq_true, Bool.and_eq_false_iff] at this
      rcases this with z | z
      · rw [Bool.not_eq_false', decide_eq_true_eq] at z
        omega
      · exact z⟩
    have e := B2.self hw R
    have := B.s
    rw [e] at this
    omega
theorem Wr_first {n : Nat} {ps : List Pipe} (hw : ∀ p ∈ ps, PWf n p) {cs : List Int} (hl : cs.length = n) (R : Rch n ps cs) : ∀ (t : Nat) (c : List Int), Rch n ps c → Bel n cs c t → ∃ rest, Wr n ps cs t c = gW n ps cs t c :: rest ∧ ∀ w ∈ Wr n ps cs t c, D.lts (dI w) (dI (gW n ps cs t c)) = false
  | 0, c, _, _ => ⟨[], rfl, fun w h => by
    have : w = [] := by simpa [Wr] using h
    rw [this]; rfl⟩
  | t + 1, c, Rc, B => by
    obtain ⟨b, hb⟩ := fit_any hw R Rc B
    have hf := hb
    rw [find_filter] at hf
    have hm := List.mem_of_find?_eq_some hb
    have hbn := List.mem_range.mp hm
    have hok := List.find?_some hb
    obtain ⟨rs, hrs⟩ : ∃ rs, nxt n ps cs c = b :: rs := by
      unfold nxt
      cases hq : (List.range n).filter (okD ps cs c) with
      | nil => rw [hq] at hf; cases hf
      | cons x xs => rw [hq] at hf; cases hf; exact ⟨xs, rfl⟩
    have Rn : Rch n ps (incL c b) := Rc.step hbn (okD_is hok).2
    obtain ⟨rest, h1, h2⟩ := Wr_first hw hl R t (incL c b) Rn (B.next hbn hok)
    rw [gW_succ hb]
    have hsrt : (nxt n ps cs c).Pairwise (· < ·) := (List.pairwise_lt_range (n := n)).filter _
    refine ⟨rest.map ((b : Int) :: ·) ++ rs.flatMap fun b : Nat => (Wr n ps cs t (incL c b)).map ((b : Int) :: ·), ?_, fun w hw' => ?_⟩
    · show (nxt n ps cs c).flatMap _ = _
      rw [hrs, List.flatMap_cons, h1]
      rfl
    · obtain ⟨b', hb', hv0⟩ := List.mem_flatMap.mp hw'
      obtain ⟨v, hv, rfl⟩ := List.mem_map.mp hv0
      show (if D.eqB (.int (b' : Int)) (.int (b : Int)) = true then D.lts (dI v) (dI (gW n ps cs t (incL c b))) else D.lt (.int (b' : Int)) (.int (b : Int))) = false
      rw [hrs] at hb' hsrt
      rcases List.mem_cons.mp hb' with rfl | hb'
      · rw [if_pos (by simp [D.eqB])]
        exact h2 v hv
      · have := (List.pairwise_cons.mp hsrt).1 b' hb'
        rw [if_neg (by simp [D.eqB]; omega)]
        simp [D.lt]
        omega
end K11
set_option linter.all false
set_option maxRecDepth 100000
namespace K11
open J
def encR (ps : List Pipe) (x : Rw) : D := .tup [.tuk (dI x.1), .tup (dI (leftT ps x.2))]
theorem encR_flat (ps : List Pipe) (x : Rw) : (encR ps x).flat = true := by simp [encR, D.flat, D.flats]
structure RIw (n : Nat) (cs : List Int) (i : Nat) (x : Rw) : Prop where
  l : x.2.length = n
  len : x.1.length = i
  cnt : ∀ b, b < n → ((x.1.count (b : Int) : Nat) : Int) = ik x.2 b
  le : ∀ b, b < n → ik x.2 b ≤ ik cs b
theorem RIw.next {n : Nat} {ps : List Pipe} {cs : List Int} {i : Nat} {x : Rw} (R : RIw n cs i x) {b : Nat} (hb : b < n) (h : okD ps cs x.2 b = true) : RIw n cs (i + 1) (x.1 ++ [(b : Int)], incL x.2 b) := by
  have hbl : b < x.2.length := by rw [R.l]; exact hb
  obtain ⟨h1, h2⟩ := okD_is h
  refine ⟨by rw [incL_len]; exact R.l, by simp [R.len], fun k hk => ?_, fun k hk => ?_⟩
  · show (((x.1 ++ [(b : Int)]).count (k : Int) : Nat) : Int) = ik (incL x.2 b) k
    rw [ik_incL hbl, List.count_append]
    have := R.cnt k hk
    by_cases e : k = b
    · subst e
      rw [if_pos rfl]
      simp
      omega
    · rw [if_neg e]
      have : ([(b : Int)].count (k : Int)) = 0 := by
        rw [List.count_singleton]
        simp
        omega
      rw [this]
      simpa using R.cnt k hk
  · show ik (incL x.2 b) k ≤ ik cs k
    rw [ik_incL hbl]
    have := R.le k hk
    split
    · rename_i e; subst e; omega
    · exact this
def Fo (y : Option D) : Prop := y = none ∨ ∃ d, y = some d ∧ d.flat = true
theorem Fo.gone {y : Option D} (h : Fo y) (n : Nat) (S : List D) : goneF n S y = y := by
  rcases h with rfl | ⟨d, rfl, hd⟩
  · rfl
  · exact goneF_flat hd
theorem Fo.some {d : D} (h : d.flat = true) : Fo (some d) := .inr ⟨d, rfl, h⟩
theorem tuk_flat (xs : List Int) : (D.tuk (dI xs)).flat = true := flats_ints _
theorem tup_flat (xs : List Int) : (D.tup (dI xs)).flat = true := flats_ints _
def boxes (n : Nat) (ps : List Pipe) (cs : List Int) (x : Rw) (k : Nat) : List Rw := ((List.range k).filter (okD ps cs x.2)).map fun b : Nat => (x.1 ++ [(b : Int)], incL x.2 b)
theorem boxes_succ (n : Nat) (ps : List Pipe) (cs : List Int) (x : Rw) (k : Nat) : boxes n ps cs x (k + 1) = if okD ps cs x.2 k = true then boxes n ps cs x k ++ [(x.1 ++ [(k : Int)], incL x.2 k)] else boxes n ps cs x k := by
  unfold boxes
  rw [List.range_succ, List.filter_append, List.map_append]
  by_cases h : okD ps cs x.2 k = true
  · rw [if_pos h, List.filter_cons_of_pos h]; rfl
  · rw [if_neg h, List.filter_cons_of_neg h]; simp
theorem boxes_len (n : Nat) (ps : List Pipe) (cs : List Int) (x : Rw) (k : Nat) : (boxes n ps cs x k).length ≤ k := by
  unfold boxes
  rw [List.length_map]
  have := List.length_filter_le (okD ps cs x.2) (List.range k)
  simpa using this
theorem box_loop {n : Nat} {ps : List Pipe} (F : FP n ps) {cs : List Int} (hcs : cs.length = n) {i : Nat} {x : Rw} (R : RIw n cs i x) (hi : i ≤ 2000) (m : Int) (x3 x4 y8 : Option D) (h8 : Fo y8) (M : List Rw) (hM : M.length ≤ 10000) :
    ∃ z8, Fo z8 ∧ B2_p_law_words [some (encF n ps), some (.tup (dI cs)), some (.int m), x3, x4, some (.loc 0), some (.tuk (dI x.1)), some (.tup (dI (leftT ps x.2))), y8] [.lst (M.map (encR ps))] = .nx [some (encF n ps), some (.tup (dI cs)), some (.int m), x3, x4, some (.loc 0), some (.tuk (dI x.1)), some (.tup (dI (leftT ps x.2))), z8] [.lst ((M ++ ext n ps cs x).map (encR ps))] := by
  have hn8 := F.n8
  have hll : (leftT ps x.2).length = ps.length := left_len ps x.2
  have hfix : ∀ S, oIx (encF n ps) (.int 0) S = .ok (.int (n : Nat)) S := fun _ => rfl
  obtain ⟨E', S', e, z8, hz, rfl, rfl⟩ := for_rng (lo := 0) (n := n) (t := .nm 8) (b := B1_p_law_words) (E := [some (encF n ps), some (.tup (dI cs)), some (.int m), x3, x4, some (.loc 0), some (.tuk (dI x.1)), some (.tup (dI (leftT ps x.2))), y8]) (S := [.lst (M.map (encR ps))])
    (fun k E S => ∃ z8, Fo z8 ∧ E = [some (encF n ps), some (.tup (dI cs)), some (.int m), x3, x4, some (.loc 0), some (.tuk (dI x.1)), some (.tup (dI (leftT ps x.2))), z8] ∧ S = [.lst ((M ++ boxes n ps cs x k).map (encR ps))])
    ⟨y8, h8, rfl, by simp [boxes]⟩ (by
      rintro k E S hk ⟨z8, hz, rfl, rfl⟩
      have e0 : (0 : Int) + (k : Nat) = (k : Nat) := by omega
      rw [e0]
      have ec := can_eq (ps := ps) (held := leftT ps x.2) n (k : Nat) F.l hll
      have en := next_eq (ps := ps) (held := leftT ps x.2) n (k : Nat) F.l hll
      have hm : ∀ S, mCountK (.tuk (dI x.1)) [.int (k : Nat)] S = .ok (.int (x.1.count (k : Int) : Nat)) S := fun S => by
        simp only [mCountK, intsOf_dI]
      rw [R.cnt k hk] at hm
      have hck : (dI cs)[k]? = some (.int (ik cs k)) := at_dI (by omega)
      have hle := R.le k hk
      have hfl := tup_flat (leftT ps x.2)
      have ff := encF_flat n ps
      have hst : nextT ps (leftT ps x.2) k = leftT ps (incL x.2 k) := (left_step F.ok R.l hk).symm
      rw [hst] at en
      by_cases h1 : ik x.2 k < ik cs k
      · have hne : ik x.2 k ≠ ik cs k := by omega
        cases hc : canT ps (leftT ps x.2) (k : Nat) with
        | true =>
          rw [hc] at ec
          have hok : okD ps cs x.2 k = true := by
            unfold okD
            rw [hc]
            simpa using hne
          have hs : M.length + (boxes n ps cs x k).length < SL := by
            have := boxes_len n ps cs x k
            unfold SL
            omega
          have hwl : x.1.length + 1 ≤ SL := by rw [R.len]; unfold SL; omega
          have hnew : (M ++ boxes n ps cs x (k + 1)).map (encR ps) = (M ++ boxes n ps cs x k).map (encR ps) ++ [.tup [.tuk (dI (x.1 ++ [(k : Int)])), .tup (dI (leftT ps (incL x.2 k)))]] := by
            rw [boxes_succ, if_pos hok, ← List.append_assoc, List.map_append (l₁ := M ++ boxes n ps cs x k)]
            rfl
          have hadd : ∀ S, oAddK (.tuk (dI x.1)) (.tuk [.int (k : Nat)]) S = .ok (.tuk (dI (x.1 ++ [(k : Int)]))) S := fun S => by
            show (if (dI x.1).length + [D.int (k : Nat)].length ≤ SL then J.R.ok (D.tuk (dI x.1 ++ [D.int (k : Nat)])) S else J.R.bad) = _
            rw [if_pos (by simp [dI]; exact hwl)]
            simp [dI]
          have htd : ∀ S, bTupD [.int (k : Nat)] S = .ok (.tuk [.int (k : Nat)]) S := fun S => rfl
          refine turn_nx (S2 := [.lst ((M ++ boxes n ps cs x (k + 1)).map (encR ps))]) rfl ?_ rfl ⟨some (.int (k : Nat)), .some rfl, rfl, rfl⟩
          rw [hnew]
          clear hnew
          unfold B1_p_law_words
          generalize leftT ps (incL x.2 k) = LN at *
          generalize leftT ps x.2 = LT at *
          unfold encF at ec en ff ⊢
          simp [hm, hck, h1, ec, en, hs, hadd, htd]
        | false =>
          rw [hc] at ec
          have hok : ¬ okD ps cs x.2 k = true := by
            unfold okD
            rw [hc]
            simp
          refine turn_nx (S2 := [.lst ((M ++ boxes n ps cs x k).map (encR ps))]) rfl ?_ rfl ⟨some (.int (k : Nat)), .some rfl, rfl, by rw [boxes_succ, if_neg hok]⟩
          unfold B1_p_law_words
          generalize leftT ps x.2 = LT at *
          unfold encF at ec ff ⊢
          simp [hm, hck, h1, ec]
      · have hok : ¬ okD ps cs x.2 k = true := by
          unfold okD
          have : ik x.2 k = ik cs k := by omega
          rw [this]
          simp
        refine turn_nx (S2 := [.lst ((M ++ boxes n ps cs x k).map (encR ps))]) rfl ?_ rfl ⟨some (.int (k : Nat)), .some rfl, rfl, by rw [boxes_succ, if_neg hok]⟩
        unfold B1_p_law_words
        simp [hm, hck, h1])
  refine ⟨z8, hz, ?_⟩
  unfold B2_p_law_words
  have hr : iRng1 (eOp oIx (eVar 0) (eC (.int 0))) [some (encF n ps), some (.tup (dI cs)), some (.int m), x3, x4, some (.loc 0), some (.tuk (dI x.1)), some (.tup (dI (leftT ps x.2))), y8] [.lst (M.map (encR ps))] = .ok (.rng 0 n) [.lst (M.map (encR ps))] := by
    simp [hfix, krng1n (show n < 1000000 by omega)]
  rw [ev_for, hr]
  exact e
theorem row_loop {n : Nat} {ps : List Pipe} (F : FP n ps) {cs : List Int} (hcs : cs.length = n) {i : Nat} {L : List Rw} (R : ∀ x ∈ L, RIw n cs i x) (hi : i ≤ 2000) (hL : L.length ≤ 300) (m : Int) (x4 y6 y7 y8 : Option D) (h6 : Fo y6) (h7 : Fo y7) (h8 : Fo y8) :
    ∃ z6 z7 z8, Fo z6 ∧ Fo z7 ∧ Fo z8 ∧ forS (.its (L.map (encR ps))) (.tp [(.nm 6), (.nm 7)]) B2_p_law_words [some (encF n ps), some (.tup (dI cs)), some (.int m), some (.lst (L.map (encR ps))), x4, some (.loc 0), y6, y7, y8] [.lst []] = .nx [some (encF n ps), some (.tup (dI cs)), some (.int m), some (.lst (L.map (encR ps))), x4, some (.loc 0), z6, z7, z8] [.lst ((L.flatMap (ext n ps cs)).map (encR ps))] := by
  have hn8 := F.n8
  have hext : ∀ x : Rw, (ext n ps cs x).length ≤ 8 := fun x => by
    unfold ext nxt
    rw [List.length_map]
    have := List.length_filter_le (okD ps cs x.2) (List.range n)
    rw [List.length_range] at this
    omega
  have hfl : ∀ l : List Rw, (l.flatMap (ext n ps cs)).length ≤ 8 * l.length := fun l => by
    induction l with
    | nil => simp
    | cons x l ih =>
      rw [List.flatMap_cons, List.length_append, List.length_cons]
      have := hext x
      omega
  obtain ⟨E', S', e, z6, z7, z8, g6, g7, g8, rfl, rfl⟩ := for_its L (encR ps) (t := .tp [(.nm 6), (.nm 7)]) (b := B2_p_law_words) (E := [some (encF n ps), some (.tup (dI cs)), some (.int m), some (.lst (L.map (encR ps))), x4, some (.loc 0), y6, y7, y8]) (S := [.lst []])
    (fun k E S => ∃ z6 z7 z8, Fo z6 ∧ Fo z7 ∧ Fo z8 ∧ E = [some (encF n ps), some (.tup (dI cs)), some (.int m), some (.lst (L.map (encR ps))), x4, some (.loc 0), z6, z7, z8] ∧ S = [.lst (((L.take k).flatMap (ext n ps cs)).map (encR ps))])
    ⟨y6, y7, y8, h6, h7, h8, rfl, by simp⟩ (by
      rintro k E S hk ⟨z6, z7, z8, g6, g7, g8, rfl, rfl⟩
      obtain ⟨w8, hw8, eb⟩ := box_loop F hcs (R _ (List.getElem_mem hk)) hi m (some (.lst (L.map (encR ps)))) x4 z8 g8 ((L.take k).flatMap (ext n ps cs)) (by
        have := hfl (L.take k)
        rw [List.length_take] at this
        omega)
      refine turn_nx rfl eb rfl ⟨_, _, w8, .some (tuk_flat _), .some (tup_flat _), hw8, rfl, ?_⟩
      rw [List.take_succ_eq_append_getElem hk, List.flatMap_append, List.flatMap_cons, List.flatMap_nil, List.append_nil])
  refine ⟨z6, z7, z8, g6, g7, g8, ?_⟩
  rw [List.take_length] at e
  exact e
end K11
set_option linter.all false
set_option maxRecDepth 100000
namespace K11
open J
def TurnFO (t : Tg) (b : MS) (n : Nat) (d : D) (E : Env) (S : List D) (Q : Env → List D → Prop) (P : O → Prop) : Prop :=
  TurnF t b n d E S Q ∨ ∃ E1, t.bind d E = some E1 ∧ (b E1 S).out = true ∧ P (b E1 S)
theorem forGoF_out {src : Src} {t : Tg} {b : MS} {n : Nat} (ds : List D) (I : Nat → Env → List D → Prop) (P : O → Prop)
    (hi : ∀ i E S, I i E S → src.Is S ds)
    (hs : ∀ i d E S, I i E S → ds[i]? = some d → TurnFO t b n d E S (I (i + 1)) P) :
    ∀ (k i : Nat) (E : Env) (S : List D), i + k = ds.length → I i E S → (∃ E' S', forGoF src t b n k i E S = .nx E' S' ∧ I ds.length E' S') ∨ ((forGoF src t b n k i E S).out = true ∧ P (forGoF src t b n k i E S)) := by
  intro k
  induction k with
  | zero =>
    intro i E S hk h
    have hik : i = ds.length := by omega
    subst hik
    refine .inl ⟨E, S, ?_, h⟩
    unfold forGoF
    rw [if_pos (hi _ _ _ h).alive]
  | succ k ih =>
    intro i E S hk h
    have hlt : i < ds.length := by omega
    unfold forGoF
    rw [if_pos (hi _ _ _ h).alive, (hi _ _ _ h).at_ i hlt]
    rcases hs i ds[i] E S h (by simp [hlt]) with ⟨E1, E2, S2, E3, S3, h1, h2, h3, h4⟩ | ⟨E1, h1, h2, h3⟩
    · have h5 := ih (i + 1) E3 S3 (by omega) h4
      simp only [hlt, List.getElem?_eq_getElem, h1]
      rcases h2 with h2 | h2 <;> simp only [h2, h3] <;> exact h5
    · right
      simp only [hlt, List.getElem?_eq_getElem, h1]
      cases hb : b E1 S with
      | rt v S2 => rw [hb] at h2 h3; exact ⟨rfl, h3⟩
      | exc c fs E2 S2 => rw [hb] at h2 h3; exact ⟨rfl, h3⟩
      | nx E2 S2 => rw [hb] at h2; cases h2
      | ct E2 S2 => rw [hb] at h2; cases h2
      | bk E2 S2 => rw [hb] at h2; cases h2
      | bad => rw [hb] at h2; cases h2
theorem rng_FO {lo : Int} {n : Nat} {t : Tg} {b : MS} {E : Env} {S : List D} (I : Nat → Env → List D → Prop) (P : O → Prop) (h0 : I 0 E S)
    (hs : ∀ i E S', i < n → I i E S' → TurnFO t b S.length (.int (lo + (i : Nat))) E S' (I (i + 1)) P) : (∃ E' S', forSF (Src.rng lo n) t b E S = .nx E' S' ∧ I n E' S') ∨ ((forSF (Src.rng lo n) t b E S).out = true ∧ P (forSF (Src.rng lo n) t b E S)) := by
  have := forGoF_out (src := Src.rng lo n) (t := t) (b := b) (n := S.length) ((List.range n).map fun i => D.int (lo + (i : Nat))) I P (fun _ _ S _ => is_rng lo n S) (fun i d E S' h hd => by
    obtain ⟨hi, rfl⟩ := List.getElem?_eq_some_iff.mp hd
    simp only [List.getElem_map, List.getElem_range]
    exact hs i E S' (by simpa using hi) h) n 0 E S (by simp) h0
  rw [show ((List.range n).map fun i => D.int (lo + (i : Nat))).length = n by simp] at this
  exact this
theorem rows_fl (ps : List Pipe) (L : List Rw) : (D.lst (L.map (encR ps))).flat = true := flats_map _ (encR_flat ps) L
theorem turn_words {n : Nat} {ps : List Pipe} (F : FP n ps) {cs : List Int} (hcs : cs.length = n) {i : Nat} {L : List Rw} (R : ∀ x ∈ L, RIw n cs i x) (hi : i ≤ 2000) (hL : L.length ≤ 300) (x4 y5 y6 y7 y8 : Option D) (h4 : Fo x4) (h6 : Fo y6) (h7 : Fo y7) (h8 : Fo y8) :
    (((L.flatMap (ext n ps cs)).length ≤ 300 ∧ ∃ E2 S2 z5 z6 z7 z8, B3_p_law_words [some (encF n ps), some (.tup (dI cs)), some (.int 300), some (.lst (L.map (encR ps))), x4, y5, y6, y7, y8] [] = .nx E2 S2 ∧ Fo z5 ∧ Fo z6 ∧ Fo z7 ∧ Fo z8 ∧ gcF 0 E2 S2 = some ([some (encF n ps), some (.tup (dI cs)), some (.int 300), some (.lst ((L.flatMap (ext n ps cs)).map (encR ps))), x4, z5, z6, z7, z8], [])) ∨
      ∃ S2, B3_p_law_words [some (encF n ps), some (.tup (dI cs)), some (.int 300), some (.lst (L.map (encR ps))), x4, y5, y6, y7, y8] [] = .rt .non S2) := by
  obtain ⟨z6, z7, z8, g6, g7, g8, e⟩ := row_loop F hcs R hi hL 300 x4 y6 y7 y8 h6 h7 h8
  have hrf := rows_fl ps (L.flatMap (ext n ps cs))
  generalize hLL : (L.flatMap (ext n ps cs)) = LL at *
  unfold B3_p_law_words
  by_cases hz : LL.length ≤ 300
  · left
    have hz' : ¬ (300 : Int) < ((LL.length : Nat) : Int) := by omega
    refine ⟨hz, [some (encF n ps), some (.tup (dI cs)), some (.int 300), some (.loc 0), x4, some (.loc 0), z6, z7, z8], [.lst (LL.map (encR ps))], some (.lst (LL.map (encR ps))), z6, z7, z8, ?_, .some hrf, g6, g7, g8, ?_⟩
    · simp only [ev_seq, ev_set, ev_args, ev_nil, bind_ok]
      have : eArgs bLstL aNil [some (encF n ps), some (.tup (dI cs)), some (.int 300), some (.lst (L.map (encR ps))), x4, y5, y6, y7, y8] [] = .ok (.loc 0) [.lst []] := by simp
      simp [e, hz']
    · unfold gcF
      rw [if_neg (by simp), if_pos ⟨Nat.zero_le _, rfl⟩]
      have g1 := goneF_new (n := 0) (k := 0) (S := [.lst (LL.map (encR ps))]) (o := .lst (LL.map (encR ps))) (Nat.le_refl 0) rfl hrf
      simp only [List.map_cons, List.map_nil, g1, h4.gone, g6.gone, g7.gone, g8.gone, goneF_flat (encF_flat n ps), goneF_flat (tup_flat cs), goneF_flat (show (D.int 300).flat = true from rfl), List.take_zero]
  · right
    have hz' : (300 : Int) < ((LL.length : Nat) : Int) := by omega
    refine ⟨[.lst (LL.map (encR ps))], ?_⟩
    simp only [ev_seq, ev_set, ev_args, ev_nil, bind_ok]
    simp [e, hz']
theorem RIw.ext {n : Nat} {ps : List Pipe} {cs : List Int} {i : Nat} {L : List Rw} (R : ∀ x ∈ L, RIw n cs i x) : ∀ x ∈ L.flatMap (ext n ps cs), RIw n cs (i + 1) x := fun x hx => by
  obtain ⟨y, hy, hx⟩ := List.mem_flatMap.mp hx
  obtain ⟨b, hb, rfl⟩ := List.mem_map.mp hx
  obtain ⟨h1, h2⟩ := nxt_mem.mp hb
  exact (R y hy).next h1 h2
theorem iterX_words (n : Nat) (ps : List Pipe) (cs : List Int) (t : Nat) : (iterX n ps cs t [([], zeroL n)]).map (·.1) = Wr n ps cs t (zeroL n) := by
  rw [words_eq]
  simp
theorem lawwords_ok {n : Nat} {ps : List Pipe} (F : FP n ps) {cs : List Int} (hC : COk n cs) :
    F_p_law_words [encF n ps, .tup (dI cs), .int 300] [] = .ok .non [] ∨ (F_p_law_words [encF n ps, .tup (dI cs), .int 300] [] = .ok (.lst ((Wr n ps cs cs.sum.toNat (zeroL n)).map fun w => .tuk (dI w))) [] ∧ (Wr n ps cs cs.sum.toNat (zeroL n)).length ≤ 300) := by
  have hs := hC.sum
  have hn8 := F.n8
  have hcs := hC.l
  have hsm := some_eq n (ps := ps) F.l
  have hz : leftT ps (zeroL n) = marksT ps := left_zero ps n
  have ff := encF_flat n ps
  have hT : ((cs.sum.toNat : Nat) : Int) = cs.sum := by omega
  have A1 : sSet 3 (eArgs bLst (aCons (eArgs bTup (aCons (eArgs bTupD aNil) (aCons (eArgs (callF F_p_law_some) (aCons (eVar 0) aNil)) aNil))) aNil)) [some (encF n ps), some (.tup (dI cs)), some (.int 300), none, none, none, none, none, none] [] = .nx [some (encF n ps), some (.tup (dI cs)), some (.int 300), some (.lst ([(([], zeroL n) : Rw)].map (encR ps))), none, none, none, none, none] [] := by
    have htd : ∀ S, bTupD [] S = .ok (.tuk []) S := fun S => rfl
    unfold encF at hsm ff ⊢
    have fm := tup_flat (marksT ps)
    simp [hsm, htd, encR, hz]
    rfl
  have hloop := rng_FO (lo := 0) (n := cs.sum.toNat) (t := .nm 4) (b := B3_p_law_words) (E := [some (encF n ps), some (.tup (dI cs)), some (.int 300), some (.lst ([(([], zeroL n) : Rw)].map (encR ps))), none, none, none, none, none]) (S := [])
    (fun i E S => ∃ x4 y5 y6 y7 y8, Fo x4 ∧ Fo y6 ∧ Fo y7 ∧ Fo y8 ∧ E = [some (encF n ps), some (.tup (dI cs)), some (.int 300), some (.lst ((iterX n ps cs i [([], zeroL n)]).map (encR ps))), x4, y5, y6, y7, y8] ∧ S = [] ∧ (iterX n ps cs i [([], zeroL n)]).length ≤ 300 ∧ ∀ x ∈ iterX n ps cs i [([], zeroL n)], RIw n cs i x)
    (fun o => ∃ S2, o = .rt .non S2)
    ⟨none, none, none, none, none, .inl rfl, .inl rfl, .inl rfl, .inl rfl, rfl, rfl, by simp [iterX], fun x hx => by
      have : x = ([], zeroL n) := by simpa [iterX] using hx
      rw [this]
      refine ⟨by simp [zeroL], rfl, fun b hb => ?_, fun b hb => ?_⟩
      · show ((([] : List Int).count (b : Int) : Nat) : Int) = ik (zeroL n) b
        rw [show ik (zeroL n) b = 0 from ik_rep n b]
        rfl
      · show ik (zeroL n) b ≤ ik cs b
        rw [show ik (zeroL n) b = 0 from ik_rep n b]
        exact (hC.b b hb).1⟩ (by
      rintro i E S hi ⟨x4, y5, y6, y7, y8, h4, h6, h7, h8, rfl, rfl, hL, R⟩
      rw [iterX_succ]
      rcases turn_words F hcs R (by omega) hL (some (.int (0 + (i : Nat)))) y5 y6 y7 y8 (.some rfl) h6 h7 h8 with ⟨hz, E2, S2, z5, z6, z7, z8, e, g5, g6, g7, g8, hgc⟩ | ⟨S2, e⟩
      · exact .inl ⟨_, E2, S2, _, _, rfl, .inl e, hgc, _, z5, z6, z7, z8, .some rfl, g6, g7, g8, rfl, rfl, hz, RIw.ext R⟩
      · exact .inr ⟨[some (encF n ps), some (.tup (dI cs)), some (.int 300), some (.lst ((iterX n ps cs i [([], zeroL n)]).map (encR ps))), some (.int (0 + (i : Nat))), y5, y6, y7, y8], rfl, (congrArg O.out e).trans rfl, S2, e⟩)
  unfold F_p_law_words S_p_law_words
  rw [fn_ev 3 9 _ rfl]
  have hE : ([encF n ps, .tup (dI cs), .int 300].map some ++ List.replicate (9 - 3) none : Env) = [some (encF n ps), some (.tup (dI cs)), some (.int 300), none, none, none, none, none, none] := rfl
  rw [hE, ev_seq, A1, kseq_nx, ev_seq, ev_forF]
  have hr : iRng1 (eArgs bSum (aCons (eVar 1) aNil)) [some (encF n ps), some (.tup (dI cs)), some (.int 300), some (.lst ([(([], zeroL n) : Rw)].map (encR ps))), none, none, none, none, none] [] = .ok (.rng 0 cs.sum.toNat) [] := by
    have : ∀ S, kRng1 (.int cs.sum) S = .ok (.rng 0 cs.sum.toNat) S := fun S => krng1 (by omega) (by omega)
    simp [this]
  rw [hr, kforF]
  rcases hloop with ⟨E', S', e, x4, y5, y6, y7, y8, h4, h6, h7, h8, rfl, rfl, hL, R⟩ | ⟨_, S2, e⟩
  · right
    rw [e, kseq_nx]
    rw [← iterX_words n ps cs]
    rw [List.length_map]
    refine ⟨?_, hL⟩
    generalize iterX n ps cs cs.sum.toNat [([], zeroL n)] = L at *
    have hl : lcS false (.its (L.map (encR ps))) [6, 7] (.tp [(.nm 6), (.nm 7)]) J.tYes V4_p_law_words [some (encF n ps), some (.tup (dI cs)), some (.int 300), some (.lst (L.map (encR ps))), x4, y5, y6, y7, y8] [] = .ok (.lst (L.map fun x => .tuk (dI x.1))) [] := by
      rw [lc_true L (encR ps) (fun x => D.tuk (dI x.1)) (by unfold SL; omega) (is_its _ _) (fun x _ => ⟨_, rfl, rfl, by unfold V4_p_law_words; simp⟩)]
    have hfl : D.flats (L.map fun x => D.tuk (dI x.1)) = true := flats_map _ (fun x => tuk_flat x.1) L
    rw [List.map_map]
    show kFn 0 (sRet _ _ _) = _
    have hfl' : (D.lst (L.map fun x => D.tuk (dI x.1))).flat = true := hfl
    simp [hl, hfl']
  · left
    rw [e]
    simp
end K11
set_option linter.all false
set_option maxRecDepth 100000
namespace K11
open J
theorem lenKU (ds : List D) (S : List D) : bLenK [.tuk ds] S = .ok (.int ds.length) S := rfl
theorem lenKT (ds : List D) (S : List D) : bLenK [.tup ds] S = .ok (.int ds.length) S := rfl
theorem alike_int (k : Nat) (i : Int) : F_p_law_alike (k + 1) [.int i, .int i] [] = .ok (.bl true) [] := by
  show fnF 2 3 (S_p_law_alike (F_p_law_alike k)) [.int i, .int i] [] = _
  unfold S_p_law_alike
  rw [fn_ev 2 3 _ rfl]
  have h1 : ∀ S, oIsi ["tuple", "list"] (.int i) S = .ok (.bl false) S := fun S => by simp [oIsi, tyOf, isiB]
  have h2 : ∀ S, oIsi ["str"] (.int i) S = .ok (.bl false) S := fun S => by simp [oIsi, tyOf, isiB]
  have h3 : ∀ S, oIsi ["int"] (.int i) S = .ok (.bl true) S := fun S => by simp [oIsi, tyOf, isiB]
  have h4 : ∀ S, oIsi ["bool"] (.int i) S = .ok (.bl false) S := fun S => by simp [oIsi, tyOf, isiB]
  have h5 : ∀ S, oIsN (.int i) S = .ok (.bl false) S := fun S => rfl
  simp [h1, h2, h3, h4, h5, o_eqBB]
theorem alike_non : F_p_law_alike 8 [.non, .non] [] = .ok (.bl true) [] := rfl
theorem alike_seq {k : Nat} (ds : List D) (x y : D) (x2 : Option D) (hl : ds.length < 1000000) (hf : ∀ d ∈ ds, d.flat = true) (hr : ∀ d ∈ ds, F_p_law_alike k [d, d] [] = .ok (.bl true) []) (hx : ∀ (i : Nat) (h : i < ds.length) (S : List D), oIxK x (.int (i : Nat)) S = .ok ds[i] S) (hy : ∀ (i : Nat) (h : i < ds.length) (S : List D), oIxK y (.int (i : Nat)) S = .ok ds[i] S) (S : List D) :
    lcS false (.rng 0 ds.length) [2] (.nm 2) (C1_p_law_alike (F_p_law_alike k)) (V2_p_law_alike (F_p_law_alike k)) [some x, some y, x2] S = .ok (.lst []) S := by
  rw [lc_filt (List.range ds.length) _ (fun _ => false) (fun k : Nat => D.int (k : Int)) (by simp [SL]; omega) (is_rng 0 ds.length _) (fun i hi => ⟨_, rfl, by
    have hi' : i < ds.length := by simpa using hi
    have m := List.getElem_mem hi'
    have fl := hf _ m
    have r := hr _ m
    unfold C1_p_law_alike
    simp only [ev_tnot, ev_tr, ev_args, ev_cons, ev_nil, ev_op, wipe_cons, wipe_nil, List.set_cons_succ, List.set_cons_zero, ev_var0, ev_varS, bind_ok, kop1, kop2, Int.zero_add, hx i hi', hy i hi', kcons1, kcons2]
    rw [call0 _ (by simp [fl]), r, kc0 rfl]
    rfl, fun z => by cases z⟩)]
  rw [List.filter_eq_nil_iff.mpr fun k _ => by simp]
  rfl
theorem alike_word (xs : List Int) (hl : xs.length < 100000) : F_p_law_alike 8 [.tup (dI xs), .tuk (dI xs)] [] = .ok (.bl true) [] := by
  show fnF 2 3 (S_p_law_alike (F_p_law_alike 7)) [.tup (dI xs), .tuk (dI xs)] [] = _
  unfold S_p_law_alike
  rw [fn_ev 2 3 _ rfl]
  have h1 : ∀ S, oIsi ["tuple", "list"] (.tuk (dI xs)) S = .ok (.bl true) S := fun S => by simp [oIsi, tyOf, isiB]
  have h2 : ∀ S, oIsi ["list"] (.tuk (dI xs)) S = .ok (.bl false) S := fun S => by simp [oIsi, tyOf, isiB]
  have h3 : ∀ S, oIsi ["tuple", "list"] (.tup (dI xs)) S = .ok (.bl true) S := fun S => by simp [oIsi, tyOf, isiB]
  have h4 : ∀ S, oIsi ["list"] (.tup (dI xs)) S = .ok (.bl false) S := fun S => by simp [oIsi, tyOf, isiB]
  have hd : (dI xs).length = xs.length := by simp [dI]
  have hL := fun S => alike_seq (k := 7) (dI xs) (.tup (dI xs)) (.tuk (dI xs)) none (by omega) (fun d hd => by
    obtain ⟨i, _, rfl⟩ := List.mem_map.mp hd
    rfl) (fun d hd => by
    obtain ⟨i, _, rfl⟩ := List.mem_map.mp hd
    exact alike_int 6 i) (fun i h S => by
      show oIx (.tup (dI xs)) (.int (i : Nat)) S = _
      simp [h]) (fun i h S => by
      show (match atOf (dI xs) (i : Int) with | some d => J.R.ok d S | none => .bad) = _
      rw [atOf_nat (List.getElem?_eq_getElem h)]) S
  have kr : ∀ S, kRng1 (.int ((dI xs).length : Nat)) S = .ok (.rng 0 (dI xs).length) S := fun S => krng1n (by omega)
  simp [h1, h2, h3, h4, lenKU, lenKT, kr, hL, o_eq00, o_eqBB, -ev_if]
/-! the least of the words -/
theorem unTuks_of : ∀ L : List (List Int), unTuks (L.map fun w => D.tuk (dI w)) = some (L.map fun w => D.tup (dI w))
  | [] => rfl
  | w :: L => by
    show (unTuks (L.map fun w => D.tuk (dI w))).map (D.tup (dI w) :: ·) = _
    rw [unTuks_of L]
    rfl
theorem ord_w (w : List Int) : ordOk (.tup (dI w)) = true := by
  have h1 : D.cmpbs (dI w) = true := cmpbs_map D.int (fun _ => rfl) w
  have h2 := depths_map D.int 0 (fun _ => Nat.le_refl _) w
  unfold ordOk
  have e1 : (D.tup (dI w)).cmpb = true := h1
  have e2 : (D.tup (dI w)).depth ≤ 60 := by
    show D.depths (dI w) + 1 ≤ 60
    unfold dI
    omega
  rw [e1]
  simpa using e2
theorem shp_w : ∀ a b : List Int, a.length = b.length → D.shps (dI a) (dI b) = true
  | [], [], _ => rfl
  | x :: a, y :: b, h => by
    show (true && D.shps (dI a) (dI b)) = true
    rw [shp_w a b (by simpa using h)]
    rfl
  | [], _ :: _, h => by simp at h
  | _ :: _, [], h => by simp at h
theorem min_words {g : List Int} {rest : List (List Int)} (hs : ∀ w ∈ g :: rest, w.length = g.length) (hm : ∀ w ∈ g :: rest, D.lts (dI w) (dI g) = false) (S : List D) : bMinU [.lst ((g :: rest).map fun w => D.tuk (dI w))] S = .ok (.tuk (dI g)) S := by
  unfold bMinU
  simp only [lstAny]
  rw [unTuks_of]
  have ok : okMin (D.tup (dI g)) (rest.map fun w => D.tup (dI w)) = true := by
    have all : ∀ d ∈ (D.tup (dI g)) :: (rest.map fun w => D.tup (dI w)), ∃ w : List Int, d = .tup (dI w) ∧ w.length = g.length := fun d hd => by
      rcases List.mem_cons.mp hd with rfl | hd
      · exact ⟨g, rfl, rfl⟩
      · obtain ⟨w, hw, rfl⟩ := List.mem_map.mp hd
        exact ⟨w, rfl, hs w (List.mem_cons_of_mem _ hw)⟩
    unfold okMin
    simp only [Bool.and_eq_true, List.all_eq_true]
    refine ⟨fun d hd => ?_, fun d hd => ?_⟩
    · obtain ⟨w, rfl, _⟩ := all d hd
      exact ord_w w
    · obtain ⟨w, rfl, e⟩ := all d hd
      exact shp_w g w e.symm
  have mn : minT (D.tup (dI g)) (rest.map fun w => D.tup (dI w)) = .tup (dI g) := by
    unfold minT
    have : ∀ l : List (List Int), (∀ w ∈ l, w ∈ g :: rest) → (l.map fun w => D.tup (dI w)).foldl (fun a y => if D.lt y a = true then y else a) (D.tup (dI g)) = .tup (dI g) := fun l => by
      induction l with
      | nil => intro _; rfl
      | cons w l ih =>
        intro h
        rw [List.map_cons, List.foldl_cons, if_neg (by
          show ¬ D.lts (dI w) (dI g) = true
          rw [hm w (h w List.mem_cons_self)]
          exact Bool.false_ne_true)]
        exact ih fun w hw => h w (List.mem_cons_of_mem _ hw)
    exact this rest fun w hw => List.mem_cons_of_mem _ hw
  simp only [List.map_cons]
  rw [if_pos ok, mn]
  rfl
theorem ne_words (L : List (List Int)) (S : List D) : oNeU (.lst (L.map fun w => D.tuk (dI w))) (.lst []) S = .ok (.bl (!L.isEmpty)) S := by
  unfold oNeU
  simp only [unTuks_of]
  have hc : cmpOk (.lst (L.map fun w => D.tup (dI w))) = true := by
    have h1 : D.cmpb (.lst (L.map fun w => D.tup (dI w))) = true := cmpbs_map (fun w : List Int => D.tup (dI w)) (fun w => cmpbs_map D.int (fun _ => rfl) w) L
    have h2 : D.depth (.lst (L.map fun w => D.tup (dI w))) ≤ 2 := by
      have := depths_map (fun w : List Int => D.tup (dI w)) 1 (fun w => by
        have := depths_map D.int 0 (fun _ => Nat.le_refl _) w
        show D.depths (dI w) + 1 ≤ 1
        unfold dI
        omega) L
      show D.depths (L.map fun w => D.tup (dI w)) + 1 ≤ 2
      omega
    simp [cmpOk, h1]
    omega
  rw [if_pos hc]
  cases L <;> rfl
theorem isn_lst (ds : List D) (S : List D) : oIsN (.lst ds) S = .ok (.bl false) S := rfl
theorem isn_non (S : List D) : oIsN .non S = .ok (.bl true) S := rfl
end K11
set_option linter.all false
set_option maxRecDepth 100000
namespace K11
open J
theorem law_true (ns : List Int) (h : ns.length ≤ 63) : ∃ S, F_p_law [.rdl (ns.map D.int)] [] = .ok (.bl true) S := by
  refine ⟨[], ?_⟩
  unfold F_p_law S_p_law
  rw [fn_ev 1 5 _ rfl]
  let r0 : Row := ⟨ns, 0, 9811, 0⟩
  have h0 : D.lst [.rdl (ns.map D.int), .int 0, .int 9811, .int 0] = encRow r0 := rfl
  obtain ⟨n1', ps1', r1, e1, a1, a2, a3, a4, q1⟩ := any_ok r0 (by simp [r0])
  obtain ⟨n1, rfl⟩ := Int.eq_ofNat_of_zero_le (show 0 ≤ n1' by omega)
  obtain ⟨n2, ps2, r2, e2, b1, b2, b3, b4, q2⟩ := live_ok r1 q1
  obtain ⟨d, r3, hd, e3, q3⟩ := pick_ok r2 [encF n1 ps1', encF n2 ps2] (by simp) q2 (by simp) (by simp)
  have hq : ∃ (n : Nat) (q : List Pipe), d = encF n q ∧ QOk n q 40000 := by
    simp at hd
    rcases hd with rfl | rfl
    · exact ⟨n1, ps1', rfl, by omega, by omega, a3, fun p hp => (a4 p hp).le (by omega) (by omega)⟩
    · exact ⟨n2, ps2, rfl, b1, b2, b3, b4⟩
  obtain ⟨n, q, rfl, hQ⟩ := hq
  have hF := hQ.f (by omega)
  have F := hQ.fp
  have hw := F.ok
  have hn8 := F.n8
  have hn1 := hQ.n1
  have hn5 := hQ.n5
  have hl6 := hQ.l
  obtain ⟨cs, r4, e4, hC, v1, q4⟩ := lcounts_ok (ps := q) (m := 3) hn8 (by omega) r3 q3
  have e4' : F_p_law_counts [.loc 0, encF n q, .int 3] [encRow r3] = .ok (.tup (dI cs)) [encRow r4] := e4
  have h3 : ∀ k, k < n → ik cs k ≤ 3 := fun k hk => v1 _ (by have := hC.l; unfold ik; rw [List.getD_eq_getElem?_getD, List.getElem?_eq_getElem (by omega)]; exact List.getElem_mem _)
  have hl := hC.l
  have hs0 := hC.sum
  have e5 := ways_eq hF F hn5 hC h3
  obtain ⟨d, e7, B⟩ := md_ok hF F hC
  have e8 := cando_eq hF e7
  have hpos := ways_pos (n := n) (ps := q) hl
  have hnn := ways_nn n q cs
  have f1 := encF_flat n1 ps1'
  have f2 := encF_flat n2 ps2
  have f4 := encF_flat n q
  have fc := tup_flat cs
  have hsc : (D.rdl (ns.map D.int)).flat = true := by simp
  have B0 : Bel n cs (zeroL n) cs.sum.toNat := ⟨by simp [zeroL], fun k hk => by
    rw [show ik (zeroL n) k = 0 from ik_rep n k]
    exact (hC.b k hk).1, by
    rw [show (zeroL n).sum = 0 from sum_rep n]
    omega⟩
  have hlen : ((Wr n q cs cs.sum.toNat (zeroL n)).length : Int) = waysT n q cs := Wr_len hl _ _ B0
  have hT : cs.sum.toNat ≤ 2000 := by omega
  have A1 : sSet 1 (eArgs bLstL (aCons (eVar 0) (aCons (eC (.int 0)) (aCons (eC (.int 9811)) (aCons (eC (.int 0)) aNil))))) [some (D.rdl (ns.map D.int)), none, none, none, none] [] = .nx [some (D.rdl (ns.map D.int)), some (.loc 0), none, none, none] [encRow r0] := by
    simp [h0]
  generalize hscr : D.rdl (ns.map D.int) = scr at *
  generalize hg1 : encF n1 ps1' = F1 at *
  generalize hg2 : encF n2 ps2 = F2 at *
  have A2 : sSet 2 (eArgs (callF F_p_law_pick) (aCons (eVar 1) (aCons (eArgs bLst (aCons (eArgs (callF F_p_law_any) (aCons (eVar 1) aNil)) (aCons (eArgs (callF F_p_law_live) (aCons (eVar 1) (aCons (eC (.int 4)) (aCons (eC (.int 4)) aNil)))) aNil))) aNil))) [some scr, some (.loc 0), none, none, none] [encRow r0] = .nx [some scr, some (.loc 0), some (encF n q), none, none] [encRow r3] := by
    simp [e1, e2, e3, f1, f2, f4]
  have A3 : sSet 3 (eArgs (callF F_p_law_counts) (aCons (eVar 1) (aCons (eVar 2) (aCons (eC (.int 3)) aNil)))) [some scr, some (.loc 0), some (encF n q), none, none] [encRow r3] = .nx [some scr, some (.loc 0), some (encF n q), some (.tup (dI cs)), none] [encRow r4] := by
    simp [e4', f4]
  have hal := fun i => alike_int 7 i
  rw [show ([scr].map some ++ List.replicate (5 - 1) none : Env) = [some scr, none, none, none, none] from rfl, ev_seq, A1, kseq_nx, ev_seq, A2, kseq_nx, ev_seq, A3, kseq_nx]
  have fW : ∀ g : List Int, (D.tuk (dI g)).flat = true := tuk_flat
  rcases lawwords_ok F hC with e6 | ⟨e6, hz⟩
  · have fin : (0 < waysT n q cs ∧ True) ∨ ¬ d = cs := by
      by_cases hR : Rch n q cs
      · exact .inl ⟨hpos.mpr hR, trivial⟩
      · exact .inr fun z => hR (by rw [← z]; exact B.rch)
    by_cases hW : 0 < waysT n q cs
    · simp [e6, isn_non, e5, e8, hW, f4, hsc]
    · have hd : ¬ d = cs := by
        rcases fin with z | z
        · exact absurd z.1 hW
        · exact z
      simp [e6, isn_non, e5, e8, hW, hd, f4, hsc]
  · have hfl : D.flats ((Wr n q cs cs.sum.toNat (zeroL n)).map fun w => D.tuk (dI w)) = true := flats_map _ (fun w => tuk_flat w) _
    have hne := ne_words (Wr n q cs cs.sum.toNat (zeroL n))
    by_cases hR : Rch n q cs
    · have e13 := wordg_ok hF F hC hR
      obtain ⟨rest, h1, h2⟩ := Wr_first hw hl hR cs.sum.toNat (zeroL n) .zero B0
      have hsz := Wr_size (n := n) (ps := q) (cs := cs) cs.sum.toNat (zeroL n)
      generalize hgg : gW n q cs cs.sum.toNat (zeroL n) = g at *
      generalize hWW : Wr n q cs cs.sum.toNat (zeroL n) = WW at *
      subst h1
      have hmin := min_words (g := g) (rest := rest) (fun w hw' => by rw [hsz w hw', hsz g List.mem_cons_self]) h2
      have hgl : g.length < 100000 := by rw [hsz g List.mem_cons_self]; omega
      have hag := alike_word g hgl
      have hdm : (((g :: rest).map fun w => D.tuk (dI w)).length : Int) = waysT n q cs := by rw [List.length_map]; exact hlen
      have hne' : ∀ S, oNeU (.lst ((g :: rest).map fun w => D.tuk (dI w))) (.lst []) S = .ok (.bl true) S := fun S => hne S
      generalize ((g :: rest).map fun w => D.tuk (dI w)) = WS at *
      generalize waysT n q cs = WT at *
      have fg := fW g
      simp [e6, isn_lst, e5, f4, hsc, hfl, hdm, hal, e13, hne', hmin, hag]
    · have hW0 : waysT n q cs = 0 := by
        have : ¬ 0 < waysT n q cs := fun z => hR (hpos.mp z)
        omega
      have hdn : d ≠ cs := fun z => hR (by rw [← z]; exact B.rch)
      have e11 := wordno_ok hF F hC B hdn
      have hW : Wr n q cs cs.sum.toNat (zeroL n) = [] := by
        cases hq : Wr n q cs cs.sum.toNat (zeroL n) with
        | nil => rfl
        | cons a b =>
          rw [hq, hW0] at hlen
          simp at hlen
          omega
      rw [hW] at e6 hne
      rw [hW0] at e5
      have hne' : ∀ S, oNeU (.lst []) (.lst []) S = .ok (.bl false) S := fun S => hne S
      have e6' : F_p_law_words [encF n q, .tup (dI cs), .int 300] [] = .ok (.lst []) [] := e6
      have hal0 := hal 0
      have hcn : ∀ S, callF (F_p_law_alike 8) [.non, .non] S = .ok (.bl true) S := fun S => by
        rw [call0 _ rfl, alike_non]
        rfl
      simp [e6', isn_lst, e5, f4, hsc, hal0, e11, hne', hcn]
end K11
open PySem PySem.W PyProof.Rows
set_option maxHeartbeats 0 in
theorem PySem.Challenge.cw_rateflows_k11_whole_words_of_counts_holds : PySem.Challenge.rw_rateflows_k11_whole_words_of_counts.Holds := by
  w_on; o_law; k_head; (case hw => w_witness2)
  k_fill
  refine L2.walk_of (l := PySem.Challenge.rw_rateflows_k11_whole_words_of_counts) (n := 63) (k := 10) (x := "script") (CX := fun w => L2.CX PySem.Challenge.rw_rateflows_k11_whole_words_of_counts.prog w) (sp := fun w => K11.spLaw _) rfl (by decide) rfl ⟨rfl, by decide, by decide⟩ (fun w h Y => PySem.W.kIn_of Y) ?F (fun _ _ a ns hl _ hS => ⟨a, ns, rfl, hS, hl, fun _ => rfl⟩) (fun _ _ _ _ _ h => K11.no_exc h)
  case F =>
    intro w mg fa h KX G hmg
    refine' K11.all_mk KX G hmg (K11.law_true) ?a0 ?l0 ?c0 ?k0 ?a1 ?l1 ?c1 ?k1 ?a2 ?l2 ?c2 ?k2 ?a3 ?l3 ?c3 ?k3 ?a4 ?l4 ?c4 ?k4 ?a5 ?l5 ?c5 ?k5 ?a6 ?l6 ?c6 ?k6 ?a7 ?l7 ?c7 ?k7 ?a8 ?l8 ?c8 ?k8 ?a9 ?l9 ?c9 ?k9 ?a10 ?l10 ?c10 ?k10 ?a11 ?l11 ?c11 ?k11 ?a12 ?l12 ?c12 ?k12 ?a13 ?l13 ?c13 ?k13 ?a14 ?l14 ?c14 ?k14 ?a15 ?l15 ?c15 ?k15 ?a16 ?l16 ?c16 ?k16 ?a17 ?l17 ?c17 ?k17 ?a18 ?l18 ?c18 ?k18 ?a19 ?l19 ?c19 ?k19 ?a20 ?l20 ?c20 ?k20 ?a21 ?l21 ?c21 ?k21 ?a22 ?l22 ?c22 ?k22 ?a23 ?l23 ?c23 ?k23 ?a24 ?l24 ?c24 ?k24 ?a25 ?l25 ?c25 ?k25 ?a26 ?l26 ?c26 ?k26 ?a27 ?l27 ?c27 ?k27 ?a28 ?l28 ?c28 ?k28 ?a29 ?l29 ?c29 ?k29 ?a30 ?l30 ?c30 ?k30 ?a31 ?l31 ?c31 ?k31 ?a32 ?l32 ?c32 ?k32 ?a33 ?l33 ?c33 ?k33 ?a34 ?l34 ?c34 ?k34 ?a35 ?l35 ?c35 ?k35 ?a36 ?l36 ?c36 ?k36 ?a37 ?l37 ?c37 ?k37 ?z_abs ?z_any ?z_bool ?z_enumerate ?z_int ?z_isinstance ?z_len ?z_list ?z_min ?z_range ?z_str ?z_sum ?z_tuple ?z_MOST_BOXES ?z_MOST_COUNT ?z_MOST_PIPES ?z_MOST_RATE ?z_MOST_STATES ?z_MOST_TOKENS
    (case a0 => k_is)
    (case l0 => k_is)
    (case c0 => k_is)
    (case k0 => k_is)
    (case a1 => k_is)
    (case l1 => k_is)
    (case c1 => k_is)
    (case k1 => k_is)
    (case a2 => k_is)
    (case l2 => k_is)
    (case c2 => k_is)
    (case k2 => k_is)
    (case a3 => k_is)
    (case l3 => k_is)
    (case c3 => k_is)
    (case k3 => k_is)
    (case a4 => k_is)
    (case l4 => k_is)
    (case c4 => k_is)
    (case k4 => k_is)
    (case a5 => k_is)
    (case l5 => k_is)
    (case c5 => k_is)
    (case k5 => k_is)
    (case a6 => k_is)
    (case l6 => k_is)
    (case c6 => k_is)
    (case k6 => k_is)
    (case a7 => k_is)
    (case l7 => k_is)
    (case c7 => k_is)
    (case k7 => k_is)
    (case a8 => k_is)
    (case l8 => k_is)
    (case c8 => k_is)
    (case k8 => k_is)
    (case a9 => k_is)
    (case l9 => k_is)
    (case c9 => k_is)
    (case k9 => k_is)
    (case a10 => k_is)
    (case l10 => k_is)
    (case c10 => k_is)
    (case k10 => k_is)
    (case a11 => k_is)
    (case l11 => k_is)
    (case c11 => k_is)
    (case k11 => k_is)
    (case a12 => k_is)
    (case l12 => k_is)
    (case c12 => k_is)
    (case k12 => k_is)
    (case a13 => k_is)
    (case l13 => k_is)
    (case c13 => k_is)
    (case k13 => k_is)
    (case a14 => k_is)
    (case l14 => k_is)
    (case c14 => k_is)
    (case k14 => k_is)
    (case a15 => k_is)
    (case l15 => k_is)
    (case c15 => k_is)
    (case k15 => k_is)
    (case a16 => k_is)
    (case l16 => k_is)
    (case c16 => k_is)
    (case k16 => k_is)
    (case a17 => k_is)
    (case l17 => k_is)
    (case c17 => k_is)
    (case k17 => k_is)
    (case a18 => k_is)
    (case l18 => k_is)
    (case c18 => k_is)
    (case k18 => k_is)
    (case a19 => k_is)
    (case l19 => k_is)
    (case c19 => k_is)
    (case k19 => k_is)
    (case a20 => k_is)
    (case l20 => k_is)
    (case c20 => k_is)
    (case k20 => k_is)
    (case a21 => k_is)
    (case l21 => k_is)
    (case c21 => k_is)
    (case k21 => k_is)
    (case a22 => k_is)
    (case l22 => k_is)
    (case c22 => k_is)
    (case k22 => k_is)
    (case a23 => k_is)
    (case l23 => k_is)
    (case c23 => k_is)
    (case k23 => k_is)
    (case a24 => k_is)
    (case l24 => k_is)
    (case c24 => k_is)
    (case k24 => k_is)
    (case a25 => k_is)
    (case l25 => k_is)
    (case c25 => k_is)
    (case k25 => k_is)
    (case a26 => k_is)
    (case l26 => k_is)
    (case c26 => k_is)
    (case k26 => k_is)
    (case a27 => k_is)
    (case l27 => k_is)
    (case c27 => k_is)
    (case k27 => k_is)
    (case a28 => k_is)
    (case l28 => k_is)
    (case c28 => k_is)
    (case k28 => k_is)
    (case a29 => k_is)
    (case l29 => k_is)
    (case c29 => k_is)
    (case k29 => k_is)
    (case a30 => k_is)
    (case l30 => k_is)
    (case c30 => k_is)
    (case k30 => k_is)
    (case a31 => k_is)
    (case l31 => k_is)
    (case c31 => k_is)
    (case k31 => k_is)
    (case a32 => k_is)
    (case l32 => k_is)
    (case c32 => k_is)
    (case k32 => k_is)
    (case a33 => k_is)
    (case l33 => k_is)
    (case c33 => k_is)
    (case k33 => k_is)
    (case a34 => k_is)
    (case l34 => k_is)
    (case c34 => k_is)
    (case k34 => k_is)
    (case a35 => k_is)
    (case l35 => k_is)
    (case c35 => k_is)
    (case k35 => k_is)
    (case a36 => k_is)
    (case l36 => k_is)
    (case c36 => k_is)
    (case k36 => k_is)
    (case a37 => k_is)
    (case l37 => k_is)
    (case c37 => k_is)
    (case k37 => k_is)
    (case z_abs => k_is)
    (case z_any => k_is)
    (case z_bool => k_is)
    (case z_enumerate => k_is)
    (case z_int => k_is)
    (case z_isinstance => k_is)
    (case z_len => k_is)
    (case z_list => k_is)
    (case z_min => k_is)
    (case z_range => k_is)
    (case z_str => k_is)
    (case z_sum => k_is)
    (case z_tuple => k_is)
    (case z_MOST_BOXES => k_is)
    (case z_MOST_COUNT => k_is)
    (case z_MOST_PIPES => k_is)
    (case z_MOST_RATE => k_is)
    (case z_MOST_STATES => k_is)
    (case z_MOST_TOKENS => k_is)
