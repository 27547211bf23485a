import PyProof.Rows.All
import PySem.PyData
import HandS.Base
import HandS.Text
import KE.KeyNested
import HandS.ForMost
import HandS.ForExc
import HandS.TupAny
import HandS.IsInst
import HandS.Lambda
import HandS.Deep
import HandS.TupMul
import KE.KTupSum
import HandS.WordsDict
import HandS.Zip
import KE.GoesEnum
import KE.GoesZip
import KE.GoesMore
import HandS.Flt
import HandS.Conv
import KE.DatumOrd
import HandS.Style
import HandS.SortInts
import KE.DataFind
import HandS.DictComp
import HandS.TupSets
import HandS.Iter
import HandS.Gcd
import HandS.SortKw
import HandS.DictTup
import HandS.ExcIs
import PyProof.DictStraight
import KE.SortData
import HandS.SortOrd
import HandS.ExcInit
import HandS.ExcField
import HandS.FStr
import KE.KExcIs
import KE.DatumIndex
import KE.DataMinMax
import HandS.SetKeys
import PyProof.DictMoreH
import PyProof.ListMulRight
import KE.DataMinKey
import HandS.TryOnly
import KE.KDictSum
import KE.KDictCopyH
import KE.KDictWalk
import HandS.TupLen
import PyProof.EnumStmt
import PyProof.ListRange
import PyProof.ListNew
import HandS.SetFor
import PyProof.FString2
import KE.KDflt
import HandS.HeadWalk
import KE.KDictKeyed
import PySem.Challenge.RW_rateflows_k51_known_speed
/-! The plain reading of a program: values without a heap, what an expression, a statement, a def gives. -/
set_option linter.all false
namespace J
open PySem (Str)
abbrev Ky := Sum Int Str
inductive D where
  | non | bl (b : Bool) | int (i : Int) | str (x : Str) | ty (n : String)
  | tup (ds : List D) | lst (ds : List D) | rdl (ds : List D) | dct (ks : List Ky) (ds : List D)
  | dcT (ks : List (List Ky)) (ds : List D)
  | tuk (ds : List D)
  | loc (n : Nat)
  /-- a def by its name; an object at an address, with what is known of it; a table of code objects of the def's lambdas -/
  | fn (x : Str) | kn (a : Nat) (L : List (Nat × L2.HO)) | tab (x : Str)
instance : Inhabited D := ⟨.non⟩
abbrev Env := List (Option D)
inductive R (α : Type) where
  | ok (a : α) (S : List D)
  | exc (c : Str) (fs : List (Str × D)) (S : List D)
  | bad
inductive O where
  | nx (E : Env) (S : List D)
  | rt (d : D) (S : List D)
  | bk (E : Env) (S : List D)
  | ct (E : Env) (S : List D)
  | exc (c : Str) (fs : List (Str × D)) (E : Env) (S : List D)
  | bad
abbrev ME := Env → List D → R D
abbrev MA := Env → List D → R (List D)
abbrev MT := Env → List D → R Bool
abbrev MS := Env → List D → O
abbrev MF := List D → List D → R D

mutual
def D.flat : D → Bool
  | .tup ds => D.flats ds
  | .lst ds => D.flats ds
  | .rdl ds => D.flats ds
  | .dct _ ds => D.flats ds
  | .dcT _ ds => D.flats ds
  | .tuk ds => D.flats ds
  | .loc _ => false
  | .kn _ _ => false
  | _ => true
def D.flats : List D → Bool
  | [] => true
  | d :: ds => d.flat && D.flats ds
end
mutual
def D.depth : D → Nat
  | .tup ds => D.depths ds + 1
  | .lst ds => D.depths ds + 1
  | .rdl ds => D.depths ds + 1
  | .dct _ ds => D.depths ds + 1
  | .dcT _ ds => D.depths ds + 1
  | .tuk ds => D.depths ds + 1
  | _ => 0
def D.depths : List D → Nat
  | [] => 0
  | d :: ds => max d.depth (D.depths ds)
end
mutual
def D.eqB : D → D → Bool
  | .non, .non => true
  | .bl a, .bl b => a == b
  | .bl a, .int j => (if a then 1 else 0) == j
  | .int i, .bl b => i == (if b then 1 else 0)
  | .int i, .int j => i == j
  | .str x, .str y => x == y
  | .tup xs, .tup ys => D.eqBs xs ys
  | .lst xs, .lst ys => D.eqBs xs ys
  | .rdl xs, .lst ys => D.eqBs xs ys
  | .lst xs, .rdl ys => D.eqBs xs ys
  | .rdl xs, .rdl ys => D.eqBs xs ys
  | _, _ => false
def D.eqBs : List D → List D → Bool
  | [], [] => true
  | x :: xs, y :: ys => x.eqB y && D.eqBs xs ys
  | _, _ => false
end
mutual
def D.cmpb : D → Bool
  | .tup ds => D.cmpbs ds
  | .lst ds => D.cmpbs ds
  | .rdl ds => D.cmpbs ds
  | .dct _ _ => false
  | .dcT _ _ => false
  | .tuk _ => false
  | .loc _ => false
  | .ty _ => false
  | .fn _ => false
  | .kn _ _ => false
  | .tab _ => false
  | .str x => x.cps.all (· < 1114112)
  | .non => true
  | .bl _ => true
  | .int _ => true
def D.cmpbs : List D → Bool
  | [] => true
  | d :: ds => d.cmpb && D.cmpbs ds
end

/-! ### ends in a row -/
def R.bind {α β : Type} (r : R α) (k : α → List D → R β) : R β := match r with
  | .ok a S => k a S
  | .exc c fs S => .exc c fs S
  | .bad => .bad
def R.toO (r : R D) (E : Env) (k : D → List D → O) : O := match r with
  | .ok a S => k a S
  | .exc c fs S => .exc c fs E S
  | .bad => .bad
def R.tO (r : R Bool) (E : Env) (k : Bool → List D → O) : O := match r with
  | .ok a S => k a S
  | .exc c fs S => .exc c fs E S
  | .bad => .bad
@[simp] theorem bind_ok {α β : Type} (a : α) (S : List D) (k : α → List D → R β) : (R.ok a S).bind k = k a S := id rfl
@[simp] theorem toO_ok (a : D) (S : List D) (E : Env) (k : D → List D → O) : (R.ok a S).toO E k = k a S := id rfl
@[simp] theorem tO_ok (a : Bool) (S : List D) (E : Env) (k : Bool → List D → O) : (R.ok a S).tO E k = k a S := id rfl
def onBl {α : Type} (d : D) (k : Bool → R α) : R α := match d with
  | .bl c => k c
  | _ => .bad
@[simp] theorem onBl_bl {α : Type} (c : Bool) (k : Bool → R α) : onBl (.bl c) k = k c := id rfl
def SL : Nat := 16777216

/-! ### what is in a value -/
def lstOf (S : List D) : D → Option (List D)
  | .lst ds => some ds
  | .loc n => match S[n]? with
    | some (.lst ds) => some ds
    | _ => none
  | _ => none
def seqOf (S : List D) : D → Option (List D)
  | .tup ds => some ds
  | .lst ds => some ds
  | .rdl ds => some ds
  | .loc n => match S[n]? with
    | some (.lst ds) => some ds
    | _ => none
  | _ => none
def seen (S : List D) : D → D
  | .loc n => match S[n]? with
    | some (.lst ds) => .lst ds
    | _ => .loc n
  | d => d
def keyOf : D → Option Ky
  | .int i => some (.inl i)
  | .str x => some (.inr x)
  | _ => none
def keysOf : List D → Option (List Ky)
  | [] => some []
  | d :: ds => match keyOf d, keysOf ds with
    | some k, some ks => some (k :: ks)
    | _, _ => none
def keyT : D → Option (List Ky)
  | .tup ds => keysOf ds
  | _ => none
def dctOf (S : List D) : D → Option (List Ky × List D)
  | .dct ks ds => some (ks, ds)
  | .loc n => match S[n]? with
    | some (.dct ks ds) => some (ks, ds)
    | _ => none
  | _ => none
def ixOf (n : Nat) (i : Int) : Option Nat := if 0 ≤ i then (if i < n then some i.toNat else none) else if -(n : Int) ≤ i then some (i + n).toNat else none
def atOf (xs : List D) (i : Int) : Option D := (ixOf xs.length i).bind fun j => xs[j]?

/-! ### expressions -/
def eVar (i : Nat) : ME := fun E S => match E[i]? with
  | some (some d) => .ok d S
  | _ => .bad
def eC (d : D) : ME := fun _ S => .ok d S
def eOp (f : D → D → List D → R D) (a b : ME) : ME := fun E S => (a E S).bind fun x S1 => (b E S1).bind fun y S2 => f x y S2
def eUn (f : D → List D → R D) (a : ME) : ME := fun E S => (a E S).bind fun x S1 => f x S1
def aNil : MA := fun _ S => .ok [] S
def aCons (a : ME) (r : MA) : MA := fun E S => (a E S).bind fun x S1 => (r E S1).bind fun xs S2 => .ok (x :: xs) S2
def eArgs (f : List D → List D → R D) (a : MA) : ME := fun E S => (a E S).bind fun xs S1 => f xs S1
def eIf (t : MT) (a b : ME) : ME := fun E S => (t E S).bind fun c S1 => if c = true then a E S1 else b E S1
def eAnd (a b : ME) : ME := fun E S => (a E S).bind fun x S1 => onBl x fun c => if c = true then b E S1 else .ok (.bl false) S1
def eOr (a b : ME) : ME := fun E S => (a E S).bind fun x S1 => onBl x fun c => if c = true then .ok (.bl true) S1 else b E S1
def eNot (a : ME) : ME := fun E S => (a E S).bind fun x S1 => onBl x fun c => .ok (.bl (!c)) S1
def eChain (f h : D → D → List D → R D) (a b c : ME) : ME := fun E S => (a E S).bind fun x S1 => (b E S1).bind fun y S2 => (f x y S2).bind fun t S3 => onBl t fun k => if k = true then (c E S3).bind fun z S4 => h y z S4 else .ok (.bl false) S3
/-! tests -/
def tV (a : ME) : MT := fun E S => (a E S).bind fun x S1 => onBl x fun c => .ok c S1
def truth (S : List D) : D → Option Bool
  | .bl c => some c
  | .int i => some (i != 0)
  | .non => some false
  | .dct ks _ => some (!ks.isEmpty)
  | .tup ds => some (!ds.isEmpty)
  | .lst ds => some (!ds.isEmpty)
  | .rdl ds => some (!ds.isEmpty)
  | .loc n => match S[n]? with
    | some (.lst ds) => some (!ds.isEmpty)
    | some (.dct ks _) => some (!ks.isEmpty)
    | _ => none
  | _ => none
def tTr (a : ME) : MT := fun E S => (a E S).bind fun x S1 => match truth S1 x with
  | some c => .ok c S1
  | none => .bad
def tAnd (a b : MT) : MT := fun E S => (a E S).bind fun c S1 => if c = true then b E S1 else .ok false S1
def tOr (a b : MT) : MT := fun E S => (a E S).bind fun c S1 => if c = true then .ok true S1 else b E S1
def tNot (a : MT) : MT := fun E S => (a E S).bind fun c S1 => .ok (!c) S1
def tYes : MT := fun _ S => .ok true S

/-! ### operators by values -/
def oAdd : D → D → List D → R D
  | .int i, .int j, S => .ok (.int (i + j)) S
  | .tup xs, .tup ys, S => if xs.length + ys.length ≤ SL then .ok (.tup (xs ++ ys)) S else .bad
  | x, y, S => match lstOf S x, lstOf S y with
    | some xs, some ys => if xs.length + ys.length ≤ SL then .ok (.lst (xs ++ ys)) S else .bad
    | _, _ => .bad
def iAdd : D → D → List D → R D
  | .int i, .int j, S => .ok (.int (i + j)) S
  | _, _, _ => .bad
def oSub : D → D → List D → R D
  | .int i, .int j, S => .ok (.int (i - j)) S
  | _, _, _ => .bad
def smallI (i : Int) : Bool := decide (-(18446744073709551616) < i) && decide (i < 18446744073709551616)
def oMul : D → D → List D → R D
  | .int i, .int j, S => if smallI i = true ∨ smallI j = true then .ok (.int (i * j)) S else .bad
  | .tup xs, .int k, S => if xs ≠ [] ∧ 1 ≤ k ∧ k ≤ 1000 ∧ xs.length ≤ 1000 then .ok (.tup (List.replicate k.toNat xs).flatten) S else .bad
  | x, .int k, S => match lstOf S x with
    | some xs => if -9223372036854775808 ≤ k ∧ k < 9223372036854775808 ∧ xs.length * k.toNat ≤ SL then .ok (.lst (List.replicate k.toNat xs).flatten) S else .bad
    | none => .bad
  | _, _, _ => .bad
def mkL : R D → R D
  | .ok (.lst ds) S => .ok (.loc S.length) (S ++ [.lst ds])
  | _ => .bad
def oMulL (x y : D) (S : List D) : R D := mkL (oMul x y S)
def oDiv : D → D → List D → R D
  | .int i, .int j, S => if j ≠ 0 ∧ j.natAbs < 1073741824 then .ok (.int (i.fdiv j)) S else .bad
  | _, _, _ => .bad
def oMod : D → D → List D → R D
  | .int i, .int j, S => if j ≠ 0 then .ok (.int (i.fmod j)) S else .bad
  | _, _, _ => .bad
def oPow : D → D → List D → R D
  | .int i, .int j, S => if 0 ≤ j ∧ j ≤ 1000000 ∧ i.natAbs < 18446744073709551616 then .ok (.int (i ^ j.toNat)) S else .bad
  | _, _, _ => .bad
def oLt : D → D → List D → R D
  | .int i, .int j, S => .ok (.bl (decide (i < j))) S
  | _, _, _ => .bad
def oLe : D → D → List D → R D
  | .int i, .int j, S => .ok (.bl (decide (i ≤ j))) S
  | _, _, _ => .bad
def oGt : D → D → List D → R D
  | .int i, .int j, S => .ok (.bl (decide (j < i))) S
  | _, _, _ => .bad
def oGe : D → D → List D → R D
  | .int i, .int j, S => .ok (.bl (decide (j ≤ i))) S
  | _, _, _ => .bad
def cmpOk (x : D) : Bool := x.cmpb && decide (x.depth ≤ 64)
def oEq (x y : D) (S : List D) : R D := if cmpOk (seen S x) = true ∧ cmpOk (seen S y) = true then .ok (.bl (D.eqB (seen S x) (seen S y))) S else .bad
def oNe (x y : D) (S : List D) : R D := if cmpOk (seen S x) = true ∧ cmpOk (seen S y) = true then .ok (.bl (!D.eqB (seen S x) (seen S y))) S else .bad
def D.isNon : D → Bool
  | .non => true
  | _ => false
def oIsN (x : D) (S : List D) : R D := .ok (.bl x.isNon) S
def oNotN (x : D) (S : List D) : R D := .ok (.bl (!x.isNon)) S
def oNeg : D → List D → R D
  | .int i, S => .ok (.int (-i)) S
  | _, _ => .bad
def keyIn (ks : List Ky) (k : Ky) : Bool := ks.any fun q => decide (q = k)
def inD (x : D) (xs : List D) : Bool := xs.any fun y => y.eqB x
def oIn (x y : D) (S : List D) : R D := match seqOf S y with
  | some xs => if cmpOk (seen S x) = true ∧ xs.all cmpOk = true then .ok (.bl (inD (seen S x) xs)) S else .bad
  | none => match dctOf S y, keyOf x with
    | some (ks, _), some k => .ok (.bl (keyIn ks k)) S
    | _, _ => .bad
def oNin (x y : D) (S : List D) : R D := match seqOf S y with
  | some xs => if cmpOk (seen S x) = true ∧ xs.all cmpOk = true then .ok (.bl (!inD (seen S x) xs)) S else .bad
  | none => match dctOf S y, keyOf x with
    | some (ks, _), some k => .ok (.bl (!keyIn ks k)) S
    | _, _ => .bad
def getK : List Ky → List D → Ky → Option D
  | q :: ks, d :: ds, k => if q = k then some d else getK ks ds k
  | _, _, _ => none
def oIx (x i : D) (S : List D) : R D := match seqOf S x, i with
  | some xs, .int k => match atOf xs k with
    | some d => .ok d S
    | none => .bad
  | _, _ => match dctOf S x, keyOf i with
    | some (ks, ds), some k => match getK ks ds k with
      | some d => .ok d S
      | none => .bad
    | _, _ => .bad
def sIxOf (n d : Nat) : Option Int → Nat
  | none => d
  | some v => if v < 0 then (v + (n : Int)).toNat else min v.toNat n
def cutOf (xs : List D) (lo hi : Option Int) : List D := (xs.drop (sIxOf xs.length 0 lo)).take (sIxOf xs.length xs.length hi - sIxOf xs.length 0 lo)
def ePart (a : Option ME) : Env → List D → R (Option Int) := match a with
  | none => fun _ S => .ok none S
  | some m => fun E S => (m E S).bind fun x S1 => match x with
    | .int i => .ok (some i) S1
    | _ => .bad
def oSl (x : D) (lo hi : Option Int) (S : List D) : R D := match x with
  | .tup xs => .ok (.tup (cutOf xs lo hi)) S
  | _ => match seqOf S x with
    | some xs => .ok (.lst (cutOf xs lo hi)) S
    | none => .bad
def eSl (a : ME) (lo hi : Option ME) : ME := fun E S => (a E S).bind fun x S1 => (ePart lo E S1).bind fun l S2 => (ePart hi E S2).bind fun h S3 => oSl x l h S3

/-! ### built-ins by their arguments -/
def bTup (xs : List D) (S : List D) : R D := if xs.length ≤ SL then .ok (.tup xs) S else .bad
def bLst (xs : List D) (S : List D) : R D := if xs.length ≤ SL then .ok (.lst xs) S else .bad
def bLstL (xs : List D) (S : List D) : R D := if xs.length ≤ SL then .ok (.loc S.length) (S ++ [.lst xs]) else .bad
def bLen : List D → List D → R D
  | [x], S => match seqOf S x with
    | some xs => .ok (.int xs.length) S
    | none => match dctOf S x with
      | some (ks, _) => .ok (.int ks.length) S
      | none => .bad
  | _, _ => .bad
def bInt : List D → List D → R D
  | [.int i], S => .ok (.int i) S
  | [.bl b], S => .ok (.int (if b then 1 else 0)) S
  | _, _ => .bad
def bAbs : List D → List D → R D
  | [.int i], S => .ok (.int (if i < 0 then -i else i)) S
  | _, _ => .bad
def intsOf : List D → Option (List Int)
  | [] => some []
  | .int i :: r => (intsOf r).map (i :: ·)
  | _ :: _ => none
def bSum : List D → List D → R D
  | [x], S => match seqOf S x with
    | some xs => match intsOf xs with
      | some ns => .ok (.int ns.sum) S
      | none => .bad
    | none => .bad
  | _, _ => .bad
def bTuple : List D → List D → R D
  | [x], S => match seqOf S x with
    | some xs => .ok (.tup xs) S
    | none => .bad
  | _, _ => .bad
def bList : List D → List D → R D
  | [x], S => match seqOf S x with
    | some xs => .ok (.lst xs) S
    | none => .bad
  | _, _ => .bad
def bListL : List D → List D → R D
  | [x], S => match seqOf S x with
    | some xs => .ok (.loc S.length) (S ++ [.lst xs])
    | none => .bad
  | _, _ => .bad
def tyOf (S : List D) : D → Option String
  | .non => some "NoneType"
  | .bl _ => some "bool"
  | .int _ => some "int"
  | .str _ => some "str"
  | .tup _ => some "tuple"
  | .tuk _ => some "tuple"
  | .lst _ => some "list"
  | .rdl _ => some "list"
  | .dct _ _ => some "dict"
  | .loc n => match S[n]? with
    | some (.lst _) => some "list"
    | some (.dct _ _) => some "dict"
    | _ => none
  | _ => none
def isiB (t n : String) : Bool := t == n || (t == "bool" && n == "int")
def isiNames : List String := ["bool", "int", "str", "tuple", "list", "dict"]
def oIsi (ns : List String) (x : D) (S : List D) : R D := match tyOf S x with
  | some t => .ok (.bl (ns.any (isiB t))) S
  | none => .bad
def bMax3 : List D → List D → R D
  | [.int i, .int j, .int k], S => .ok (.int (if k > (if j > i then j else i) then k else (if j > i then j else i))) S
  | _, _ => .bad
def kDisp1 (x y : D) (S : List D) : R D := match keyOf x with
  | some q => .ok (.loc S.length) (S ++ [.dct [q] [y]])
  | none => .bad
def eDisp1L (k v : ME) : ME := fun E S => (k E S).bind fun x S1 => (v E S1).bind fun y S2 => kDisp1 x y S2
def eDctL : ME := fun _ S => .ok (.loc S.length) (S ++ [.dct [] []])
def eDct : ME := fun _ S => .ok (.dct [] []) S
def bMax2 : List D → List D → R D
  | [.int i, .int j], S => .ok (.int (if j > i then j else i)) S
  | _, _ => .bad
def bMin2 : List D → List D → R D
  | [.int i, .int j], S => .ok (.int (if j < i then j else i)) S
  | _, _ => .bad
def bMax1 : List D → List D → R D
  | [x], S => match seqOf S x with
    | some xs => match intsOf xs with
      | some (n :: ns) => .ok (.int (ns.foldl (fun a y => if a < y then y else a) n)) S
      | _ => .bad
    | none => .bad
  | _, _ => .bad
def bMin1 : List D → List D → R D
  | [x], S => match seqOf S x with
    | some xs => match intsOf xs with
      | some (n :: ns) => .ok (.int (ns.foldl (fun a y => if y < a then y else a) n)) S
      | _ => .bad
    | none => .bad
  | _, _ => .bad
def scal : D → Option Bool
  | .bl b => some b
  | .int i => some (i != 0)
  | _ => none
def scals : List D → Option (List Bool)
  | [] => some []
  | d :: ds => (scal d).bind fun b => (scals ds).map (b :: ·)
def bAny : List D → List D → R D
  | [x], S => match lstOf S x with
    | some xs => match scals xs with
      | some bs => .ok (.bl (bs.any id)) S
      | none => .bad
    | none => .bad
  | _, _ => .bad
def bAll : List D → List D → R D
  | [x], S => match lstOf S x with
    | some xs => match scals xs with
      | some bs => .ok (.bl (bs.all id)) S
      | none => .bad
    | none => .bad
  | _, _ => .bad
def eLstRgL (a : ME) : ME := fun E S => (a E S).bind fun x S1 => match x with
  | .int n => if 0 ≤ n ∧ n ≤ SL then .ok (.loc S1.length) (S1 ++ [.lst ((List.range n.toNat).map fun i : Nat => .int (i : Int))]) else .bad
  | _ => .bad
/-! ### statements -/
def sSeq (a b : MS) : MS := fun E S => match a E S with
  | .nx E1 S1 => b E1 S1
  | o => o
def sNext : MS := fun E S => .nx E S
def sBreak : MS := fun E S => .bk E S
def sCont : MS := fun E S => .ct E S
def sNever : MS := fun _ _ => .bad
def sExpr (a : ME) : MS := fun E S => (a E S).toO E fun _ S1 => .nx E S1
def sRet (a : ME) : MS := fun E S => (a E S).toO E fun d S1 => .rt d S1
def sRetN : MS := fun _ S => .rt .non S
def sIf (t : MT) (a b : MS) : MS := fun E S => (t E S).tO E fun c S1 => if c = true then a E S1 else b E S1
def sSet (i : Nat) (a : ME) : MS := fun E S => (a E S).toO E fun d S1 => .nx (E.set i (some d)) S1
def sAug (i : Nat) (f : D → D → List D → R D) (a : ME) : MS := fun E S => match E[i]? with
  | some (some x) => (a E S).toO E fun y S1 => (f x y S1).toO E fun z S2 => .nx (E.set i (some z)) S2
  | _ => .bad
inductive Tg where
  | nm (i : Nat)
  | tp (ts : List Tg)
mutual
def Tg.bind : Tg → D → Env → Option Env
  | .nm i, d, E => some (E.set i (some d))
  | .tp ts, .tup ds, E => Tg.binds ts ds E
  | .tp _, _, _ => none
def Tg.binds : List Tg → List D → Env → Option Env
  | [], [], E => some E
  | t :: ts, d :: ds, E => match t.bind d E with
    | some E1 => Tg.binds ts ds E1
    | none => none
  | _, _, _ => none
end
def sAsg (t : Tg) (a : ME) : MS := fun E S => (a E S).toO E fun d S1 => match t.bind d E with
  | some E1 => .nx E1 S1
  | none => .bad
def sTry (b : MS) : MS := fun E S => match b E S with
  | .exc _ _ _ _ => .bad
  | o => o
def sPar (is_ : List Nat) (a : MA) : MS := fun E S => match a E S with
  | .ok ds S1 => match Tg.binds (is_.map .nm) ds E with
    | some E1 => .nx E1 S1
    | none => .bad
  | .exc c fs S1 => .exc c fs E S1
  | .bad => .bad
def putAt (o i v : D) (S : List D) : Option (List D) := match o with
  | .loc n => match S[n]? with
    | some (.lst xs) => match i with
      | .int k => match ixOf xs.length k with
        | some j => some (S.set n (.lst (xs.set j v)))
        | none => none
      | _ => none
    | some (.dct ks ds) => match keyOf i with
      | some k => if ks.length < SL then some (S.set n (putK ks ds k v)) else none
      | none => none
    | some (.dcT ks ds) => match keyT i with
      | some k => if ks.length < SL then some (S.set n (putT ks ds k v)) else none
      | none => none
    | _ => none
  | _ => none
where
  putT (ks : List (List Ky)) (ds : List D) (k : List Ky) (v : D) : D := if (ks.any fun q => decide (q = k)) = true then .dcT ks (ks.zipWith (fun q d => if q = k then v else d) ds) else .dcT (ks ++ [k]) (ds ++ [v])
  putK (ks : List Ky) (ds : List D) (k : Ky) (v : D) : D := if keyIn ks k = true then .dct ks (ks.zipWith (fun q d => if q = k then v else d) ds) else .dct (ks ++ [k]) (ds ++ [v])
def sPut (o i e : ME) : MS := fun E S => (e E S).toO E fun v S1 => (o E S1).toO E fun x S2 => (i E S2).toO E fun k S3 => match putAt x k v S3 with
  | some S4 => .nx E S4
  | none => .bad
def sAsgSub (i j l : Nat) (a : ME) : MS := fun E S => (a E S).toO E fun d S1 => match d with
  | .tup [dx, dy] => match (E.set i (some dx))[j]?, (E.set i (some dx))[l]? with
    | some (some ov), some (some kv) => match putAt ov kv dy S1 with
      | some S2 => .nx (E.set i (some dx)) S2
      | none => .bad
    | _, _ => .bad
  | _ => .bad
def sPutAug (f : D → D → List D → R D) (o i e : ME) : MS := fun E S => (o E S).toO E fun x S1 => (i E S1).toO E fun k S2 => (oIx x k S2).toO E fun y S3 => (e E S3).toO E fun z S4 => (f y z S4).toO E fun v S5 => match putAt x k v S5 with
  | some S6 => .nx E S6
  | none => .bad
def mAppend : D → List D → List D → R D
  | .loc n, [y], S => match S[n]? with
    | some (.lst xs) => if xs.length < SL then .ok .non (S.set n (.lst (xs ++ [y]))) else .bad
    | _ => .bad
  | _, _, _ => .bad
def mPop : D → List D → List D → R D
  | .loc n, [], S => match S[n]? with
    | some (.lst xs) => match xs[xs.length - 1]? with
      | some y => .ok y (S.set n (.lst xs.dropLast))
      | none => .bad
    | _ => .bad
  | _, _, _ => .bad
def eMeth (f : D → List D → List D → R D) (o : ME) (a : MA) : ME := fun E S => (o E S).bind fun x S1 => if (lstOf S1 x).isSome = true then (a E S1).bind fun xs S2 => f x xs S2 else .bad

/-! ### what a loop goes over -/
structure Src where
  len : Nat
  at_ : List D → Nat → Option D
  alive : List D → Bool
def Src.its (ds : List D) : Src := ⟨ds.length, fun _ i => ds[i]?, fun _ => true⟩
def Src.live (n len : Nat) : Src := ⟨len, fun S i => match S[n]? with | some (.lst ds) => ds[i]? | _ => none, fun S => match S[n]? with | some (.lst ds) => ds.length == len | _ => false⟩
def Src.rng (lo : Int) (n : Nat) : Src := ⟨n, fun _ i => some (.int (lo + i)), fun _ => true⟩
def Src.enum (s : Src) : Src := ⟨s.len, fun S i => (s.at_ S i).map fun d => .tup [.int i, d], s.alive⟩
def Src.zip (s t : Src) : Src := ⟨min s.len t.len, fun S i => match s.at_ S i, t.at_ S i with | some a, some b => some (.tup [a, b]) | _, _ => none, fun S => s.alive S && t.alive S⟩
abbrev MI := Env → List D → R Src
def srcOf (S : List D) : D → Option Src
  | .tup ds => some (.its ds)
  | .tuk ds => some (.its ds)
  | .lst ds => some (.its ds)
  | .rdl ds => some (.its ds)
  | .loc n => match S[n]? with
    | some (.lst ds) => some (.live n ds.length)
    | _ => none
  | _ => none
def iSeq (a : ME) : MI := fun E S => (a E S).bind fun x S1 => match srcOf S1 x with
  | some s => .ok s S1
  | none => .bad
def okR (i : Int) : Bool := decide (-4611686018427387904 ≤ i) && decide (i < 4611686018427387904)
def iRng1 (a : ME) : MI := fun E S => (a E S).bind fun x S1 => match x with
  | .int j => if okR j = true then .ok (.rng 0 j.toNat) S1 else .bad
  | _ => .bad
def iRng2 (a b : ME) : MI := fun E S => (a E S).bind fun x S1 => (b E S1).bind fun y S2 => match x, y with
  | .int i, .int j => if okR i = true ∧ okR j = true then .ok (.rng i (j - i).toNat) S2 else .bad
  | _, _ => .bad
def iEnum (a : ME) : MI := fun E S => (a E S).bind fun x S1 => match srcOf S1 x with
  | some s => .ok s.enum S1
  | none => .bad
def iZip (a b : ME) : MI := fun E S => (a E S).bind fun x S1 => (b E S1).bind fun y S2 => match srcOf S2 x, srcOf S2 y with
  | some s, some t => .ok (s.zip t) S2
  | _, _ => .bad

/-! ### loops -/
def gone (n : Nat) : Option D → Option D
  | some d => if D.flat d = true then some d else match d with
    | .loc k => if k < n then some (.loc k) else none
    | _ => none
  | none => none
def gcE (n : Nat) (E : Env) (S : List D) : Option (Env × List D) :=
  if S.length = n then some (E, S) else if n ≤ S.length ∧ (S.take n).all D.flat = true then some (E.map (gone n), S.take n) else none
def forGo (src : Src) (t : Tg) (b : MS) (n : Nat) : Nat → Nat → Env → List D → O
  | 0, _, E, S => if src.alive S = true then .nx E S else .bad
  | k + 1, i, E, S => if src.alive S = true then match src.at_ S i with
    | none => .bad
    | some d => match t.bind d E with
      | none => .bad
      | some E1 => match b E1 S with
        | .nx E2 S2 => match gcE n E2 S2 with
          | some (E3, S3) => forGo src t b n k (i + 1) E3 S3
          | none => .bad
        | .ct E2 S2 => match gcE n E2 S2 with
          | some (E3, S3) => forGo src t b n k (i + 1) E3 S3
          | none => .bad
        | .bk E2 S2 => .nx E2 S2
        | o => o
    else .bad
def sFor (t : Tg) (m : MI) (b : MS) : MS := fun E S => match m E S with
  | .ok src S1 => forGo src t b S1.length src.len 0 E S1
  | .exc c fs S1 => .exc c fs E S1
  | .bad => .bad
def whileGo (t : MT) (b : MS) (n : Nat) : Nat → Env → List D → O
  | 0, _, _ => .bad
  | k + 1, E, S => (t E S).tO E fun c S1 => if c = true then match b E S1 with
      | .nx E2 S2 => match gcE n E2 S2 with
        | some (E3, S3) => whileGo t b n k E3 S3
        | none => .bad
      | .ct E2 S2 => match gcE n E2 S2 with
        | some (E3, S3) => whileGo t b n k E3 S3
        | none => .bad
      | .bk E2 S2 => .nx E2 S2
      | o => o
    else .nx E S1
def sWhile (fuel : Nat) (t : MT) (b : MS) : MS := fun E S => whileGo t b S.length fuel E S
def wipeE (E : Env) : List Nat → Env
  | [] => E
  | v :: vs => (wipeE E vs).set v none
def lcGo (src : Src) (t : Tg) (c : MT) (e : ME) (E : Env) (n : Nat) : Nat → Nat → List D → List D → R (List D)
  | 0, _, acc, S => if src.alive S = true then .ok acc S else .bad
  | k + 1, i, acc, S => if src.alive S = true then match src.at_ S i with
    | none => .bad
    | some d => match t.bind d E with
      | none => .bad
      | some E1 => match c E1 S with
        | .ok b S1 => if b = true then match e E1 S1 with
            | .ok x S2 => if n ≤ S2.length then lcGo src t c e E n k (i + 1) (acc ++ [x]) S2 else .bad
            | _ => .bad
          else if n ≤ S1.length then lcGo src t c e E n k (i + 1) acc S1 else .bad
        | _ => .bad
    else .bad
def lcRun (own : List Nat) (t : Tg) (m : MI) (c : MT) (e : ME) : Env → List D → R (List D) := fun E S => match m E S with
  | .ok src S1 => if src.len ≤ SL then lcGo src t c e (wipeE E own) S1.length src.len 0 [] S1 else .bad
  | .exc c fs S1 => .exc c fs S1
  | .bad => .bad
def eLc (own : List Nat) (t : Tg) (m : MI) (c : MT) (e : ME) : ME := fun E S => (lcRun own t m c e E S).bind fun acc S1 => .ok (.lst acc) S1
def eLcL (own : List Nat) (t : Tg) (m : MI) (c : MT) (e : ME) : ME := fun E S => (lcRun own t m c e E S).bind fun acc S1 => .ok (.loc S1.length) (S1 ++ [.lst acc])

/-! ### defs -/
def fz (n : Nat) (S : List D) : Nat → D → Option D
  | 0, _ => none
  | k + 1, d => if d.flat = true then some d else match d with
    | .loc m => if m < n then none else match S[m]? with
      | some (.lst ds) => ((ds.mapM (fz n S k)).map .lst)
      | some (.dct ks ds) => ((ds.mapM (fz n S k)).map (.dct ks))
      | some (.dcT ks ds) => ((ds.mapM (fz n S k)).map (.dcT ks))
      | _ => none
    | .tup ds => (ds.mapM (fz n S k)).map .tup
    | .lst ds => (ds.mapM (fz n S k)).map .lst
    | _ => none
def retF (n : Nat) (d : D) (S : List D) : R D := if n ≤ S.length ∧ (S.take n).all D.flat = true then match fz n S 8 d with
    | some d' => .ok d' (S.take n)
    | none => .bad
  else .bad
def excF (n : Nat) (c : Str) (fs : List (Str × D)) (S : List D) : R D := if n ≤ S.length ∧ (S.take n).all D.flat = true ∧ fs.all (fun p => p.2.flat) = true then .exc c fs (S.take n) else .bad
def fnF (np nn : Nat) (b : MS) : MF := fun ds S => if ds.length = np then match b (ds.map some ++ List.replicate (nn - np) none) S with
    | .nx _ S1 => retF S.length .non S1
    | .rt d S1 => retF S.length d S1
    | .exc c fs _ S1 => excF S.length c fs S1
    | _ => .bad
  else .bad
def byRef : List D → Nat → Option (List D × List Nat)
  | [], _ => some ([], [])
  | .loc n :: r, k => (byRef r (k + 1)).bind fun (ds, ns) => if ns.contains n then none else some (.loc k :: ds, n :: ns)
  | d :: r, k => if d.flat = true then (byRef r k).map fun (ds, ns) => (d :: ds, ns) else none
def setAll : List D → List Nat → List D → List D
  | S, n :: ns, d :: ds => setAll (S.set n d) ns ds
  | S, _, _ => S
def callF (F : MF) (xs : List D) (S : List D) : R D := match byRef xs 0 with
  | none => .bad
  | some (ds, ns) => match ns.mapM (fun n => S[n]?) with
    | none => .bad
    | some Sc => if Sc.all D.flat = true then match F ds Sc with
        | .ok d S' => if d.flat = true ∧ S'.length = ns.length ∧ S'.all D.flat = true then .ok d (setAll S ns S') else .bad
        | .exc c fs S' => if S'.length = ns.length ∧ S'.all D.flat = true ∧ fs.all (fun p => p.2.flat) = true then .exc c fs (setAll S ns S') else .bad
        | .bad => .bad
      else .bad
end J
set_option linter.all false
namespace J
open PySem (Str)
def oRev : D → List D → R D
  | .tup ds, S => .ok (.tup ds.reverse) S
  | x, S => match lstOf S x with
    | some ds => .ok (.lst ds.reverse) S
    | none => .bad
def eRev (ma : ME) : ME := eUn oRev ma
def insI (n : Int) : List Int → List Int
  | [] => [n]
  | m :: ms => if n ≤ m then n :: m :: ms else m :: insI n ms
def sortI : List Int → List Int
  | [] => []
  | n :: ns => insI n (sortI ns)
def bSorted : List D → List D → R D
  | [x], S => match seqOf S x with
    | some xs => match intsOf xs with
      | some ns => .ok (.lst ((sortI ns).map D.int)) S
      | none => .bad
    | none => .bad
  | _, _ => .bad
def bBool : List D → List D → R D
  | [.int i], S => .ok (.bl (i != 0)) S
  | [.bl b], S => .ok (.bl b) S
  | _, _ => .bad
def mCountT : D → List D → List D → R D
  | .tup xs, [.int k], S => match intsOf xs with
    | some ns => .ok (.int (ns.count k : Nat)) S
    | none => .bad
  | _, _, _ => .bad
def oMulT : D → D → List D → R D
  | .tup xs, .int 0, S => if xs ≠ [] then .ok (.tup []) S else .bad
  | x, y, S => oMul x y S
def putKs (ks : List Ky) (k : Ky) : List Ky := if keyIn ks k = true then ks else ks ++ [k]
def putDs (ks : List Ky) (ds : List D) (k : Ky) (v : D) : List D := if keyIn ks k = true then ks.zipWith (fun q d => if q = k then v else d) ds else ds ++ [v]
def dcGo (src : Src) (t : Tg) (c : MT) (ek ev : ME) (E : Env) (n : Nat) : Nat → Nat → List Ky → List D → List D → R D
  | 0, _, ks, ds, S => if src.alive S = true then .ok (.dct ks ds) S else .bad
  | k + 1, i, ks, ds, S => if src.alive S = true then match src.at_ S i with
    | none => .bad
    | some d => match t.bind d E with
      | none => .bad
      | some E1 => match c E1 S with
        | .ok b S1 => if b = true then match ek E1 S1 with
            | .ok x S2 => match keyOf x with
              | none => .bad
              | some q => match ev E1 S2 with
                | .ok y S3 => if n ≤ S3.length then dcGo src t c ek ev E n k (i + 1) (putKs ks q) (putDs ks ds q y) S3 else .bad
                | _ => .bad
            | _ => .bad
          else if n ≤ S1.length then dcGo src t c ek ev E n k (i + 1) ks ds S1 else .bad
        | _ => .bad
    else .bad
def eDc (own : List Nat) (t : Tg) (m : MI) (c : MT) (ek ev : ME) : ME := fun E S => match m E S with
  | .ok src S1 => if src.len ≤ SL then dcGo src t c ek ev (wipeE E own) S1.length src.len 0 [] [] S1 else .bad
  | .exc c fs S1 => .exc c fs S1
  | .bad => .bad
def intKys : List Ky → Option (List Int)
  | [] => some []
  | .inl i :: ks => (intKys ks).map (i :: ·)
  | _ :: _ => none
def bMinD : List D → List D → R D
  | [x], S => match dctOf S x with
    | some (ks, _) => match intKys ks with
      | some (n :: ns) => .ok (.int (ns.foldl (fun a y => if y < a then y else a) n)) S
      | _ => .bad
    | none => .bad
  | _, _ => .bad
def eGet2 (o a b : ME) : ME := fun E S => (o E S).bind fun x S1 => if (dctOf S1 x).isSome = true then (a E S1).bind fun y S2 => (b E S2).bind fun z S3 => match dctOf S3 x, keyOf y with
  | some (ks, ds), some q => .ok ((getK ks ds q).getD z) S3
  | _, _ => .bad else .bad
def oIsB : D → D → List D → R D
  | .bl a, .bl b, S => .ok (.bl (decide (a = b))) S
  | _, _, _ => .bad
def eTupRg (a : ME) : ME := fun E S => (a E S).bind fun x S1 => match x with
  | .int n => if 0 ≤ n ∧ n ≤ SL then .ok (.tup ((List.range n.toNat).map fun i : Nat => .int (i : Int))) S1 else .bad
  | _ => .bad
def kD : Ky → D
  | .inl i => .int i
  | .inr x => .str x
def itemsS (ks : List Ky) (ds : List D) : List D := List.zipWith (fun k d => D.tup [kD k, d]) ks ds
def iItemsJ (ma : ME) : MI := fun E S => (ma E S).bind fun x S1 => match x with
  | .dct ks ds => .ok (Src.its (itemsS ks ds)) S1
  | _ => .bad
def iMul : D → D → List D → R D
  | .int i, .int j, S => if smallI i = true ∨ smallI j = true then .ok (.int (i * j)) S else .bad
  | _, _, _ => .bad
def bGcd : List D → List D → R D
  | [.int i, .int j], S => .ok (.int (Nat.gcd i.natAbs j.natAbs : Nat)) S
  | _, _ => .bad
def bLcm : List D → List D → R D
  | [.int i, .int j], S => if i.natAbs < 18446744073709551616 ∧ j.natAbs < 18446744073709551616 then .ok (.int (Nat.lcm i.natAbs j.natAbs : Nat)) S else .bad
  | _, _ => .bad
end J
set_option linter.all false
set_option maxRecDepth 100000
/-! more values and operations: `is not True` -/
namespace J
def oNotB : D → D → List D → R D
  | .bl a, .bl b, S => .ok (.bl (!decide (a = b))) S
  | _, _, _ => .bad
end J
namespace J
def bMinN : List D → List D → R D
  | [x], S => match seqOf S x with
    | some xs => match intsOf xs with
      | some (n :: ns) => .ok (.int (ns.foldl (fun a y => if y < a then y else a) n)) S
      | some [] => .ok .non S
      | none => .bad
    | none => .bad
  | _, _ => .bad
end J
namespace J
def bAnyS : List D → List D → R D
  | [x], S => match seqOf S x with
    | some xs => match scals xs with
      | some bs => .ok (.bl (bs.any id)) S
      | none => .bad
    | none => .bad
  | _, _ => .bad
end J
set_option linter.all false
set_option maxRecDepth 100000
/-! dicts whose keys are tuples -/
namespace J
def dctT (S : List D) : D → Option (List (List Ky) × List D)
  | .dcT ks ds => some (ks, ds)
  | .loc n => match S[n]? with
    | some (.dcT ks ds) => some (ks, ds)
    | _ => none
  | _ => none
def getT : List (List Ky) → List D → List Ky → Option D
  | q :: ks, d :: ds, k => if q = k then some d else getT ks ds k
  | _, _, _ => none
def eDctTL : ME := fun _ S => .ok (.loc S.length) (S ++ [.dcT [] []])
def kDispT (x y : D) (S : List D) : R D := match keyT x with
  | some q => .ok (.dcT [q] [y]) S
  | none => .bad
def eDispT (k v : ME) : ME := fun E S => (k E S).bind fun x S1 => (v E S1).bind fun y S2 => kDispT x y S2
def eGet2T (o a b : ME) : ME := fun E S => (o E S).bind fun x S1 => if (dctT S1 x).isSome = true then (a E S1).bind fun y S2 => (b E S2).bind fun z S3 => match dctT S3 x, keyT y with
  | some (ks, ds), some q => .ok ((getT ks ds q).getD z) S3
  | _, _ => .bad else .bad
def itemsT (ks : List (List Ky)) (ds : List D) : List D := List.zipWith (fun k d => D.tup [.tup (k.map kD), d]) ks ds
def iItemsT (ma : ME) : MI := fun E S => (ma E S).bind fun x S1 => match x with
  | .dcT ks ds => .ok (Src.its (itemsT ks ds)) S1
  | _ => .bad
end J
set_option linter.all false
set_option maxRecDepth 100000
/-! exceptions of own classes without fields; tuples of known make -/
namespace J
open PySem (Str)
def sRaise (c : Str) : MS := fun E S => .exc c [] E S
def sTryIs (kt : Str → Option Bool) (i j : Nat) (u v : D) (mb : MS) : MS := fun E S => match mb E S with
  | .exc c fs E1 S1 => if (fs.isEmpty && decide (i < E1.length)) = true then (match kt c with
    | some b => .nx ((E1.set j (some (if b = true then u else v))).set i none) S1
    | none => .bad) else .bad
  | o => o
def bTupK : List D → List D → R D
  | [x], S => match lstOf S x with
    | some xs => .ok (.tuk xs) S
    | none => .bad
  | _, _ => .bad
def mCountK : D → List D → List D → R D
  | .tuk xs, [.int k], S => match intsOf xs with
    | some ns => .ok (.int (ns.count k : Nat)) S
    | none => .bad
  | _, _, _ => .bad
def isTuk : D → Bool
  | .tuk _ => true
  | _ => false
def eMethK (f : D → List D → List D → R D) (o : ME) (a : MA) : ME := fun E S => (o E S).bind fun x S1 => if isTuk x = true then (a E S1).bind fun xs S2 => f x xs S2 else .bad
end J
set_option linter.all false
set_option maxRecDepth 100000
/-! comprehensions with two fors: the new list stands at the end of the store while the second source is gone over -/
namespace J
def lcIn (src : Src) (t : Tg) (c : MT) (e : ME) (E : Env) (p : Nat) : Nat → Nat → List D → Option (List D)
  | 0, _, S => if src.alive S = true then some S else none
  | k + 1, i, S => if src.alive S = true then match src.at_ S i with
    | none => none
    | some d => match t.bind d E with
      | none => none
      | some E1 => match c E1 S with
        | .ok b S1 => if b = true then match e E1 S1 with
            | .ok x S2 => match S2[p]? with
              | some (.lst acc) => if S2.length = p + 1 ∧ acc.length < SL then lcIn src t c e E p k (i + 1) (S2.set p (.lst (acc ++ [x]))) else none
              | _ => none
            | _ => none
          else if S1.length = p + 1 then lcIn src t c e E p k (i + 1) S1 else none
        | _ => none
    else none
def lcGo2 (src : Src) (t : Tg) (c : MT) (own1 : List Nat) (m1 : MI) (t1 : Tg) (c1 : MT) (e : ME) (E : Env) : Nat → Nat → List D → List D → R (List D)
  | 0, _, acc, S => if src.alive S = true then .ok acc S else .bad
  | k + 1, i, acc, S => if src.alive S = true then match src.at_ S i with
    | none => .bad
    | some d => match t.bind d E with
      | none => .bad
      | some E1 => match c E1 S with
        | .ok b S1 => if b = true then match m1 E1 (S1 ++ [.lst acc]) with
            | .ok src1 S2 => match lcIn src1 t1 c1 e (wipeE E1 own1) S1.length src1.len 0 S2 with
              | some S3 => if S2.length = S1.length + 1 ∧ S3.length = S1.length + 1 ∧ S3.all D.flat = true then match S3[S1.length]? with
                | some (.lst acc3) => lcGo2 src t c own1 m1 t1 c1 e E k (i + 1) acc3 (S3.take S1.length)
                | _ => .bad else .bad
              | none => .bad
            | _ => .bad
          else lcGo2 src t c own1 m1 t1 c1 e E k (i + 1) acc S1
        | _ => .bad
    else .bad
def lcRun2 (own : List Nat) (t : Tg) (m : MI) (c : MT) (own1 : List Nat) (m1 : MI) (t1 : Tg) (c1 : MT) (e : ME) : Env → List D → R (List D) := fun E S => match m E S with
  | .ok src S1 => lcGo2 src t c own1 m1 t1 c1 e (wipeE E own) src.len 0 [] S1
  | .exc c fs S1 => .exc c fs S1
  | .bad => .bad
def eLc2 (own : List Nat) (t : Tg) (m : MI) (c : MT) (own1 : List Nat) (m1 : MI) (t1 : Tg) (c1 : MT) (e : ME) : ME := fun E S => (lcRun2 own t m c own1 m1 t1 c1 e E S).bind fun acc S1 => .ok (.lst acc) S1
def eLc2L (own : List Nat) (t : Tg) (m : MI) (c : MT) (own1 : List Nat) (m1 : MI) (t1 : Tg) (c1 : MT) (e : ME) : ME := fun E S => (lcRun2 own t m c own1 m1 t1 c1 e E S).bind fun acc S1 => .ok (.loc S1.length) (S1 ++ [.lst acc])
end J
set_option linter.all false
set_option maxRecDepth 100000
/-! order of tuples: sorted, min, max of data -/
namespace J
mutual
def D.lt : D → D → Bool
  | .int a, .int b => decide (a < b)
  | .tup xs, .tup ys => D.lts xs ys
  | _, _ => false
def D.lts : List D → List D → Bool
  | [], [] => false
  | [], _ :: _ => true
  | _ :: _, [] => false
  | x :: xs, y :: ys => if D.eqB x y = true then D.lts xs ys else D.lt x y
end
mutual
def D.shp : D → D → Bool
  | .int _, .int _ => true
  | .tup xs, .tup ys => D.shps xs ys
  | _, _ => false
def D.shps : List D → List D → Bool
  | [], [] => true
  | x :: xs, y :: ys => x.shp y && D.shps xs ys
  | _, _ => false
end
def allInt : List D → Bool
  | [] => true
  | .int _ :: r => allInt r
  | _ :: _ => false
def intTup : D → Bool
  | .tup (x :: xs) => allInt (x :: xs)
  | _ => false
def sortHd : D → Bool
  | .tup (_ :: _) => true
  | .int _ => true
  | _ => false
def insD (n : D) : List D → List D
  | [] => [n]
  | m :: ms => if D.lt m n = true then m :: insD n ms else n :: m :: ms
def sortD : List D → List D
  | [] => []
  | n :: ns => insD n (sortD ns)
def ordOk (x : D) : Bool := x.cmpb && decide (x.depth ≤ 60)
def okSort (xs : List D) : Bool := match xs with
  | [] => true
  | [_] => true
  | x :: _ => xs.all ordOk && (xs.all intTup || (sortHd x && xs.all fun y => x.shp y))
def lstAny (S : List D) : D → Option (List D)
  | .lst ds => some ds
  | .rdl ds => some ds
  | .loc n => match S[n]? with
    | some (.lst ds) => some ds
    | _ => none
  | _ => none
def bSortedD : List D → List D → R D
  | [x], S => match lstAny S x with
    | some xs => if okSort xs = true then .ok (.lst (sortD xs)) S else .bad
    | none => .bad
  | _, _ => .bad
end J
namespace J
def sDrop (ids : List Nat) (m : MS) : MS := fun E S => match m E S with
  | .nx E1 S1 => .nx (wipeE E1 ids) S1
  | _ => .bad
end J
set_option linter.all false
set_option maxRecDepth 100000
/-! exceptions of own classes that keep a whole number as their field -/
namespace J
open PySem (Str)
def sRaiseF (c f : Str) (a : ME) : MS := fun E S => (a E S).toO E fun d S1 => match d with
  | .int i => if i.natAbs.log2 < 1920 then .exc c [(f, .int i)] E S1 else .bad
  | _ => .bad
def sTryFld (kt : Str → Option Bool) (f : Str) (i j : Nat) (v : D) (mb : MS) : MS := fun E S => match mb E S with
  | .exc c fs E1 S1 => if i < E1.length then (match kt c with
    | some true => (match fs with
      | [(g, d)] => if g = f then .nx ((E1.set j (some d)).set i none) S1 else .bad
      | _ => .bad)
    | some false => .nx ((E1.set j (some v)).set i none) S1
    | none => .bad) else .bad
  | o => o
end J
set_option linter.all false
set_option maxRecDepth 100000
/-! more of tuples of known make: len, in, index; list(range(n)) -/
namespace J
def bLenK : List D → List D → R D
  | [.tuk xs], S => .ok (.int xs.length) S
  | xs, S => bLen xs S
def oInK (x y : D) (S : List D) : R D := match y with
  | .tuk xs => if cmpOk (seen S x) = true ∧ xs.all cmpOk = true then .ok (.bl (inD (seen S x) xs)) S else .bad
  | _ => oIn x y S
def oNinK (x y : D) (S : List D) : R D := match y with
  | .tuk xs => if cmpOk (seen S x) = true ∧ xs.all cmpOk = true then .ok (.bl (!inD (seen S x) xs)) S else .bad
  | _ => oNin x y S
def mIndexK : D → List D → List D → R D
  | .tuk xs, [.int k], S => match intsOf xs with
    | some ns => if k ∈ ns then .ok (.int (ns.idxOf k : Nat)) S else .bad
    | none => .bad
  | _, _, _ => .bad
def mIndexL : D → List D → List D → R D
  | x, [.int k], S => match lstAny S x with
    | some xs => match intsOf xs with
      | some ns => if k ∈ ns then .ok (.int (ns.idxOf k : Nat)) S else .bad
      | none => .bad
    | none => .bad
  | _, _, _ => .bad
def eLstRg (a : ME) : ME := fun E S => (a E S).bind fun x S1 => match x with
  | .int n => if 0 ≤ n ∧ n ≤ SL then .ok (.lst ((List.range n.toNat).map fun i : Nat => .int (i : Int))) S1 else .bad
  | _ => .bad
end J
set_option linter.all false
set_option maxRecDepth 100000
/-! l.extend(l2) -/
namespace J
def mExtend : D → List D → List D → R D
  | .loc n, [y], S => match S[n]? with
    | some (.lst xs) => match lstOf S y with
      | some zs => if xs.length + zs.length ≤ SL then .ok .non (S.set n (.lst (xs ++ zs))) else .bad
      | none => .bad
    | _ => .bad
  | _, _, _ => .bad
end J
set_option linter.all false
set_option maxRecDepth 100000
/-! min of tuples of one shape -/
namespace J
def minT (x : D) (xs : List D) : D := xs.foldl (fun a y => if D.lt y a = true then y else a) x
def okMin (x : D) (xs : List D) : Bool := (x :: xs).all ordOk && (x :: xs).all fun y => x.shp y
def bMinT : List D → List D → R D
  | [x], S => match lstAny S x with
    | some (y :: ys) => if okMin y ys = true then .ok (minT y ys) S else .bad
    | _ => .bad
  | _, _ => .bad
end J
set_option linter.all false
set_option maxRecDepth 100000
/-! an except that returns -/
namespace J
open PySem (Str)
def sTryRet (kt : Str → Option Bool) (f : Str) (i : Nat) (k : Int) (mb : MS) : MS := fun E S => match mb E S with
  | .exc c fs E1 S1 => if i < E1.length then (match kt c with
    | some true => (match fs with
      | [(g, .int m)] => if g = f then .rt (.bl (decide (m = k))) S1 else .bad
      | _ => .bad)
    | some false => .rt (.bl false) S1
    | none => .bad) else .bad
  | o => o
end J
set_option linter.all false
set_option maxRecDepth 100000
/-! range(a, b, -1); d.setdefault(k, x) of a dict that changes -/
namespace J
def iRngDn (a b c : ME) : MI := fun E S => (a E S).bind fun x S1 => (b E S1).bind fun y S2 => (c E S2).bind fun z S3 => match x, y, z with
  | .int i, .int j, .int k => if okR i = true ∧ okR j = true ∧ k = -1 then .ok (.its ((List.range (i - j).toNat).map fun t : Nat => .int (i + (t : Nat) * -1))) S3 else .bad
  | _, _, _ => .bad
def isDctB (S : List D) : D → Bool
  | .loc n => match S[n]? with
    | some (.dct _ _) => true
    | some (.dcT _ _) => true
    | _ => false
  | _ => false
def kSetd (x y z : D) (S : List D) : R D := match x with
  | .loc n => match S[n]? with
    | some (.dct ks ds) => match keyOf y with
      | some k => match getK ks ds k with
        | some d => if ks.length < SL then .ok d S else .bad
        | none => if ks.length < SL then .ok z (S.set n (.dct (ks ++ [k]) (ds ++ [z]))) else .bad
      | none => .bad
    | some (.dcT ks ds) => match keyT y with
      | some k => match getT ks ds k with
        | some d => if ks.length < SL then .ok d S else .bad
        | none => if ks.length < SL then .ok z (S.set n (.dcT (ks ++ [k]) (ds ++ [z]))) else .bad
      | none => .bad
    | _ => .bad
  | _ => .bad
def eSetd (o a b : ME) : ME := fun E S => (o E S).bind fun x S1 => if isDctB S1 x = true then (a E S1).bind fun y S2 => (b E S2).bind fun z S3 => kSetd x y z S3 else .bad
def forGoN (src : Src) (t : Tg) (b : MS) : Nat → Nat → Env → List D → O
  | 0, _, E, S => if src.alive S = true then .nx E S else .bad
  | k + 1, i, E, S => if src.alive S = true then match src.at_ S i with
    | none => .bad
    | some d => match t.bind d E with
      | none => .bad
      | some E1 => match b E1 S with
        | .nx E2 S2 => forGoN src t b k (i + 1) E2 S2
        | .ct E2 S2 => forGoN src t b k (i + 1) E2 S2
        | .bk E2 S2 => .nx E2 S2
        | o => o
    else .bad
def sForN (t : Tg) (m : MI) (b : MS) : MS := fun E S => match m E S with
  | .ok src S1 => forGoN src t b src.len 0 E S1
  | .exc c fs S1 => .exc c fs E S1
  | .bad => .bad
def oMulR : D → D → List D → R D
  | .int k, .tup xs, S => if xs ≠ [] ∧ 2 ≤ k ∧ k ≤ 1000 ∧ xs.length ≤ 1000 then .ok (.tup (List.replicate k.toNat xs).flatten) S else .bad
  | .int k, y, S => match lstOf S y with
    | some xs => if -9223372036854775808 ≤ k ∧ k < 9223372036854775808 ∧ xs.length * k.toNat ≤ SL then .ok (.lst (List.replicate k.toNat xs).flatten) S else .bad
    | none => .bad
  | _, _, _ => .bad
def dcGoL (src : Src) (t : Tg) (c : MT) (ek ev : ME) (E : Env) (n : Nat) : Nat → Nat → List Ky → List D → List D → R D
  | 0, _, ks, ds, S => if src.alive S = true then .ok (.loc S.length) (S ++ [.dct ks ds]) else .bad
  | k + 1, i, ks, ds, S => if src.alive S = true then match src.at_ S i with
    | none => .bad
    | some d => match t.bind d E with
      | none => .bad
      | some E1 => match c E1 S with
        | .ok b S1 => if b = true then match ek E1 S1 with
            | .ok x S2 => match keyOf x with
              | none => .bad
              | some q => match ev E1 S2 with
                | .ok y S3 => if n ≤ S3.length then dcGoL src t c ek ev E n k (i + 1) (putKs ks q) (putDs ks ds q y) S3 else .bad
                | _ => .bad
            | _ => .bad
          else if n ≤ S1.length then dcGoL src t c ek ev E n k (i + 1) ks ds S1 else .bad
        | _ => .bad
    else .bad
def eDcL (own : List Nat) (t : Tg) (m : MI) (c : MT) (ek ev : ME) : ME := fun E S => match m E S with
  | .ok src S1 => if src.len ≤ SL then dcGoL src t c ek ev (wipeE E own) S1.length src.len 0 [] [] S1 else .bad
  | .exc c fs S1 => .exc c fs S1
  | .bad => .bad
def bListD : List D → List D → R D
  | [.loc n], S => match S[n]? with
    | some (.dct ks _) => .ok (.lst (ks.map kD)) S
    | _ => .bad
  | _, _ => .bad
end J
set_option linter.all false
set_option maxRecDepth 100000
/-! min(xs, key=f), f a def that gives an int and changes nothing -/
namespace J
def keyF (F : MF) (d : D) : Option (D × Int) := if d.flat = true then match F [d] [] with
  | .ok (.int k) [] => some (d, k)
  | _ => none else none
def minK (p : D × Int) (ps : List (D × Int)) : D × Int := ps.foldl (fun a y => if decide (y.2 < a.2) = true then y else a) p
def bMinK (F : MF) : List D → List D → R D
  | [x], S => match lstAny S x with
    | some ys => match ys.mapM (keyF F) with
      | some (p :: ps) => .ok (minK p ps).1 S
      | _ => .bad
    | none => .bad
  | _, _ => .bad
/-! dicts whose keys are tuples: d[k], in; {k: v} that changes -/
def keyInT (ks : List (List Ky)) (k : List Ky) : Bool := ks.any fun q => decide (q = k)
def oIxT (x i : D) (S : List D) : R D := match dctT S x with
  | some (ks, ds) => match keyT i with
    | some k => match getT ks ds k with
      | some d => .ok d S
      | none => .bad
    | none => .bad
  | none => .bad
def oInT (x y : D) (S : List D) : R D := match dctT S y with
  | some (ks, _) => match keyT x with
    | some k => .ok (.bl (keyInT ks k)) S
    | none => .bad
  | none => .bad
def oNinT (x y : D) (S : List D) : R D := match dctT S y with
  | some (ks, _) => match keyT x with
    | some k => .ok (.bl (!keyInT ks k)) S
    | none => .bad
  | none => .bad
def kDisp1T (x y : D) (S : List D) : R D := match keyT x with
  | some q => .ok (.loc S.length) (S ++ [.dcT [q] [y]])
  | none => .bad
def eDisp1TL (k v : ME) : ME := fun E S => (k E S).bind fun x S1 => (v E S1).bind fun y S2 => kDisp1T x y S2
end J
namespace J
open PySem (Str)
def sTryC (kt : Str → Option Bool) (v : D) (mb : MS) : MS := fun E S => match mb E S with
  | .exc c _ _ S1 => match kt c with
    | some _ => .rt v S1
    | none => .bad
  | o => o
end J
namespace J
def oAddL (x y : D) (S : List D) : R D := mkL (oAdd x y S)
end J
set_option linter.all false
set_option maxRecDepth 100000
/-! tuples of known make that are made by +, slices, * n; what else is asked of them -/
namespace J
def bTupD (xs : List D) (S : List D) : R D := if xs.length ≤ SL then .ok (.tuk xs) S else .bad
def oAddK (x y : D) (S : List D) : R D := match x, y with
  | .tuk xs, .tuk ys => if xs.length + ys.length ≤ SL then .ok (.tuk (xs ++ ys)) S else .bad
  | _, _ => oAdd x y S
def oSlK (x : D) (lo hi : Option Int) (S : List D) : R D := match x with
  | .tuk xs => .ok (.tuk (cutOf xs lo hi)) S
  | _ => oSl x lo hi S
def eSlK (a : ME) (lo hi : Option ME) : ME := fun E S => (a E S).bind fun x S1 => (ePart lo E S1).bind fun l S2 => (ePart hi E S2).bind fun h S3 => oSlK x l h S3
def oRevK (x : D) (S : List D) : R D := match x with
  | .tuk xs => .ok (.tuk xs.reverse) S
  | _ => .bad
def eRevK (ma : ME) : ME := eUn oRevK ma
def oMulK (x y : D) (S : List D) : R D := match x, y with
  | .tuk [d], .int k => if 0 ≤ k ∧ k ≤ 1000 then .ok (.tuk (List.replicate k.toNat d)) S else .bad
  | _, _ => .bad
def oIxK (x i : D) (S : List D) : R D := match x with
  | .tuk xs => match i with
    | .int k => match atOf xs k with
      | some d => .ok d S
      | none => .bad
    | _ => .bad
  | _ => oIx x i S
def oNeK (x y : D) (S : List D) : R D := match x, y with
  | .tuk xs, .tup [] => if cmpOk (.tup xs) = true then .ok (.bl (!xs.isEmpty)) S else .bad
  | _, _ => oNe x y S
def bListK : List D → List D → R D
  | [.tuk xs], S => .ok (.lst xs) S
  | xs, S => bList xs S
def bSortedK : List D → List D → R D
  | [.tuk xs], S => match intsOf xs with
    | some ns => .ok (.lst ((sortI ns).map D.int)) S
    | none => .bad
  | xs, S => bSorted xs S
end J
set_option linter.all false
set_option maxRecDepth 100000
/-! a tuple of known make of any items, n times -/
namespace J
def oMulG (x y : D) (S : List D) : R D := match x, y with
  | .tuk xs, .int k => if xs ≠ [] ∧ 2 ≤ k ∧ k ≤ 1000 ∧ xs.length ≤ 1000 then .ok (.tuk (List.replicate k.toNat xs).flatten) S else .bad
  | _, _ => .bad
end J
set_option linter.all false
set_option maxRecDepth 100000
/-! dicts whose keys are tuples: list(d), sorted(d.keys()) -/
namespace J
open PySem (Str)
def tupK (k : List Ky) : D := .tup (k.map kD)
def bListT : List D → List D → R D
  | [x], S => match dctT S x with
    | some (ks, _) => if ks.length ≤ SL then .ok (.lst (ks.map tupK)) S else .bad
    | none => .bad
  | _, _ => .bad
def kSortT (x : D) (S : List D) : R D := match dctT S x with
  | some (ks, _) => if okSort (ks.map tupK) = true then .ok (.lst (sortD (ks.map tupK))) S else .bad
  | none => .bad
def eSortT (a : ME) : ME := fun E S => (a E S).bind fun x S1 => kSortT x S1
def bLenT : List D → List D → R D
  | [.loc n], S => match S[n]? with
    | some (.dcT ks _) => .ok (.int ks.length) S
    | _ => .bad
  | _, _ => .bad
/-! loops whose turns leave new objects in names: these stay as they are from then on -/
def goneF (n : Nat) (S : List D) : Option D → Option D
  | some d => if D.flat d = true then some d else match d with
    | .loc k => if k < n then some (.loc k) else match S[k]? with
      | some (.tab _) => none
      | some (.tup _) => none
      | some o => if D.flat o = true then some o else none
      | none => none
    | _ => none
  | none => none
def gcF (n : Nat) (E : Env) (S : List D) : Option (Env × List D) :=
  if S.length = n then some (E, S) else if n ≤ S.length ∧ (S.take n).all D.flat = true then some (E.map (goneF n S), S.take n) else none
def forGoF (src : Src) (t : Tg) (b : MS) (n : Nat) : Nat → Nat → Env → List D → O
  | 0, _, E, S => if src.alive S = true then .nx E S else .bad
  | k + 1, i, E, S => if src.alive S = true then match src.at_ S i with
    | none => .bad
    | some d => match t.bind d E with
      | none => .bad
      | some E1 => match b E1 S with
        | .nx E2 S2 => match gcF n E2 S2 with
          | some (E3, S3) => forGoF src t b n k (i + 1) E3 S3
          | none => .bad
        | .ct E2 S2 => match gcF n E2 S2 with
          | some (E3, S3) => forGoF src t b n k (i + 1) E3 S3
          | none => .bad
        | .bk E2 S2 => .nx E2 S2
        | o => o
    else .bad
def sForF (t : Tg) (m : MI) (b : MS) : MS := fun E S => match m E S with
  | .ok src S1 => forGoF src t b S1.length src.len 0 E S1
  | .exc c fs S1 => .exc c fs E S1
  | .bad => .bad
def whileGoF (t : MT) (b : MS) (n : Nat) : Nat → Env → List D → O
  | 0, _, _ => .bad
  | k + 1, E, S => (t E S).tO E fun c S1 => if c = true then match b E S1 with
      | .nx E2 S2 => match gcF n E2 S2 with
        | some (E3, S3) => whileGoF t b n k E3 S3
        | none => .bad
      | .ct E2 S2 => match gcF n E2 S2 with
        | some (E3, S3) => whileGoF t b n k E3 S3
        | none => .bad
      | .bk E2 S2 => .nx E2 S2
      | o => o
    else .nx E S1
def sWhileF (fuel : Nat) (t : MT) (b : MS) : MS := fun E S => whileGoF t b S.length fuel E S
end J
namespace J
/-! for .. in d.keys(), the keys tuples; statements whose new objects stay behind them -/
def iKeysT (ma : ME) : MI := fun E S => (ma E S).bind fun x S1 => match x with
  | .dcT ks _ => .ok (Src.its (ks.map tupK)) S1
  | _ => .bad
def sGcF (m : MS) : MS := fun E S => match m E S with
  | .nx E1 S1 => match gcF S.length E1 S1 with
    | some (E2, S2) => .nx E2 S2
    | none => .bad
  | o => o
end J
set_option linter.all false
set_option maxRecDepth 100000
/-! permutations(range(n)) -/
namespace J
def pnx (n : Nat) : Nat → List Nat → List Nat → Option (List Nat × List Nat)
  | 0 => fun _ _ => none
  | p + 1 => fun ix cy =>
    if (cy.getD p 0 - 1 == 0) = true then pnx n p (ix.take p ++ ix.drop (p + 1) ++ [ix.getD p 0]) (cy.set p (n - p))
    else some ((ix.set p (ix.getD (n - (cy.getD p 0 - 1)) 0)).set (n - (cy.getD p 0 - 1)) (ix.getD p 0), cy.set p (cy.getD p 0 - 1))
def permRun (n : Nat) : Nat → List Nat → List Nat → Option (List (List Nat))
  | 0, _, _ => none
  | f + 1, ix, cy => match pnx n n ix cy with
    | none => some [ix]
    | some (a, b) => (permRun n f a b).map (ix :: ·)
def permsOf (n : Nat) : Option (List (List Nat)) := permRun n 100000 (List.range n) ((List.range n).map fun i => n - i)
def rowD (fz : Bool) (row : List Nat) : D := if fz = true then .tuk (row.map fun k : Nat => D.int k) else .tup (row.map fun k : Nat => D.int k)
def kPerm (fz : Bool) (x : D) (S : List D) : R Src := match x with
  | .int j => if 0 ≤ j ∧ j ≤ 100 then match permsOf j.toNat with
    | some L => .ok (Src.its (L.map (rowD fz))) S
    | none => .bad
    else .bad
  | _ => .bad
def iPermRg (fz : Bool) (a : ME) : MI := fun E S => (a E S).bind fun x S1 => kPerm fz x S1
end J
set_option linter.all false
set_option maxRecDepth 100000
/-! combinations(range(n), m) -/
namespace J
def cnx (n : Nat) (ix : List Nat) : Option (List Nat) :=
  ((List.range ix.length).reverse.find? fun i => ix.getD i 0 != i + n - ix.length).map fun i => ix.take i ++ (List.range (ix.length - i)).map fun j => ix.getD i 0 + 1 + j
def combRun (n : Nat) : Nat → List Nat → Option (List (List Nat))
  | 0, _ => none
  | f + 1, ix => match cnx n ix with
    | none => some [ix]
    | some a => (combRun n f a).map (ix :: ·)
def combsOf (n m : Nat) : Option (List (List Nat)) := combRun n 100000 (List.range m)
def kComb (x : D) (y : Option (Option D)) (S : List D) : R Src := match x, y with
  | .int i, some (some (.int j)) => if 0 ≤ i ∧ i ≤ 100 ∧ 0 ≤ j ∧ j ≤ i then match combsOf i.toNat j.toNat with
    | some L => .ok (Src.its (L.map (rowD false))) S
    | none => .bad
    else .bad
  | _, _ => .bad
def iCombRg (a : ME) (k : Nat) : MI := fun E S => (a E S).bind fun x S1 => kComb x (E[k]?) S1
end J
set_option linter.all false
set_option maxRecDepth 100000
/-! truth of tuples of known make -/
namespace J
def tTrK (a : ME) : MT := fun E S => (a E S).bind fun x S1 => match x with
  | .tuk xs => .ok (!xs.isEmpty) S1
  | x => match truth S1 x with
    | some c => .ok c S1
    | none => .bad
end J
namespace J
def mExtendS : D → List D → List D → R D
  | .loc n, [y], S => match S[n]? with
    | some (.lst xs) => match y with
      | .tup zs => if xs.length + zs.length ≤ SL then .ok .non (S.set n (.lst (xs ++ zs))) else .bad
      | .tuk zs => if xs.length + zs.length ≤ SL then .ok .non (S.set n (.lst (xs ++ zs))) else .bad
      | y => mExtend (.loc n) [y] S
    | _ => .bad
  | _, _, _ => .bad
end J
set_option linter.all false
set_option maxRecDepth 100000
/-! sorted of a list of tuples of known make, of ints -/
namespace J
def tukRow : D → Option D
  | .tuk (z :: r) => if allInt (z :: r) = true then some (.tup (z :: r)) else none
  | _ => none
def tukRows : List D → Option (List D)
  | [] => some []
  | d :: ds => match tukRow d, tukRows ds with
    | some a, some b => some (a :: b)
    | _, _ => none
def toTuk : D → D
  | .tup es => .tuk es
  | d => d
def bSortedU : List D → List D → R D
  | [x], S => match lstAny S x with
    | some xs => match tukRows xs with
      | some rows => if rows.all ordOk = true then .ok (.lst ((sortD rows).map toTuk)) S else .bad
      | none => .bad
    | none => .bad
  | _, _ => .bad
end J
set_option linter.all false
set_option maxRecDepth 100000
/-! min of a list of tuples of known make, of one shape -/
namespace J
def unTuks : List D → Option (List D)
  | [] => some []
  | .tuk es :: ds => (unTuks ds).map (.tup es :: ·)
  | _ :: _ => none
def bMinU : List D → List D → R D
  | [x], S => match lstAny S x with
    | some xs => match unTuks xs with
      | some (y :: ys) => if okMin y ys = true then .ok (toTuk (minT y ys)) S else .bad
      | _ => .bad
    | none => .bad
  | _, _ => .bad
def oNeU (x y : D) (S : List D) : R D := match x, y with
  | .lst ds, .lst [] => match unTuks ds with
    | some rows => if cmpOk (.lst rows) = true then .ok (.bl (!rows.isEmpty)) S else .bad
    | none => oNe (.lst ds) (.lst []) S
  | _, _ => oNe x y S
end J
set_option linter.all false
set_option maxRecDepth 100000
/-! texts; copies of dicts; values that stay as they are made -/
namespace J
open PySem (Str)
def oIxS (x y : D) (S : List D) : R D := match x, y with
  | .str z, .int i => if 0 ≤ i ∧ i < z.length ∧ z.length ≤ 1000000 then match z.cps[i.toNat]? with
    | some c => .ok (.str ⟨#[c]⟩) S
    | none => .bad
    else .bad
  | _, _ => .bad
def oInS (x y : D) (S : List D) : R D := match x, y with
  | .str a, .str z => match a.cps.toList with
    | [c] => .ok (.bl (decide (c ∈ z.cps.toList))) S
    | _ => .bad
  | _, _ => .bad
def bLenS : List D → List D → R D
  | [.str y], S => if y.length ≤ SL then .ok (.int y.length) S else .bad
  | xs, S => bLen xs S
def bIntS : List D → List D → R D
  | [.str a], S => match PySem.intText? a with
    | some n => if a.length ≤ 640 then .ok (.int n) S else .bad
    | none => .bad
  | xs, S => bInt xs S
def bStrI : List D → List D → R D
  | [.int i], S => if i.natAbs.log2 < 1920 then .ok (.str (toString i)) S else .bad
  | _, _ => .bad
def kFmt (x : D) (S : List D) : R D := match x with
  | .str y => if y.length ≤ SL then .ok (.str y) S else .bad
  | .int i => if i.natAbs.log2 < 1920 then .ok (.str (toString i)) S else .bad
  | _ => .bad
def eFmt (a : ME) : ME := fun E S => (a E S).bind kFmt
def jsRun : List ME → Str → Env → List D → R D
  | [], acc, _, S => .ok (.str acc) S
  | p :: ps, acc, E, S => (p E S).bind fun x S1 => match x with
    | .str y => if (acc ++ y).length ≤ SL then jsRun ps (acc ++ y) E S1 else .bad
    | _ => .bad
def eJs (ps : List ME) : ME := jsRun ps Str.empty
def strsOf : List D → Option (List Str)
  | [] => some []
  | .str y :: r => (strsOf r).map (y :: ·)
  | _ :: _ => none
def kJoin (x y : D) (S : List D) : R D := match x with
  | .str a => match seqOf S y with
    | some ds => match strsOf ds with
      | some ys => if (ys.map (·.length)).sum + ys.length * a.length ≤ SL then .ok (.str (PySem.Txt.join a ys)) S else .bad
      | none => .bad
    | none => .bad
  | _ => .bad
def eJoin (a b : ME) : ME := fun E S => (a E S).bind fun x S1 => match x with
  | .str _ => (b E S1).bind fun y S2 => kJoin x y S2
  | _ => .bad
def bDictL : List D → List D → R D
  | [x], S => match dctOf S x with
    | some (ks, ds) => .ok (.loc S.length) (S ++ [.dct ks ds])
    | none => .bad
  | _, _ => .bad
def eFrz (m : ME) : ME := fun E S => match m E S with
  | .ok d S1 => match gcF S.length [some d] S1 with
    | some ([some d'], S') => .ok d' S'
    | _ => .bad
  | _ => .bad
end J
set_option linter.all false
set_option maxRecDepth 100000
/-! max(xs, default=0); len(set(t)) of ints -/
namespace J
def bMaxZ : List D → List D → R D
  | [x], S => match seqOf S x with
    | some xs => match intsOf xs with
      | some (n :: ns) => .ok (.int (ns.foldl (fun a y => if y > a then y else a) n)) S
      | some [] => .ok (.int 0) S
      | none => .bad
    | none => .bad
  | _, _ => .bad
def dedupI (ns : List Int) : List Int := ns.foldl (fun acc x => if acc.any (· == x) then acc else acc ++ [x]) []
def eLenSetT (a : ME) : ME := fun E S => (a E S).bind fun x S1 => match x with
  | .tup xs => match intsOf xs with
    | some ns => if ns.length ≤ 1000 then .ok (.int (dedupI ns).length) S1 else .bad
    | none => .bad
  | _ => .bad
def oMulE (x y : D) (S : List D) : R D := match x, y with
  | .tup [], .int k => if 1 ≤ k ∧ k ≤ 1000 then .ok (.tup []) S else .bad
  | x, y => oMul x y S
end J
set_option linter.all false
set_option maxRecDepth 100000
/-! exceptions whose field is an int or None; handlers with two tests -/
namespace J
open PySem (Str)
def sRaiseN (c f : Str) (a : ME) : MS := fun E S => (a E S).toO E fun d S1 => match d with
  | .int i => if i.natAbs.log2 < 1920 then .exc c [(f, .int i)] E S1 else .bad
  | .non => .exc c [(f, .non)] E S1
  | _ => .bad
def sTryIs2 (k1 k2 : Str → Option Bool) (i j : Nat) (u v t : D) (mb : MS) : MS := fun E S => match mb E S with
  | .exc c fs E1 S1 => if i < E1.length then (match k1 c, k2 c with
    | some b1, some b2 => .nx ((E1.set j (some (if b1 = true then u else if b2 = true then v else t))).set i none) S1
    | _, _ => .bad) else .bad
  | o => o
end J
set_option linter.all false
set_option maxRecDepth 100000
/-! lambdas that are handed to a def that calls them and tells their error; pieces that are not read -/
namespace J
open PySem (Str)
def eBad : ME := fun _ _ => .bad
def sBad : MS := fun _ _ => .bad
noncomputable def eIsX (d0 : D) (b : Bool) (i : Nat) : ME := open Classical in fun E S => if E[i]? = some (some d0) then .ok (.bl b) S else .bad
noncomputable def eXf (d0 : D) (v : Option D) (i : Nat) : ME := open Classical in fun E S => match v with
  | some d => if E[i]? = some (some d0) then .ok d S else .bad
  | none => .bad
def boolsOf : List D → Option (List Bool)
  | [] => some []
  | .bl b :: r => (boolsOf r).map (b :: ·)
  | _ :: _ => none
def mCountB : D → List D → List D → R D
  | .lst xs, [.bl b], S => match boolsOf xs with
    | some bs => .ok (.int (bs.count b : Nat)) S
    | none => .bad
  | _, _, _ => .bad
def mIndexB : D → List D → List D → R D
  | .lst xs, [.bl b], S => match boolsOf xs with
    | some bs => if b ∈ bs then .ok (.int (bs.idxOf b : Nat)) S else .bad
    | none => .bad
  | _, _, _ => .bad
def fldOf (fs : List (Str × D)) (f : Str) : Option D := match fs with
  | [(g, .int k)] => if g = f then some (.int k) else none
  | [(g, .non)] => if g = f then some .non else none
  | _ => none
def errT (t : Str → Option (Str × Option Str)) : R D → R D
  | .ok _ S => .ok (.tup [.str (PySem.Str.ofString ""), .non]) S
  | .exc c fs S => match t c with
    | some (y, none) => .ok (.tup [.str y, .non]) S
    | some (y, some f) => (match fldOf fs f with
      | some d => .ok (.tup [.str y, d]) S
      | none => .bad)
    | none => .bad
  | .bad => .bad
def sufx (i : Nat) (m3 : MS) : O → O
  | .nx E S => m3 (E.set i none) S
  | .rt d S => .rt d S
  | _ => .bad
def eErr (n : Nat) (x : Str) (er : R D → R D) (m : ME) : ME := fun E S => match S[n]? with
  | some (.tab y) => if y = x then er (m E S) else .bad
  | _ => .bad
end J
set_option linter.all false
set_option maxRecDepth 100000
/-! calls of defs that stand in a list; dict displays; a call that is given a table too -/
namespace J
open PySem (Str)
def eCallV (mf : ME) (tab : List (Str × Nat × MF)) (n : Nat) (mr : MA) : ME := fun E S => (mf E S).bind fun d S1 => match d with
  | .fn x => (match tab.lookup x with
    | some (k, F) => if k = n then (mr E S1).bind fun ds S2 => callF F ds S2 else .bad
    | none => .bad)
  | _ => .bad
def oMulB (x y : D) (S : List D) : R D := match x, y with
  | .tup xs, .int k => if xs ≠ [] ∧ 2 ≤ k ∧ k ≤ 10000 ∧ xs.length ≤ 100 then .ok (.tup (List.replicate k.toNat xs).flatten) S else .bad
  | _, _ => .bad
def pNil : Env → List D → R (List (Ky × D)) := fun _ S => .ok [] S
def pCons (k : Str) (mv : ME) (mr : Env → List D → R (List (Ky × D))) : Env → List D → R (List (Ky × D)) := fun E S => (mv E S).bind fun d S1 => (mr E S1).bind fun ps S2 => .ok ((.inr k, d) :: ps) S2
def eDispN (m : Env → List D → R (List (Ky × D))) : ME := fun E S => (m E S).bind fun ps S1 => if (ps.map (·.1)).Nodup ∧ ps.length ≤ 15 then .ok (.loc S1.length) (S1 ++ [.dct (ps.map (·.1)) (ps.map (·.2))]) else .bad
def callTb (F : MF) (n : Nat) (ds S : List D) : R D := callF (fun ds' Sc => F (ds'.take ds.length) Sc) (ds ++ [.loc n]) S
def eErrK (er : R D → R D) (mix : ME) (ms : List ME) : ME := fun E S => (mix E S).bind fun d S1 => match d with
  | .int k => if 0 ≤ k then (match ms[k.toNat]? with
    | some m => er (m E S1)
    | none => .bad) else .bad
  | _ => .bad
noncomputable def eErrV (i : Nat) (ds : List D) (er : R D → R D) (mix : ME) (ms : List ME) : ME := open Classical in fun E S => if E[i]? = some (some (.lst ds)) then eErrK er mix ms E S else .bad
def O.mapE (f : Env → Env) : O → O
  | .nx E S => .nx (f E) S
  | .rt d S => .rt d S
  | .bk E S => .bk (f E) S
  | .ct E S => .ct (f E) S
  | .exc c fs E S => .exc c fs (f E) S
  | .bad => .bad
def sCalls (n : Nat) (x : Str) (i : Nat) (mc : MS) : MS := fun E S => match S[n]? with
  | some (.tab y) => if y = x ∧ i < E.length then mc E S else .bad
  | _ => .bad
end J
set_option linter.all false
set_option maxRecDepth 100000
namespace J
/-! xs.count(k), xs a list of ints and None; xs.insert(i, y) -/
def optsOf : List D → Option (List (Option Int))
  | [] => some []
  | .int i :: r => (optsOf r).map (some i :: ·)
  | .non :: r => (optsOf r).map (none :: ·)
  | _ :: _ => none
def mCountI : D → List D → List D → R D
  | .lst xs, [.int k], S => match optsOf xs with
    | some os => .ok (.int (os.count (some k) : Nat)) S
    | none => .bad
  | _, _, _ => .bad
def mInsert : D → List D → List D → R D
  | .loc n, [.int i, y], S => match S[n]? with
    | some (.lst xs) => if xs.length < SL ∧ 0 ≤ i ∧ i < 9223372036854775808 then .ok .non (S.set n (.lst (xs.take i.toNat ++ [y] ++ xs.drop i.toNat))) else .bad
    | _ => .bad
  | _, _, _ => .bad
end J
set_option linter.all false
set_option maxRecDepth 100000
/-! min(xs, key=lambda y: m): n the place of the table of code objects in the store, x the def that the lambda stands in -/
namespace J
open PySem (Str)
def lamF (m : ME) : MF := fun ds S => m (ds.map some) S
def eMinL (n : Nat) (x : Str) (m : ME) (ma : MA) : ME := fun E S => (ma E S).bind fun ds S1 => match S1[n]? with
  | some (.tab y) => if y = x then bMinK (lamF m) ds S1 else .bad
  | _ => .bad
def oNinS (x y : D) (S : List D) : R D := match x, y with
  | .str a, .str z => match a.cps.toList with
    | [c] => .ok (.bl (!decide (c ∈ z.cps.toList))) S
    | _ => .bad
  | _, _ => .bad
end J
set_option linter.all false
set_option maxRecDepth 100000
/-! dicts whose keys are tuples that hold tuples: in the store .tup [.tup keys, .tup values] -/
namespace J
open PySem (Str NestedKey)
mutual
def nkOf : D → Option NestedKey
  | .int i => some (.num i)
  | .tup ds => (nkOfs ds).map .tup
  | _ => none
def nkOfs : List D → Option (List NestedKey)
  | [] => some []
  | d :: ds => match nkOf d, nkOfs ds with
    | some k, some ks => some (k :: ks)
    | _, _ => none
end
def keyN : D → Option NestedKey
  | .tup ds => match nkOf (.tup ds) with
    | some k => if k.depth ≤ 8 then some k else none
    | none => none
  | _ => none
def inNk (ks : List D) (k : NestedKey) : Bool := ks.any fun q => decide (nkOf q = some k)
def putNk (ks ds : List D) (x : D) (k : NestedKey) (v : D) : D := if inNk ks k = true then .tup [.tup ks, .tup (ks.zipWith (fun q d => if nkOf q = some k then v else d) ds)] else .tup [.tup (ks ++ [x]), .tup (ds ++ [v])]
def insN (o k v : D) : Option D := match o with
  | .tup [.tup ks, .tup ds] => match keyN k with
    | some q => if ks.length < SL then some (putNk ks ds k q v) else none
    | none => none
  | _ => none
def putTk (ks : List (List Ky)) (ds : List D) (k : List Ky) (v : D) : D := if (ks.any fun q => decide (q = k)) = true then .dcT ks (ks.zipWith (fun q d => if q = k then v else d) ds) else .dcT (ks ++ [k]) (ds ++ [v])
def insT (o k v : D) : Option D := match o with
  | .dcT ks ds => match keyT k with
    | some q => if ks.length < SL then some (putTk ks ds q v) else none
    | none => none
  | _ => none
def emN : D := .tup [.tup [], .tup []]
def emT : D := .dcT [] []
def eDctNL : ME := fun _ S => .ok (.loc S.length) (S ++ [emN])
def sPutN (o i e : ME) : MS := fun E S => (e E S).toO E fun v S1 => (o E S1).toO E fun x S2 => (i E S2).toO E fun k S3 => match x with
  | .loc n => match S3[n]? with
    | some y => match insN y k v with
      | some y' => .nx E (S3.set n y')
      | none => .bad
    | none => .bad
  | _ => .bad
def oInN (x y : D) (S : List D) : R D := match y, keyN x with
  | .loc n, some q => match S[n]? with
    | some (.tup [.tup ks, .tup ds]) => .ok (.bl (inNk ks q)) S
    | _ => .bad
  | _, _ => .bad
def bListN : List D → List D → R D
  | [.loc n], S => match S[n]? with
    | some (.tup [.tup ks, .tup ds]) => .ok (.lst ks) S
    | _ => .bad
  | _, _ => .bad
def dcGoX (ins : D → D → D → Option D) (src : Src) (t : Tg) (ek ev : ME) (E : Env) (n0 : Nat) : Nat → Nat → D → List D → R D
  | 0, _, o, S => if src.alive S = true then .ok (.loc S.length) (S ++ [o]) else .bad
  | n + 1, i, o, S => if src.alive S = true then match src.at_ S i with
    | none => .bad
    | some d => match t.bind d E with
      | none => .bad
      | some E1 => match ek E1 S with
        | .ok k S1 => match ev E1 S1 with
          | .ok v S2 => if n0 ≤ S2.length then match ins o k v with
            | some o' => dcGoX ins src t ek ev E n0 n (i + 1) o' S2
            | none => .bad
            else .bad
          | _ => .bad
        | _ => .bad
    else .bad
def eDcX (ins : D → D → D → Option D) (o0 : D) (own : List Nat) (t : Tg) (m : MI) (ek ev : ME) : ME := fun E S => match m E S with
  | .ok src S1 => dcGoX ins src t ek ev (wipeE E own) S1.length src.len 0 o0 S1
  | .exc c fs S1 => .exc c fs S1
  | .bad => .bad
end J
set_option linter.all false
set_option maxRecDepth 100000
/-! a def that is given a dict of the store and only looks at it -/
namespace J
mutual
def D.pln : D → Bool
  | .non => true
  | .bl _ => true
  | .int _ => true
  | .str _ => true
  | .tup ds => D.plns ds
  | _ => false
def D.plns : List D → Bool
  | [] => true
  | d :: ds => d.pln && D.plns ds
end
def callFz (F : MF) : List D → List D → R D := fun ds S => match ds with
  | [.loc n] => match S[n]? with
    | some (.dcT ks es) => if D.flats es = true then match F [.dcT ks es] [] with
        | .ok d [] => if d.pln = true then .ok d S else .bad
        | _ => .bad
      else .bad
    | _ => .bad
  | _ => .bad
def oMulQ (x y : D) (S : List D) : R D := match x, y with
  | .int k, .tup xs => if k = 1 then .ok (.tup xs) S else oMulR (.int k) (.tup xs) S
  | _, _ => .bad
def kSortN (x : D) (S : List D) : R D := match x with
  | .loc n => match S[n]? with
    | some (.tup [.tup ks, .tup es]) => if okSort ks = true then .ok (.lst (sortD ks)) S else .bad
    | _ => .bad
  | _ => .bad
def eSortN (a : ME) : ME := fun E S => (a E S).bind fun x S1 => kSortN x S1
end J
set_option linter.all false
set_option maxRecDepth 100000
/-! calls of defs in a list of which some want a table; a def that is given two tables; o[k1], o[k2] = e -/
namespace J
open PySem (Str)
def callTb2 (F : MF) (n m : Nat) (ds S : List D) : R D := callF (fun ds' Sc => F (ds'.take ds.length) Sc) (ds ++ [.loc n, .loc m]) S
def callO (F : MF) (o : Option Nat) (ds S : List D) : R D := match o with
  | some t => callTb F t ds S
  | none => callF F ds S
def eCallVT (mf : ME) (tab : List (Str × Nat × MF)) (tb : Str → Option Nat) (n : Nat) (mr : MA) : ME := fun E S => (mf E S).bind fun d S1 => match d with
  | .fn x => (match tab.lookup x with
    | some (k, F) => if k = n then (mr E S1).bind fun ds S2 => callO F (tb x) ds S2 else .bad
    | none => .bad)
  | _ => .bad
def sAsg2 (j : Nat) (k1 k2 : D) (a : ME) : MS := fun E S => (a E S).toO E fun d S1 => match d, E[j]? with
  | .tup [dx, dy], some (some o) => (match putAt o k1 dx S1 with
    | some S2 => (match putAt o k2 dy S2 with
      | some S3 => .nx E S3
      | none => .bad)
    | none => .bad)
  | _, _ => .bad
end J
set_option Elab.async false
set_option linter.all false
set_option maxRecDepth 100000
namespace J
open PySem PySem.Spec PyProof.Rows L2

/-! ### the world: which addresses may change, which of them stand in the store, the heap -/
structure W where
  thA : Addr → Prop
  rhA : List Addr
  H : Hp
structure G where
  K : PySem.W.Frag
  mg : Str → Option Value
def WrT (K : PySem.W.Frag) (a : Addr) (xs : List V) : Prop :=
  ∃ (o : Obj) (its : Array Value) (n : Nat), K.lookup a = some o ∧ o.cls = .type "tuple" ∧ o.data = .seq its n ∧ its.size ≤ sizeLine ∧ Vals xs its.toList
def WrL (K : PySem.W.Frag) (a : Addr) (xs : List V) : Prop :=
  ∃ (o : Obj) (its : Array Value) (n : Nat), K.lookup a = some o ∧ o.cls = .type "list" ∧ o.dict = none ∧ o.data = .seq its n ∧ its.size ≤ sizeLine ∧ Vals xs its.toList
def TupAt (g : G) (w : W) (a : Addr) (xs : List V) : Prop := w.H a = some (.tup xs) ∧ ¬ w.thA a
def RdlAt (g : G) (w : W) (a : Addr) (xs : List V) : Prop := (Rd w.H a (.lst xs) ∧ ¬ w.thA a) ∨ WrL g.K a xs
theorem TupAt.sq {g : G} {w : W} {a : Addr} {xs : List V} (h : TupAt g w a xs) : SqT g.K w.H a xs := .inl (.inl h.1)
theorem RdlAt.sq {g : G} {w : W} {a : Addr} {xs : List V} (h : RdlAt g w a xs) : SqL g.K w.H a xs := h.elim (fun h => .inl h.1) .inr

def dkt : Sum (List (Key × V)) (List (List Key × V)) → HO
  | .inl k => .dK k
  | .inr k => .dT k
mutual
def RD (g : G) (w : W) : D → V → Prop
  | .non, v => v = .non
  | .bl b, v => v = .bl b
  | .int i, v => v = .int i
  | .str x, v => v = .str x
  | .ty n, v => v = .ty n
  | .tup ds, v => ∃ a vs, v = .ref a ∧ TupAt g w a vs ∧ RDs g w ds vs
  | .lst ds, v => ∃ a vs, v = .ref a ∧ w.H a = some (.lst vs) ∧ ¬ w.thA a ∧ RDs g w ds vs
  | .rdl ds, v => ∃ a vs, v = .ref a ∧ RdlAt g w a vs ∧ RDs g w ds vs
  | .dct ks ds, v => ∃ a vs, v = .ref a ∧ Rd w.H a (.dK (ks.zip vs)) ∧ ks.length = vs.length ∧ ¬ w.thA a ∧ RDs g w ds vs
  | .dcT ks ds, v => ∃ a vs, v = .ref a ∧ Rd w.H a (.dT (ks.zip vs)) ∧ ks.length = vs.length ∧ ¬ w.thA a ∧ RDs g w ds vs
  | .tuk ds, v => ∃ a vs o, v = .ref a ∧ w.H a = some (.frz o (.tup vs)) ∧ o.dict = none ∧ ¬ w.thA a ∧ RDs g w ds vs
  | .loc n, v => ∃ a, v = .ref a ∧ w.rhA[n]? = some a
  | .fn x, v => ∃ a, g.mg x = some (.ref a) ∧ v = .ref a
  | .kn a L, v => v = .ref a ∧ ∀ p ∈ L, w.H p.1 = some p.2 ∧ ¬ w.thA p.1 ∧ ∀ k, p.2 ≠ dkt k
  | .tab _, _ => False
def RDs (g : G) (w : W) : List D → List V → Prop
  | [], vs => vs = []
  | d :: ds, vs => ∃ v r, vs = v :: r ∧ RD g w d v ∧ RDs g w ds r
end
def TabOf (g : G) (x : Str) (P : Addr) : Prop := ∃ (f c : Addr) (o : Obj) (fd : FuncData) (e : Value) (dd : Option Addr) (vs : Array Value) (sl : Array (Option Value)), g.mg x = some (.ref f) ∧ g.K.lookup f = some o ∧ o.data = .func fd ∧ fd.code = .ref c ∧
  g.K.lookup c = some ⟨e, dd, .fields vs, sl⟩ ∧ vs[11]? = some (.ref P)
def lamQ (x : Str) : Str := (x ++ (".<locals>." : Str)) ++ ("<lambda>" : Str)
def TabAt (w : W) (q : Str) (a : Addr) : Prop := ∃ ps : Array Value, w.H a = some (.tbl ps) ∧ TriplesOk ps.toList ∧ ∀ (pos : Pos) (cv : Value), codeAmong pos ps.toList = some cv → ∃ c, cv = .ref c ∧ w.H c = some (LamX.CodeO c q) ∧ ¬ w.thA c
def DicN (a : Addr) (xs : List (NestedKey × Addr × Value)) : HO := .ext fun h => (xs.length ≤ sizeLine ∧ (a == sysModules) = false ∧ (∀ x ∈ xs, x.1.depth ≤ 8 ∧ ∀ w w', x.1.hash w = x.1.hash w') ∧ (xs.map (·.1)).Nodup) ∧
  ∃ (o : Obj) (es : Array DictEntry) (ep : Nat), h.get? a = some o ∧ o.ExactDict ∧ o.data = .dict es ep ∧ ∀ (P : Program) (wd : World), es.toList = xs.map (entryOfKey (nestedKind P wd))
def RON (g : G) (w : W) (ds : List D) (a : Addr) : Prop := ∃ ks es xs vs, ds = [.tup ks, .tup es] ∧ w.H a = some (DicN a xs) ∧ ks.map nkOf = xs.map (fun x => some x.1) ∧ RDs g w ks (xs.map fun x => V.ref x.2.1) ∧ RDs g w es vs ∧ Vals vs (xs.map (·.2.2))
def RO (g : G) (w : W) : D → Addr → Prop
  | .tup ds, a => RON g w ds a
  | .lst ds, a => ∃ vs, w.H a = some (.lst vs) ∧ RDs g w ds vs
  | .dct ks ds, a => ∃ vs, w.H a = some (.dK (ks.zip vs)) ∧ ks.length = vs.length ∧ RDs g w ds vs
  | .dcT ks ds, a => ∃ vs, w.H a = some (.dT (ks.zip vs)) ∧ ks.length = vs.length ∧ RDs g w ds vs
  | .tab x, a => TabOf g x a ∧ TabAt w (lamQ x) a
  | _, _ => False
theorem dkt_frz {o : Obj} {u : HO} (k : Sum (List (Key × V)) (List (List Key × V))) : HO.frz o u ≠ dkt k := by
  cases k <;> (intro z; simp [dkt] at z)
theorem dkt_lst {u : List V} (k : Sum (List (Key × V)) (List (List Key × V))) : HO.lst u ≠ dkt k := by
  cases k <;> (intro z; simp [dkt] at z)
theorem dkt_tup {u : List V} (k : Sum (List (Key × V)) (List (List Key × V))) : HO.tup u ≠ dkt k := by
  cases k <;> (intro z; simp [dkt] at z)
theorem dkt_ext {φ : Heap → Prop} (k : Sum (List (Key × V)) (List (List Key × V))) : HO.ext φ ≠ dkt k := by
  cases k <;> (intro z; simp [dkt] at z)
theorem dkt_tbl {u : Array Value} (k : Sum (List (Key × V)) (List (List Key × V))) : HO.tbl u ≠ dkt k := by
  cases k <;> (intro z; simp [dkt] at z)
structure Good (w : W) : Prop where
  nd : w.rhA.Nodup
  sub : ∀ a, a ∈ w.rhA → w.thA a
  al : ∀ a, w.thA a → w.H a ≠ none
  nt : ∀ a, w.thA a → ∀ xs, w.H a ≠ some (.tup xs)
structure Ext (w w' : W) : Prop where
  rho : ∃ τ, w'.rhA = w.rhA ++ τ ∧ ∀ a, a ∈ τ → w.H a = none
  th1 : ∀ a, w.thA a → w'.thA a
  th2 : ∀ a, w'.thA a → w.thA a ∨ w.H a = none
  kp : ∀ a o, w.H a = some o → a ∉ w.rhA → w'.H a = some o ∨ (¬ w.thA a ∧ ∃ od kvs, o = dkt kvs ∧ w'.H a = some (.frz od (dkt kvs)))
  al : ∀ a, w.H a ≠ none → w'.H a ≠ none
theorem Ext.refl (w : W) : Ext w w := ⟨⟨[], by simp, by simp⟩, fun _ h => h, fun _ h => .inl h, fun _ _ h _ => .inl h, fun _ h => h⟩
theorem none_or {H : Hp} (a : Addr) : H a = none ∨ ∃ o, H a = some o := by
  cases h : H a with
  | none => exact .inl rfl
  | some o => exact .inr ⟨o, rfl⟩
theorem Ext.trans {w w1 w2 : W} (x : Ext w w1) (y : Ext w1 w2) : Ext w w2 := by
  obtain ⟨τ, e1, f1⟩ := x.rho
  obtain ⟨τ2, e2, f2⟩ := y.rho
  have back : ∀ a, w1.H a = none → w.H a = none := fun a h => by
    rcases none_or (H := w.H) a with q | ⟨o, q⟩
    · exact q
    · exact absurd h (x.al a (by rw [q]; simp))
  refine ⟨⟨τ ++ τ2, by rw [e2, e1, List.append_assoc], fun a h => ?_⟩, fun a h => y.th1 a (x.th1 a h), fun a h => ?_, fun a o h n => ?_, fun a h => y.al a (x.al a h)⟩
  · rcases List.mem_append.mp h with h | h
    · exact f1 a h
    · exact back a (f2 a h)
  · rcases y.th2 a h with h | h
    · exact x.th2 a h
    · exact .inr (back a h)
  · have n1 : a ∉ w1.rhA := fun h2 => by
      rw [e1] at h2
      rcases List.mem_append.mp h2 with h2 | h2
      · exact n h2
      · rw [f1 a h2] at h; cases h
    rcases x.kp a o h n with q | ⟨nt, od, kvs, eo, q⟩
    · rcases y.kp a o q n1 with q2 | ⟨nt, od, kvs, eo, q2⟩
      · exact .inl q2
      · exact .inr ⟨fun z => nt (x.th1 a z), od, kvs, eo, q2⟩
    · rcases y.kp a _ q n1 with q2 | ⟨_, od2, kvs2, eo2, q2⟩
      · exact .inr ⟨nt, od, kvs, eo, q2⟩
      · exact absurd eo2 (dkt_frz _)
theorem Ext.kpN {w w' : W} (x : Ext w w') {a : Addr} {o : HO} (h : w.H a = some o) (n : a ∉ w.rhA) (hn : ∀ kvs, o ≠ dkt kvs) : w'.H a = some o := by
  rcases x.kp a o h n with q | ⟨_, od, kvs, eo, q⟩
  · exact q
  · exact absurd eo (hn kvs)
theorem Ext.kpT {w w' : W} (x : Ext w w') {a : Addr} {o : HO} (h : w.H a = some o) (n : a ∉ w.rhA) (ht : w.thA a) : w'.H a = some o := by
  rcases x.kp a o h n with q | ⟨nt, od, kvs, eo, q⟩
  · exact q
  · exact absurd ht nt
theorem Ext.free {w w' : W} (x : Ext w w') {a : Addr} (h : w'.H a = none) : w.H a = none := by
  rcases none_or (H := w.H) a with q | ⟨o, q⟩
  · exact q
  · exact absurd h (x.al a (by rw [q]; simp))
theorem Ext.get {w w' : W} (x : Ext w w') {n : Nat} {a : Addr} (h : w.rhA[n]? = some a) : w'.rhA[n]? = some a := by
  obtain ⟨τ, e, _⟩ := x.rho
  rw [e, List.getElem?_append_left (List.getElem?_eq_some_iff.mp h).1]
  exact h
theorem Ext.th {w w' : W} (x : Ext w w') {a : Addr} {o : HO} (h : w.H a = some o) (n : ¬ w.thA a) : ¬ w'.thA a := fun z => by
  rcases x.th2 a z with z | z
  · exact n z
  · rw [h] at z; cases z
theorem Ext.fz {w w' : W} (G : Good w) (x : Ext w w') {a : Addr} {o : HO} (h : w.H a = some o) (n : ¬ w.thA a) (hn : ∀ kvs, o ≠ dkt kvs := by first | exact dkt_lst | exact dkt_tup | exact dkt_frz | exact dkt_ext | exact dkt_tbl) : w'.H a = some o := x.kpN h (fun z => n (G.sub a z)) hn
theorem Ext.fzD {w w' : W} (G : Good w) (x : Ext w w') {a : Addr} {u : HO} (h : Rd w.H a u) (n : ¬ w.thA a) : Rd w'.H a u := by
  have na : a ∉ w.rhA := fun z => n (G.sub a z)
  rcases h with h | ⟨o, h⟩
  · rcases x.kp a _ h na with q | ⟨_, od, kvs2, eo, q⟩
    · exact .inl q
    · exact .inr ⟨od, by rw [eo]; exact q⟩
  · exact .inr ⟨o, x.kpN h na dkt_frz⟩
theorem Ext.thD {w w' : W} (x : Ext w w') {a : Addr} {u : HO} (h : Rd w.H a u) (n : ¬ w.thA a) : ¬ w'.thA a := by
  rcases h with h | ⟨o, h⟩
  · exact x.th h n
  · exact x.th h n
theorem TupAt.mono {g : G} {w w' : W} (G : Good w) (x : Ext w w') {a : Addr} {vs : List V} (h : TupAt g w a vs) : TupAt g w' a vs :=
  ⟨x.fz G h.1 h.2, x.th h.1 h.2⟩
theorem RdlAt.mono {g : G} {w w' : W} (G : Good w) (x : Ext w w') {a : Addr} {vs : List V} (h : RdlAt g w a vs) : RdlAt g w' a vs := by
  rcases h with ⟨h | ⟨o, h⟩, n⟩ | h
  · exact .inl ⟨.inl (x.fz G h n), x.th h n⟩
  · exact .inl ⟨.inr ⟨o, x.fz G h n⟩, x.th h n⟩
  · exact .inr h
mutual
theorem RD.mono {g : G} {w w' : W} (G : Good w) (x : Ext w w') : ∀ (d : D) (v : V), RD g w d v → RD g w' d v
  | .non, _, h => h
  | .bl _, _, h => h
  | .int _, _, h => h
  | .str _, _, h => h
  | .ty _, _, h => h
  | .tup ds, v, h => by
    obtain ⟨a, vs, e, t, r⟩ := h
    exact ⟨a, vs, e, t.mono G x, RDs.mono G x ds vs r⟩
  | .lst ds, v, h => by
    obtain ⟨a, vs, e, t, n, r⟩ := h
    exact ⟨a, vs, e, x.fz G t n, x.th t n, RDs.mono G x ds vs r⟩
  | .rdl ds, v, h => by
    obtain ⟨a, vs, e, t, r⟩ := h
    exact ⟨a, vs, e, t.mono G x, RDs.mono G x ds vs r⟩
  | .dct ks ds, v, h => by
    obtain ⟨a, vs, e, t, l, n, r⟩ := h
    exact ⟨a, vs, e, x.fzD G t n, l, x.thD t n, RDs.mono G x ds vs r⟩
  | .dcT ks ds, v, h => by
    obtain ⟨a, vs, e, t, l, n, r⟩ := h
    exact ⟨a, vs, e, x.fzD G t n, l, x.thD t n, RDs.mono G x ds vs r⟩
  | .tuk ds, v, h => by
    obtain ⟨a, vs, o, e, t, l, n, r⟩ := h
    exact ⟨a, vs, o, e, x.fz G t n, l, x.th t n, RDs.mono G x ds vs r⟩
  | .loc n, v, h => by
    obtain ⟨a, e, t⟩ := h
    exact ⟨a, e, x.get t⟩
  | .fn _, _, h => h
  | .kn a P, v, h => ⟨h.1, fun p e => ⟨x.fz G (h.2 p e).1 (h.2 p e).2.1 (h.2 p e).2.2, x.th (h.2 p e).1 (h.2 p e).2.1, (h.2 p e).2.2⟩⟩
  | .tab _, _, h => h.elim
theorem RDs.mono {g : G} {w w' : W} (G : Good w) (x : Ext w w') : ∀ (ds : List D) (vs : List V), RDs g w ds vs → RDs g w' ds vs
  | [], _, h => h
  | d :: ds, vs, h => by
    obtain ⟨v, r, e, h1, h2⟩ := h
    exact ⟨v, r, e, RD.mono G x d v h1, RDs.mono G x ds r h2⟩
end
/-! lists of values -/
theorem RDs.length {g : G} {w : W} : ∀ {ds : List D} {vs : List V}, RDs g w ds vs → vs.length = ds.length
  | [], _, h => by cases h; rfl
  | d :: ds, _, h => by
    obtain ⟨v, r, rfl, _, h2⟩ := h
    simp [RDs.length h2]
theorem RDs.get {g : G} {w : W} : ∀ {ds : List D} {vs : List V} {i : Nat} {d : D}, RDs g w ds vs → ds[i]? = some d → ∃ v, vs[i]? = some v ∧ RD g w d v
  | [], _, _, _, _, e => by simp at e
  | d :: ds, _, 0, _, h, e => by
    obtain ⟨v, r, rfl, h1, h2⟩ := h
    simp at e
    subst e
    exact ⟨v, rfl, h1⟩
  | d :: ds, _, i + 1, _, h, e => by
    obtain ⟨v, r, rfl, h1, h2⟩ := h
    obtain ⟨u, h3, h4⟩ := RDs.get (i := i) h2 (by simpa using e)
    exact ⟨u, by simpa using h3, h4⟩
theorem RDs.back {g : G} {w : W} {ds : List D} {vs : List V} {i : Nat} {v : V} (h : RDs g w ds vs) (e : vs[i]? = some v) : ∃ d, ds[i]? = some d ∧ RD g w d v := by
  have l := h.length
  have hi : i < ds.length := by rw [← l]; exact (List.getElem?_eq_some_iff.mp e).1
  obtain ⟨v', h1, h2⟩ := h.get (List.getElem?_eq_getElem hi)
  rw [e] at h1
  cases h1
  exact ⟨_, List.getElem?_eq_getElem hi, h2⟩
theorem RDs.append {g : G} {w : W} : ∀ {ds es : List D} {vs us : List V}, RDs g w ds vs → RDs g w es us → RDs g w (ds ++ es) (vs ++ us)
  | [], _, _, _, h, k => by cases h; exact k
  | d :: ds, _, _, _, h, k => by
    obtain ⟨v, r, rfl, h1, h2⟩ := h
    exact ⟨v, r ++ _, rfl, h1, RDs.append h2 k⟩
theorem RDs.one {g : G} {w : W} {d : D} {v : V} (h : RD g w d v) : RDs g w [d] [v] := ⟨v, [], rfl, h, rfl⟩
theorem RDs.cons {g : G} {w : W} {d : D} {v : V} {ds : List D} {vs : List V} (h : RD g w d v) (t : RDs g w ds vs) : RDs g w (d :: ds) (v :: vs) := ⟨v, vs, rfl, h, t⟩
theorem RDs.drop {g : G} {w : W} : ∀ {ds : List D} {vs : List V} (n : Nat), RDs g w ds vs → RDs g w (ds.drop n) (vs.drop n)
  | _, _, 0, h => h
  | [], _, n + 1, h => by cases h; rfl
  | d :: ds, _, n + 1, h => by
    obtain ⟨v, r, rfl, h1, h2⟩ := h
    exact RDs.drop n h2
theorem RDs.take {g : G} {w : W} : ∀ {ds : List D} {vs : List V} (n : Nat), RDs g w ds vs → RDs g w (ds.take n) (vs.take n)
  | _, _, 0, h => rfl
  | [], _, n + 1, h => by cases h; rfl
  | d :: ds, _, n + 1, h => by
    obtain ⟨v, r, rfl, h1, h2⟩ := h
    exact ⟨v, r.take n, rfl, h1, RDs.take n h2⟩
theorem RDs.set {g : G} {w : W} : ∀ {ds : List D} {vs : List V} (n : Nat) {d : D} {v : V}, RDs g w ds vs → RD g w d v → RDs g w (ds.set n d) (vs.set n v)
  | [], _, _, _, _, h, k => by cases h; rfl
  | e :: ds, _, 0, _, _, h, k => by
    obtain ⟨v, r, rfl, h1, h2⟩ := h
    exact ⟨_, r, rfl, k, h2⟩
  | e :: ds, _, n + 1, _, _, h, k => by
    obtain ⟨v, r, rfl, h1, h2⟩ := h
    exact ⟨v, _, rfl, h1, RDs.set n h2 k⟩
theorem RDs.reverse {g : G} {w : W} : ∀ {ds : List D} {vs : List V}, RDs g w ds vs → RDs g w ds.reverse vs.reverse
  | [], _, h => by cases h; rfl
  | d :: ds, _, h => by
    obtain ⟨v, r, rfl, h1, h2⟩ := h
    rw [List.reverse_cons, List.reverse_cons]
    exact (RDs.reverse h2).append (RDs.one h1)
theorem RDs.rep {g : G} {w : W} {ds : List D} {vs : List V} (h : RDs g w ds vs) : ∀ k : Nat, RDs g w (List.replicate k ds).flatten (List.replicate k vs).flatten
  | 0 => rfl
  | k + 1 => by
    rw [List.replicate_succ, List.replicate_succ, List.flatten_cons, List.flatten_cons]
    exact h.append (RDs.rep h k)
/-! the environment, the store -/
def RE (g : G) (w : W) (E : Env) (σ : L2.St) : Prop := E.length = σ.length ∧ ∀ (i : Nat) (d : D), E[i]? = some (some d) → ∃ v, σ[i]? = some (some v) ∧ RD g w d v
def RS (g : G) (w : W) (S : List D) : Prop := S.length = w.rhA.length ∧ ∀ (n : Nat) (d : D), S[n]? = some d → ∃ a, w.rhA[n]? = some a ∧ RO g w d a
theorem RE.mono {g : G} {w w' : W} {E : Env} {σ : L2.St} (G : Good w) (x : Ext w w') (h : RE g w E σ) : RE g w' E σ := ⟨h.1, fun i d e => by
  obtain ⟨v, h1, h2⟩ := h.2 i d e
  exact ⟨v, h1, h2.mono G x⟩⟩
theorem TabAt.mono {w w' : W} {q : Str} {a : Addr} (G : Good w) (x : Ext w w') (e : w'.H a = w.H a) (h : TabAt w q a) : TabAt w' q a := by
  obtain ⟨ps, h1, h2, h3⟩ := h
  refine ⟨ps, e.trans h1, h2, fun pos cv hc => ?_⟩
  obtain ⟨c, e1, e2, e3⟩ := h3 pos cv hc
  exact ⟨c, e1, x.fz G e2 e3, x.th e2 e3⟩
theorem RO.mono {g : G} {w w' : W} {d : D} {a : Addr} (G : Good w) (x : Ext w w') (e : w'.H a = w.H a) (h : RO g w d a) : RO g w' d a := by
  cases d <;> try exact h.elim
  · obtain ⟨ks, es, xs, vs, h1, h2, h3, h4, h5, h6⟩ := h
    exact ⟨ks, es, xs, vs, h1, e.trans h2, h3, h4.mono G x, h5.mono G x, h6⟩
  · obtain ⟨vs, h1, h2⟩ := h
    exact ⟨vs, e.trans h1, h2.mono G x⟩
  · obtain ⟨vs, h1, h3, h2⟩ := h
    exact ⟨vs, e.trans h1, h3, h2.mono G x⟩
  · obtain ⟨vs, h1, h3, h2⟩ := h
    exact ⟨vs, e.trans h1, h3, h2.mono G x⟩
  · exact ⟨h.1, h.2.mono G x e⟩
theorem RO.there {g : G} {w : W} {d : D} {a : Addr} (h : RO g w d a) : w.H a ≠ none := by
  cases d <;> try exact h.elim
  · obtain ⟨ks, es, xs, vs, _, h1, _⟩ := h
    rw [h1]; simp
  · obtain ⟨vs, h1, _⟩ := h
    rw [h1]; simp
  · obtain ⟨vs, h1, _⟩ := h
    rw [h1]; simp
  · obtain ⟨vs, h1, _⟩ := h
    rw [h1]; simp
  · obtain ⟨_, vs, h1, _⟩ := h
    rw [h1]; simp
theorem RS.keep {g : G} {w w' : W} {S : List D} (G : Good w) (x : Ext w w') (hr : w'.rhA = w.rhA) (hk : ∀ a, a ∈ w.rhA → w'.H a = w.H a) (h : RS g w S) : RS g w' S := ⟨by rw [hr]; exact h.1, fun n d e => by
  obtain ⟨a, h1, h2⟩ := h.2 n d e
  exact ⟨a, by rw [hr]; exact h1, h2.mono G x (hk a (List.mem_of_getElem? h1))⟩⟩
abbrev W.put (w : W) (p : Addr) (o : HO) : W := { w with H := upd w.H p o }
theorem put_ext {w : W} {p : Addr} {o : HO} (hp : w.H p = none) : Ext w (w.put p o) := by
  refine ⟨⟨[], by simp, by simp⟩, fun _ h => h, fun _ h => .inl h, fun a u h _ => ?_, fun a h => ?_⟩
  · refine .inl ?_
    show upd w.H p o a = some u
    exact (upd_ne (ne_of_none h hp)).trans h
  · show upd w.H p o a ≠ none
    by_cases e : a = p
    · rw [e, upd_same]; simp
    · rw [upd_ne e]; exact h
theorem put_good {w : W} {p : Addr} {o : HO} (G : Good w) (hp : w.H p = none) : Good (w.put p o) := ⟨G.nd, G.sub, fun a h => by
  show upd w.H p o a ≠ none
  by_cases e : a = p
  · rw [e, upd_same]; simp
  · rw [upd_ne e]; exact G.al a h, fun a h xs => by
  show upd w.H p o a ≠ some (.tup xs)
  rw [upd_ne fun e => G.al a h (by rw [e]; exact hp)]
  exact G.nt a h xs⟩
theorem put_store {g : G} {w : W} {p : Addr} {o : HO} {S : List D} (G : Good w) (hp : w.H p = none) (h : RS g w S) : RS g (w.put p o) S :=
  h.keep G (put_ext hp) rfl fun a ha => by
    have := G.al a (G.sub a ha)
    exact upd_ne fun e => this (by rw [e]; exact hp)
theorem put_th {w : W} {p : Addr} (G : Good w) (hp : w.H p = none) : ¬ w.thA p := fun h => G.al p h hp
abbrev W.add (w : W) (p : Addr) (o : HO) : W := ⟨fun a => w.thA a ∨ a = p, w.rhA ++ [p], upd w.H p o⟩
theorem add_ext {w : W} {p : Addr} {o : HO} (hp : w.H p = none) : Ext w (w.add p o) := by
  refine ⟨⟨[p], rfl, fun a h => ?_⟩, fun _ h => .inl h, fun a h => ?_, fun a u h _ => ?_, fun a h => ?_⟩
  · rw [List.mem_singleton.mp h]; exact hp
  · rcases h with h | h
    · exact .inl h
    · rw [h]; exact .inr hp
  · refine .inl ?_
    show upd w.H p o a = some u
    exact (upd_ne (ne_of_none h hp)).trans h
  · show upd w.H p o a ≠ none
    by_cases e : a = p
    · rw [e, upd_same]; simp
    · rw [upd_ne e]; exact h
theorem add_good {w : W} {p : Addr} {o : HO} (G : Good w) (hp : w.H p = none) (hno : ∀ xs, o ≠ .tup xs := by intro _ z; cases z) : Good (w.add p o) := by
  refine ⟨?_, fun a h => ?_, fun a h => ?_, fun a h xs => ?_⟩
  · show (w.rhA ++ [p]).Nodup
    rw [List.nodup_append]
    refine ⟨G.nd, by simp, fun a ha b hb e => ?_⟩
    rw [List.mem_singleton.mp hb] at e
    exact G.al a (G.sub a ha) (by rw [e]; exact hp)
  · rcases List.mem_append.mp h with h | h
    · exact .inl (G.sub a h)
    · exact .inr (List.mem_singleton.mp h)
  · show upd w.H p o a ≠ none
    by_cases e : a = p
    · rw [e, upd_same]; simp
    · rw [upd_ne e]
      rcases h with h | h
      · exact G.al a h
      · exact absurd h e
  · show upd w.H p o a ≠ some (.tup xs)
    by_cases e : a = p
    · rw [e, upd_same]
      intro z
      exact hno xs (Option.some.inj z)
    · rw [upd_ne e]
      rcases h with h | h
      · exact G.nt a h xs
      · exact absurd h e
theorem add_store {g : G} {w : W} {p : Addr} {o : HO} {S : List D} {d : D} (G : Good w) (hp : w.H p = none) (h : RS g w S) (hd : RO g (w.add p o) d p) : RS g (w.add p o) (S ++ [d]) := by
  refine ⟨by simp [h.1], fun n e he => ?_⟩
  by_cases hn : n < S.length
  · rw [List.getElem?_append_left hn] at he
    obtain ⟨a, h1, h2⟩ := h.2 n e he
    have ha := List.mem_of_getElem? h1
    refine ⟨a, by rw [List.getElem?_append_left (by rw [← h.1]; exact hn)]; exact h1, h2.mono G (add_ext hp) ?_⟩
    exact upd_ne fun e => G.al a (G.sub a ha) (by rw [e]; exact hp)
  · have hl : n = S.length := by
      have := (List.getElem?_eq_some_iff.mp he).1
      simp at this
      omega
    subst hl
    simp at he
    subst he
    exact ⟨p, by rw [h.1]; simp, hd⟩
theorem upd_ext {w : W} {a : Addr} {o : HO} (ha : a ∈ w.rhA) : Ext w { w with H := upd w.H a o } := by
  refine ⟨⟨[], by simp, by simp⟩, fun _ h => h, fun _ h => .inl h, fun b u h n => ?_, fun b h => ?_⟩
  · refine .inl ?_
    show upd w.H a o b = some u
    rw [upd_ne fun e => n (by rw [e]; exact ha)]
    exact h
  · show upd w.H a o b ≠ none
    by_cases e : b = a
    · rw [e, upd_same]; simp
    · rw [upd_ne e]; exact h
theorem upd_store {g : G} {w : W} {a : Addr} {o : HO} {S : List D} {n : Nat} {d : D} (G : Good w) (h : RS g w S) (ha : w.rhA[n]? = some a) (hd : RO g { w with H := upd w.H a o } d a) : RS g { w with H := upd w.H a o } (S.set n d) := by
  have mem := List.mem_of_getElem? ha
  refine ⟨by simp [h.1], fun m e he => ?_⟩
  by_cases hm : m = n
  · subst hm
    have : m < S.length := by rw [h.1]; exact (List.getElem?_eq_some_iff.mp ha).1
    rw [List.getElem?_set_self this] at he
    cases he
    exact ⟨a, ha, hd⟩
  · rw [List.getElem?_set_ne (Ne.symm hm)] at he
    obtain ⟨b, h1, h2⟩ := h.2 m e he
    refine ⟨b, h1, h2.mono G (upd_ext mem) ?_⟩
    refine upd_ne fun e => hm ?_
    subst e
    exact nd_ix G.nd h1 ha
theorem RS.obj {g : G} {w : W} {S : List D} {n : Nat} {a : Addr} {d : D} (h : RS g w S) (ha : w.rhA[n]? = some a) (hd : S[n]? = some d) : RO g w d a := by
  obtain ⟨b, h1, h2⟩ := h.2 n d hd
  rw [ha] at h1
  cases h1
  exact h2
end J
set_option Elab.async false
set_option linter.all false
set_option maxRecDepth 100000
namespace J
open PySem PySem.Spec PyProof.Rows L2

/-! ### readings -/
abbrev _root_.L2.Cx.g (X : L2.Cx) : G := ⟨X.K, X.mg⟩
def RX (g : G) (w : W) (c : Str) (fs : List (Str × D)) (cls : Value) (dx : Option Addr) : Prop :=
  ∃ C, g.mg c = some (.ref C) ∧ cls = .ref C ∧ ((fs = [] ∧ dx = none) ∨ ∃ d vs, fs ≠ [] ∧ dx = some d ∧ w.H d = some (.xd ((fs.map (·.1)).zip vs)) ∧ ¬ w.thA d ∧ RDs g w (fs.map (·.2)) vs)
def PR {α β : Type} (g : G) (Wx : WX) (σ : L2.St) (w : W) (rel : W → α → β → Prop) (Q : β → Hp → Prop) : R α → Prop
  | .ok d S => ∀ v w', Ext w w' → Good w' → rel w' d v → RS g w' S → Q v w'.H
  | .exc c fs S => ∀ cls dx w', Ext w w' → Good w' → RX g w' c fs cls dx → RS g w' S → Wx cls dx σ w'.H
  | .bad => False
structure At (g : G) (w : W) (E : Env) (σ : L2.St) (H : Hp) (S : List D) : Prop where
  hp : w.H = H
  good : Good w
  env : RE g w E σ
  sto : RS g w S
def relB (_ : W) (a b : Bool) : Prop := a = b
def relO (_ : W) (a b : Option Int) : Prop := a = b
def TEof (g : G) (Wx : WX) (m : ME) : TE := fun σ H Q => ∃ w E S, At g w E σ H S ∧ PR g Wx σ w (RD g) Q (m E S)
def TTof (g : G) (Wx : WX) (m : MT) : TT := fun σ H Q => ∃ w E S, At g w E σ H S ∧ PR g Wx σ w relB Q (m E S)
def TAof (g : G) (Wx : WX) (m : MA) : TA := fun σ H Q => ∃ w E S, At g w E σ H S ∧ PR g Wx σ w (RDs g) Q (m E S)
theorem PR.at {α β : Type} {g : G} {Wx : WX} {σ : L2.St} {w w1 : W} {rel : W → α → β → Prop} {Q : β → Hp → Prop} {r : R α} (h : PR g Wx σ w rel Q r) (x : Ext w w1) : PR g Wx σ w1 rel Q r := by
  cases r with
  | ok d S => exact fun v w' y => h v w' (x.trans y)
  | exc c fs S => exact fun cls dx w' y => h cls dx w' (x.trans y)
  | bad => exact h
theorem PR.bind {α β γ δ : Type} {g : G} {Wx : WX} {σ : L2.St} {w : W} {E : Env} {rel1 : W → α → β → Prop} {rel2 : W → γ → δ → Prop} {Q : δ → Hp → Prop} {r : R α} {k : α → List D → R γ} (G : Good w) (he : RE g w E σ)
    (h : PR g Wx σ w rel2 Q (r.bind k)) : PR g Wx σ w rel1 (fun x H1 => ∃ w1 a S1, At g w1 E σ H1 S1 ∧ Ext w w1 ∧ rel1 w1 a x ∧ PR g Wx σ w1 rel2 Q (k a S1)) r := by
  cases r with
  | ok d S => exact fun v w' x G' rl rs => ⟨w', d, S, ⟨rfl, G', he.mono G x, rs⟩, x, rl, PR.at h x⟩
  | exc c fs S => exact h
  | bad => exact h
theorem PR.imp {α β : Type} {g : G} {Wx : WX} {σ : L2.St} {w : W} {rel : W → α → β → Prop} {Q Q' : β → Hp → Prop} {r : R α} (h : PR g Wx σ w rel Q r) (i : ∀ v H, Q v H → Q' v H) : PR g Wx σ w rel Q' r := by
  cases r with
  | ok d S => exact fun v w' x y z t => i _ _ (h v w' x y z t)
  | exc c fs S => exact h
  | bad => exact h
theorem peImp {X : Cx} {e : Expr} {t t' : TE} (h : PE X e t) (f : ∀ σ H Q, t' σ H Q → t σ H Q) : PE X e t' := ⟨fun pins s σ H Q I hw => h.run pins s σ H Q I (f _ _ _ hw)⟩
theorem ptImp {X : Cx} {e : Expr} {t t' : TT} (h : PT X e t) (f : ∀ σ H Q, t' σ H Q → t σ H Q) : PT X e t' := ⟨fun pins s σ H Q I hw => h.run pins s σ H Q I (f _ _ _ hw)⟩
theorem pwImp {X : Cx} {e : Expr} {t t' : TT} (h : PW X e t) (f : ∀ σ H Q, t' σ H Q → t σ H Q) : PW X e t' := ⟨fun wh pins s σ H Q I hw => h.run wh pins s σ H Q I (f _ _ _ hw)⟩
theorem paImp {X : Cx} {es : List Expr} {t t' : TA} (h : PA X es t) (f : ∀ σ H Q, t' σ H Q → t σ H Q) : PA X es t' := ⟨fun pos pins s σ H Q I hw => h.run pos pins s σ H Q I (f _ _ _ hw)⟩
theorem psImp {X : Cx} {st : Stmt} {t t' : TS} (h : PS X st t) (f : ∀ D σ H, t' D σ H → t D σ H) : PS X st t' := ⟨fun pins s σ H D I hw => h.run pins s σ H D I (f _ _ _ hw)⟩
theorem pssImp {X : Cx} {st : List Stmt} {t t' : TS} (h : PSs X st t) (f : ∀ D σ H, t' D σ H → t D σ H) : PSs X st t' := ⟨fun pins s σ H D I hw => h.run pins s σ H D I (f _ _ _ hw)⟩

/-! ### what a reading asks of operations -/
def opOf (g : G) (f : D → D → List D → R D) : R2 := fun x y H Q => ∃ Wx σ w S d e, w.H = H ∧ Good w ∧ RS g w S ∧ RD g w d x ∧ RD g w e y ∧ PR g Wx σ w (RD g) Q (f d e S)
def unOf (g : G) (f : D → List D → R D) : V → Hp → VK → Prop := fun x H Q => ∃ Wx σ w S d, w.H = H ∧ Good w ∧ RS g w S ∧ RD g w d x ∧ PR g Wx σ w (RD g) Q (f d S)
def argOf (g : G) (f : List D → List D → R D) : List V → Hp → VK → Prop := fun xs H Q => ∃ Wx σ w S ds, w.H = H ∧ Good w ∧ RS g w S ∧ RDs g w ds xs ∧ PR g Wx σ w (RD g) Q (f ds S)
def mtOf (g : G) (f : D → List D → List D → R D) : V → List V → Hp → VK → Prop := fun x xs H Q => ∃ Wx σ w S d ds, w.H = H ∧ Good w ∧ RS g w S ∧ RD g w d x ∧ RDs g w ds xs ∧ PR g Wx σ w (RD g) Q (f d ds S)

section
variable {X : Cx} {Wx : WX} {a b c : Expr} {ma mb mc : ME} {pos : Pos}
theorem de_var {i : Nat} {x : Str} (h : PE X (.Name x pos) (tVar i)) : PE X (.Name x pos) (TEof X.g Wx (eVar i)) := by
  refine peImp h fun σ H Q ⟨w, E, S, a, p⟩ => ?_
  unfold eVar at p
  split at p
  · rename_i d e
    obtain ⟨v, h1, h2⟩ := a.env.2 i d e
    exact ⟨v, h1, by have := p v w (Ext.refl w) a.good h2 a.sto; rw [a.hp] at this; exact this⟩
  · exact p.elim
theorem de_c {e : Expr} {v : V} {d : D} (h : PE X e (tC v)) (hd : ∀ w, RD X.g w d v) : PE X e (TEof X.g Wx (eC d)) := by
  refine peImp h fun σ H Q ⟨w, E, S, a, p⟩ => ?_
  have := p v w (Ext.refl w) a.good (hd w) a.sto
  rw [a.hp] at this
  exact this
theorem de_int {i j} : PE X (.Constant (.int i) j pos) (TEof X.g Wx (eC (.int i))) := de_c pe_int fun _ => rfl
theorem de_bl {i j} : PE X (.Constant (.bool i) j pos) (TEof X.g Wx (eC (.bl i))) := de_c pe_bl fun _ => rfl
theorem de_non {j} : PE X (.Constant .none j pos) (TEof X.g Wx (eC .non)) := de_c pe_non fun _ => rfl
theorem two {m : D → D → List D → R D} {r : R2} (hr : ∀ x y H Q, opOf X.g m x y H Q → r x y H Q) : ∀ (σ : L2.St) H Q, TEof X.g Wx (eOp m ma mb) σ H Q → tOp r (TEof X.g Wx ma) (TEof X.g Wx mb) σ H Q := fun σ H Q ⟨w, E, S, a, p⟩ => by
  refine ⟨w, E, S, a, PR.imp (PR.bind a.good a.env p) fun x H1 ⟨w1, d, S1, a1, x1, r1, p1⟩ => ?_⟩
  refine ⟨w1, E, S1, a1, PR.imp (PR.bind a1.good a1.env p1) fun y H2 ⟨w2, e, S2, a2, x2, r2, p2⟩ => ?_⟩
  exact hr x y H2 Q ⟨Wx, σ, w2, S2, d, e, a2.hp, a2.good, a2.sto, RD.mono a1.good x2 d x r1, r2, p2⟩
theorem de_op {op : Operator} {m : D → D → List D → R D} (ho : OpR X (binaryOp op) (opOf X.g m)) (ha : PE X a (TEof X.g Wx ma)) (hb : PE X b (TEof X.g Wx mb)) : PE X (.BinOp a op b pos) (TEof X.g Wx (eOp m ma mb)) :=
  peImp (pe_op ho ha hb) (two fun _ _ _ _ h => h)
theorem de_un {op : UnaryOp} {m : D → List D → R D} (ho : UnR X (unaryOp op) (unOf X.g m)) (ha : PE X a (TEof X.g Wx ma)) : PE X (.UnaryOp op a pos) (TEof X.g Wx (eUn m ma)) := by
  refine peImp (pe_un ho ha) fun σ H Q ⟨w, E, S, a, p⟩ => ?_
  refine ⟨w, E, S, a, PR.imp (PR.bind a.good a.env p) fun x H1 ⟨w1, d, S1, a1, x1, r1, p1⟩ => ?_⟩
  exact ⟨Wx, σ, w1, S1, d, a1.hp, a1.good, a1.sto, r1, p1⟩
theorem de_cmp {op : CmpOp} {m : D → D → List D → R D} (ho : OpR X (compareOp op) (opOf X.g m)) (ha : PE X a (TEof X.g Wx ma)) (hb : PE X b (TEof X.g Wx mb)) (h1 : behindInMarks op b = false) : PE X (.Compare a [op] [b] pos) (TEof X.g Wx (eOp m ma mb)) :=
  peImp (pe_cmpR ho ha hb h1) (two fun _ _ _ _ h => h)
theorem de_ix {m : D → D → List D → R D} (ho : IxR X (opOf X.g m)) (ha : PE X a (TEof X.g Wx ma)) (hb : PE X b (TEof X.g Wx mb)) (h1 : PlainIx b) : PE X (.Subscript a b pos) (TEof X.g Wx (eOp m ma mb)) :=
  peImp (pe_ix ho ha hb h1) (two fun _ _ _ _ h => h)
/-! arguments -/
theorem da_nil : PA X [] (TAof X.g Wx aNil) := by
  refine paImp pa_nil fun σ H Q ⟨w, E, S, a, p⟩ => ?_
  have := p [] w (Ext.refl w) a.good rfl a.sto
  rw [a.hp] at this
  exact this
theorem da_cons {es : List Expr} {mr : MA} (ha : PE X a (TEof X.g Wx ma)) (hr : PA X es (TAof X.g Wx mr)) (hs : starEach (a :: es) X.env = (false, eval a X.env) :: starEach es X.env := by rfl) : PA X (a :: es) (TAof X.g Wx (aCons ma mr)) := by
  refine paImp (pa_cons ha hr hs) fun σ H Q ⟨w, E, S, a, p⟩ => ?_
  refine ⟨w, E, S, a, PR.imp (PR.bind a.good a.env p) fun x H1 ⟨w1, d, S1, a1, x1, r1, p1⟩ => ?_⟩
  refine ⟨w1, E, S1, a1, PR.imp (PR.bind a1.good a1.env p1) fun xs H2 ⟨w2, ds, S2, a2, x2, r2, p2⟩ => ?_⟩
  have := p2 (x :: xs) w2 (Ext.refl w2) a2.good (RDs.cons (RD.mono a1.good x2 d x r1) r2) a2.sto
  rw [a2.hp] at this
  exact this
theorem args {m : List D → List D → R D} {ma : MA} {r : List V → Hp → VK → Prop} (hr : ∀ xs H Q, argOf X.g m xs H Q → r xs H Q) : ∀ (σ : L2.St) H Q, TEof X.g Wx (eArgs m ma) σ H Q → tCB r (TAof X.g Wx ma) σ H Q := fun σ H Q ⟨w, E, S, a, p⟩ => by
  refine ⟨w, E, S, a, PR.imp (PR.bind a.good a.env p) fun xs H1 ⟨w1, ds, S1, a1, x1, r1, p1⟩ => ?_⟩
  exact hr xs H1 Q ⟨Wx, σ, w1, S1, ds, a1.hp, a1.good, a1.sto, r1, p1⟩
theorem de_callB {x : Str} {id : String} {m : List D → List D → R D} {es : List Expr} {e : Expr} {mr : MA} {p : Pos} (hc : CallR X (.builtin id) (argOf X.g m)) (hg : Gl X x) (hm : X.mg x = none) (hv : bootBuiltins x = some (.builtin id)) (ha : PA X (e :: es) (TAof X.g Wx mr)) (hn : x ≠ "__name__" := by decide) (hdb : (x == ("__debug__" : Str)) = false := by decide)
    (he : starEach (e :: es) X.env = (false, eval e X.env) :: starEach es X.env := by rfl) (hpl : (backTo pos (starEach es X.env)).any (·.1) = false := by rfl) : PE X (.Call (.Name x p) (e :: es) [] pos) (TEof X.g Wx (eArgs m mr)) :=
  peImp (pe_callB hc hg hm hv ha hn hdb he hpl) (args fun _ _ _ h => h)
theorem de_callTy {x : Str} {T : String} {m : List D → List D → R D} {es : List Expr} {e : Expr} {mr : MA} {p : Pos} (hc : CallR X (.type T) (argOf X.g m)) (hg : Gl X x) (hm : X.mg x = none) (hv : bootBuiltins x = some (.type T)) (ha : PA X (e :: es) (TAof X.g Wx mr)) (hn : x ≠ "__name__" := by decide) (hdb : (x == ("__debug__" : Str)) = false := by decide)
    (he : starEach (e :: es) X.env = (false, eval e X.env) :: starEach es X.env := by rfl) (hpl : (backTo pos (starEach es X.env)).any (·.1) = false := by rfl) : PE X (.Call (.Name x p) (e :: es) [] pos) (TEof X.g Wx (eArgs m mr)) :=
  peImp (pe_callTy hc hg hm hv ha hn hdb he hpl) (args fun _ _ _ h => h)
/-! new objects -/
theorem new_tup {Wx : WX} {σ : L2.St} {w : W} {Q : VK} {ds : List D} {vs : List V} {S : List D} (p : PR X.g Wx σ w (RD X.g) Q (.ok (.tup ds) S)) (G : Good w) (rs : RS X.g w S) (r : RDs X.g w ds vs) (q : Addr) (hq : w.H q = none) : Q (.ref q) (upd w.H q (.tup vs)) :=
  p (.ref q) (w.put q (.tup vs)) (put_ext hq) (put_good G hq) ⟨q, vs, rfl, ⟨upd_same, put_th (w := w) G hq⟩, r.mono G (put_ext hq)⟩ (put_store G hq rs)
theorem new_lst {Wx : WX} {σ : L2.St} {w : W} {Q : VK} {ds : List D} {vs : List V} {S : List D} (p : PR X.g Wx σ w (RD X.g) Q (.ok (.lst ds) S)) (G : Good w) (rs : RS X.g w S) (r : RDs X.g w ds vs) (q : Addr) (hq : w.H q = none) : Q (.ref q) (upd w.H q (.lst vs)) :=
  p (.ref q) (w.put q (.lst vs)) (put_ext hq) (put_good G hq) ⟨q, vs, rfl, upd_same, put_th (w := w) G hq, r.mono G (put_ext hq)⟩ (put_store G hq rs)
theorem new_loc {Wx : WX} {σ : L2.St} {w : W} {Q : VK} {ds : List D} {vs : List V} {S : List D} (p : PR X.g Wx σ w (RD X.g) Q (.ok (.loc S.length) (S ++ [.lst ds]))) (G : Good w) (rs : RS X.g w S) (r : RDs X.g w ds vs) (q : Addr) (hq : w.H q = none) : Q (.ref q) (upd w.H q (.lst vs)) :=
  p (.ref q) (w.add q (.lst vs)) (add_ext hq) (add_good G hq) ⟨q, rfl, by rw [rs.1]; simp⟩ (add_store G hq rs ⟨vs, upd_same, r.mono G (add_ext hq)⟩)
theorem sl_eq : SL = sizeLine := by rw [sizeLine_eq]; rfl
theorem de_disp {es : List Expr} {e : Expr} {mr : MA} {m : List D → List D → R D} {t : TE} (h : PE X e t) (ht : ∀ (σ : L2.St) H Q, (TAof X.g Wx mr) σ H (fun xs H1 => argOf X.g m xs H1 Q) → t σ H Q) : PE X e (TEof X.g Wx (eArgs m mr)) :=
  peImp h fun σ H Q hh => ht σ H Q (args (X := X) (r := argOf X.g m) (fun _ _ _ h => h) σ H Q hh)
theorem de_tup {es : List Expr} {mr : MA} {x1} (h : PA X es (TAof X.g Wx mr)) : PE X (.Tuple es x1 pos) (TEof X.g Wx (eArgs bTup mr)) := by
  refine de_disp (es := es) (pe_tup h) fun σ H Q ⟨w, E, S, a, p⟩ => ⟨w, E, S, a, PR.imp p fun xs H1 hh => ?_⟩
  obtain ⟨Wx, σ, w, S, ds, rfl, G, rs, r, p⟩ := hh
  unfold bTup at p
  split at p
  · rename_i hl
    rw [sl_eq, ← r.length] at hl
    exact ⟨hl, new_tup p G rs r⟩
  · exact p.elim
theorem de_lst {es : List Expr} {mr : MA} (h : PA X es (TAof X.g Wx mr)) : PE X (.List es pos) (TEof X.g Wx (eArgs bLst mr)) := by
  refine de_disp (es := es) (pe_lst h) fun σ H Q ⟨w, E, S, a, p⟩ => ⟨w, E, S, a, PR.imp p fun xs H1 hh => ?_⟩
  obtain ⟨Wx, σ, w, S, ds, rfl, G, rs, r, p⟩ := hh
  unfold bLst at p
  split at p
  · rename_i hl
    rw [sl_eq, ← r.length] at hl
    exact ⟨hl, new_lst p G rs r⟩
  · exact p.elim
theorem de_lstL {es : List Expr} {mr : MA} (h : PA X es (TAof X.g Wx mr)) : PE X (.List es pos) (TEof X.g Wx (eArgs bLstL mr)) := by
  refine de_disp (es := es) (pe_lst h) fun σ H Q ⟨w, E, S, a, p⟩ => ⟨w, E, S, a, PR.imp p fun xs H1 hh => ?_⟩
  obtain ⟨Wx, σ, w, S, ds, rfl, G, rs, r, p⟩ := hh
  unfold bLstL at p
  split at p
  · rename_i hl
    rw [sl_eq, ← r.length] at hl
    exact ⟨hl, new_loc p G rs r⟩
  · exact p.elim
end
end J
set_option Elab.async false
set_option linter.all false
set_option maxRecDepth 100000
set_option maxHeartbeats 1000000
namespace J
open PySem PySem.Spec PyProof.Rows L2
section
variable {X : Cx} {Wx : WX} {a b c : Expr} {ma mb mc : ME} {ta tb tc : MT} {pos : Pos}

/-! ### tests -/
theorem tvUse {Q : Bool → Hp → Prop} {σ : L2.St} {H : Hp} (h : TTof X.g Wx (tV ma) σ H Q) : TEof X.g Wx ma σ H fun x H1 => ∃ c, x = .bl c ∧ Q c H1 := by
  obtain ⟨w, E, S, a, p⟩ := h
  refine ⟨w, E, S, a, PR.imp (PR.bind a.good a.env p) fun x H1 ⟨w1, d, S1, a1, x1, r1, p1⟩ => ?_⟩
  cases d <;> try exact p1.elim
  rename_i k
  cases r1
  have := p1 k w1 (Ext.refl w1) a1.good rfl a1.sto
  rw [a1.hp] at this
  exact ⟨k, rfl, this⟩
theorem dt_cmp {op : CmpOp} {m : D → D → List D → R D} (ho : OpR X (compareOp op) (opOf X.g m)) (ha : PE X a (TEof X.g Wx ma)) (hb : PE X b (TEof X.g Wx mb)) (h1 : behindInMarks op b = false) : PT X (.Compare a [op] [b] pos) (TTof X.g Wx (tV (eOp m ma mb))) :=
  ptImp (pt_cmpR ho ha hb h1) fun σ H Q hh => two (X := X) (Wx := Wx) (fun _ _ _ _ h => h) σ H _ (tvUse hh)
theorem seqOf_some {S : List D} {d : D} {xs : List D} (h : seqOf S d = some xs) : d = .tup xs ∨ d = .lst xs ∨ d = .rdl xs ∨ ∃ n, d = .loc n ∧ S[n]? = some (.lst xs) := by
  unfold seqOf at h
  split at h
  · cases h; exact .inl rfl
  · cases h; exact .inr (.inl rfl)
  · cases h; exact .inr (.inr (.inl rfl))
  · rename_i n
    split at h
    · rename_i ds e
      cases h; exact .inr (.inr (.inr ⟨n, rfl, e⟩))
    · cases h
  · cases h
theorem lstOf_some {S : List D} {d : D} {xs : List D} (h : lstOf S d = some xs) : d = .lst xs ∨ ∃ n, d = .loc n ∧ S[n]? = some (.lst xs) := by
  unfold lstOf at h
  split at h
  · cases h; exact .inl rfl
  · rename_i n
    split at h
    · rename_i ds e
      cases h; exact .inr ⟨n, rfl, e⟩
    · cases h
  · cases h
theorem dctOf_some {S : List D} {d : D} {ks : List Ky} {xs : List D} (h : dctOf S d = some (ks, xs)) : d = .dct ks xs ∨ ∃ n, d = .loc n ∧ S[n]? = some (.dct ks xs) := by
  unfold dctOf at h
  split at h
  · cases h; exact .inl rfl
  · rename_i n
    split at h
    · rename_i ds e
      cases h; exact .inr ⟨n, rfl, by assumption⟩
    · cases h
  · cases h
theorem RD.seq {g : G} {w : W} {S : List D} {d : D} {v : V} {xs : List D} (rs : RS g w S) (r : RD g w d v) (h : seqOf S d = some xs) : ∃ p vs, v = .ref p ∧ (SqL g.K w.H p vs ∨ SqT g.K w.H p vs) ∧ RDs g w xs vs := by
  rcases seqOf_some h with rfl | rfl | rfl | ⟨n, rfl, e⟩
  · obtain ⟨p, vs, rfl, t, r⟩ := r
    exact ⟨p, vs, rfl, .inr t.sq, r⟩
  · obtain ⟨p, vs, rfl, t, _, r⟩ := r
    exact ⟨p, vs, rfl, .inl (SqL.of t), r⟩
  · obtain ⟨p, vs, rfl, t, r⟩ := r
    exact ⟨p, vs, rfl, .inl t.sq, r⟩
  · obtain ⟨p, rfl, hp⟩ := r
    obtain ⟨vs, h1, h2⟩ := rs.obj hp e
    exact ⟨p, vs, rfl, .inl (SqL.of h1), h2⟩
theorem RD.lstAt {g : G} {w : W} {S : List D} {d : D} {v : V} {xs : List D} (rs : RS g w S) (r : RD g w d v) (h : lstOf S d = some xs) : ∃ p vs, v = .ref p ∧ w.H p = some (.lst vs) ∧ RDs g w xs vs := by
  rcases lstOf_some h with rfl | ⟨n, rfl, e⟩
  · obtain ⟨p, vs, rfl, t, _, r⟩ := r
    exact ⟨p, vs, rfl, t, r⟩
  · obtain ⟨p, rfl, hp⟩ := r
    obtain ⟨vs, h1, h2⟩ := rs.obj hp e
    exact ⟨p, vs, rfl, h1, h2⟩
theorem RD.dctAt {g : G} {w : W} {S : List D} {d : D} {v : V} {ks : List Ky} {xs : List D} (rs : RS g w S) (r : RD g w d v) (h : dctOf S d = some (ks, xs)) : ∃ p vs, v = .ref p ∧ Rd w.H p (.dK (ks.zip vs)) ∧ ks.length = vs.length ∧ RDs g w xs vs := by
  rcases dctOf_some h with rfl | ⟨n, rfl, e⟩
  · obtain ⟨p, vs, rfl, t, l, _, r⟩ := r
    exact ⟨p, vs, rfl, t, l, r⟩
  · obtain ⟨p, rfl, hp⟩ := r
    obtain ⟨vs, h1, l, h2⟩ := rs.obj hp e
    exact ⟨p, vs, rfl, .inl h1, l, h2⟩
theorem RDs.isE {g : G} {w : W} {xs : List D} {vs : List V} (r : RDs g w xs vs) : vs.isEmpty = xs.isEmpty := by
  have := r.length
  cases xs <;> cases vs <;> simp_all
theorem zip_isE {α β : Type} {ks : List α} {vs : List β} (l : ks.length = vs.length) : (ks.zip vs).isEmpty = ks.isEmpty := by
  cases ks <;> cases vs <;> simp_all
def TruW (K : PySem.W.Frag) (x : V) (H : Hp) (k : Bool) : Prop := TruV K x H k ∨ ∃ p kvs, x = .ref p ∧ Rd H p (.dK kvs) ∧ k = !kvs.isEmpty
theorem tru_w {X : Cx} : TruR X (fun x H Q => ∃ k, TruW X.K x H k ∧ Q k H) := by
  intro pins s σ H x v Q I rx h
  obtain ⟨k, e | ⟨p, kvs, rfl, hx, rfl⟩, q⟩ := h
  · exact tru_ok pins s σ H x v Q I rx ⟨k, e, q⟩
  · cases rx
    have hs : sizeLine = 16777216 := sizeLine_eq
    obtain ⟨hz, hS, vs, r, m⟩ := dk_rd I.hok hx
    have hlen : kvs.length = vs.length := PySem.Paired.length r
    exact wpAny_truthy_dict hS m (by omega) ⟨H, I.tok _, by rw [isEmpty_kv r]; exact q⟩
theorem pt_truthW {X : Cx} {a : Expr} {ta : TE} (ha : PE X a ta) (he : ∀ whole, isTrue a X.env whole = (do let v ← whole; standAt a.pos; holding [v] (truthy v))) :
    PT X a (fun σ H Q => ta σ H fun x H' => ∃ k, TruW X.K x H' k ∧ Q k H') := by
  refine ⟨fun pins s σ H Q I h => ?_⟩
  exact isTrue_plain (thn (ha.run pins s σ H _ I h) fun v s1 ⟨x, H1, I1, r1, q1⟩ => tru_w pins s1 σ H1 x v Q I1 r1 q1) (he _)
theorem RD.truthV {g : G} {w : W} {S : List D} {d : D} {v : V} {k : Bool} (rs : RS g w S) (r : RD g w d v) (h : truth S d = some k) : TruW g.K v w.H k := by
  have sq : ∀ xs, seqOf S d = some xs → k = !xs.isEmpty → TruW g.K v w.H k := fun xs e e2 => by
    obtain ⟨p, vs, rfl, t, r2⟩ := RD.seq rs r e
    rw [e2]
    rcases t with t | t
    · exact .inl (.inl ⟨vs, t, by rw [r2.isE]⟩)
    · exact .inl (.inr (.inl ⟨vs, t, by rw [r2.isE]⟩))
  have dc : ∀ ks xs, dctOf S d = some (ks, xs) → k = !ks.isEmpty → TruW g.K v w.H k := fun ks xs e e2 => by
    obtain ⟨p, vs, rfl, t, l, r2⟩ := RD.dctAt rs r e
    rw [e2]
    exact .inr ⟨p, _, rfl, t, by rw [zip_isE l]⟩
  unfold truth at h
  split at h
  · cases h; cases r; exact .inl rfl
  · cases h; cases r; exact .inl rfl
  · cases h; cases r; exact .inl rfl
  · cases h; exact dc _ _ rfl rfl
  · cases h; exact sq _ rfl rfl
  · cases h; exact sq _ rfl rfl
  · cases h; exact sq _ rfl rfl
  · split at h
    · rename_i e
      cases h; exact sq _ (by simp only [seqOf, e]) rfl
    · rename_i e
      cases h; exact dc _ _ (by simp only [dctOf, e]; rfl) rfl
    · cases h
  · cases h
theorem dt_truth (h : PE X a (TEof X.g Wx ma)) (he : ∀ whole, isTrue a X.env whole = (do let v ← whole; standAt a.pos; holding [v] (truthy v)) := by intro _; rfl) : PT X a (TTof X.g Wx (tTr ma)) := by
  refine ptImp (pt_truthW h he) fun σ H Q ⟨w, E, S, a, p⟩ => ?_
  refine ⟨w, E, S, a, PR.imp (PR.bind a.good a.env p) fun x H1 ⟨w1, d, S1, a1, x1, r1, p1⟩ => ?_⟩
  split at p1
  · rename_i k e
    have := p1 k w1 (Ext.refl w1) a1.good rfl a1.sto
    rw [a1.hp] at this
    exact ⟨k, by rw [← a1.hp]; exact r1.truthV a1.sto e, this⟩
  · exact p1.elim
theorem dt_not (h : PT X a (TTof X.g Wx ta)) : PT X (.UnaryOp .Not a pos) (TTof X.g Wx (J.tNot ta)) := by
  refine ptImp (pt_not h) fun σ H Q ⟨w, E, S, a, p⟩ => ?_
  refine ⟨w, E, S, a, PR.imp (PR.bind a.good a.env p) fun x H1 ⟨w1, d, S1, a1, x1, r1, p1⟩ => ?_⟩
  obtain rfl : d = x := r1
  have := p1 (!d) w1 (Ext.refl w1) a1.good rfl a1.sto
  rw [a1.hp] at this
  exact this
theorem dw_and1 (h : PT X a (TTof X.g Wx ta)) : PW X (.BoolOp .And [a] pos) (TTof X.g Wx ta) := pw_and1 h
theorem dw_or1 (h : PT X a (TTof X.g Wx ta)) : PW X (.BoolOp .Or [a] pos) (TTof X.g Wx ta) := pw_or1 h
theorem dw_and {rest : List Expr} (h : PT X a (TTof X.g Wx ta)) (hb : PW X (.BoolOp .And (b :: rest) pos) (TTof X.g Wx tb)) : PW X (.BoolOp .And (a :: b :: rest) pos) (TTof X.g Wx (J.tAnd ta tb)) := by
  refine pwImp (pw_and h hb) fun σ H Q ⟨w, E, S, a, p⟩ => ?_
  refine ⟨w, E, S, a, PR.imp (PR.bind a.good a.env p) fun x H1 ⟨w1, d, S1, a1, x1, r1, p1⟩ => ?_⟩
  obtain rfl : d = x := r1
  cases d
  · rw [if_neg Bool.false_ne_true] at p1 ⊢
    have := p1 false w1 (Ext.refl w1) a1.good rfl a1.sto
    rw [a1.hp] at this
    exact this
  · rw [if_pos rfl] at p1 ⊢
    exact ⟨w1, E, S1, a1, p1⟩
theorem dw_or {rest : List Expr} (h : PT X a (TTof X.g Wx ta)) (hb : PW X (.BoolOp .Or (b :: rest) pos) (TTof X.g Wx tb)) : PW X (.BoolOp .Or (a :: b :: rest) pos) (TTof X.g Wx (J.tOr ta tb)) := by
  refine pwImp (pw_or h hb) fun σ H Q ⟨w, E, S, a, p⟩ => ?_
  refine ⟨w, E, S, a, PR.imp (PR.bind a.good a.env p) fun x H1 ⟨w1, d, S1, a1, x1, r1, p1⟩ => ?_⟩
  obtain rfl : d = x := r1
  cases d
  · rw [if_neg Bool.false_ne_true] at p1 ⊢
    exact ⟨w1, E, S1, a1, p1⟩
  · rw [if_pos rfl] at p1 ⊢
    have := p1 true w1 (Ext.refl w1) a1.good rfl a1.sto
    rw [a1.hp] at this
    exact this
/-! values by tests -/
theorem de_if (hc : PT X c (TTof X.g Wx tc)) (ha : PE X a (TEof X.g Wx ma)) (hb : PE X b (TEof X.g Wx mb)) : PE X (.IfExp c a b pos) (TEof X.g Wx (eIf tc ma mb)) := by
  refine peImp (pe_ifExp hc ha hb) fun σ H Q ⟨w, E, S, a, p⟩ => ?_
  refine ⟨w, E, S, a, PR.imp (PR.bind a.good a.env p) fun x H1 ⟨w1, d, S1, a1, x1, r1, p1⟩ => ?_⟩
  obtain rfl : d = x := r1
  cases d
  · rw [if_neg Bool.false_ne_true] at p1 ⊢
    exact ⟨w1, E, S1, a1, p1⟩
  · rw [if_pos rfl] at p1 ⊢
    exact ⟨w1, E, S1, a1, p1⟩
theorem de_one {op} (h : PE X a (TEof X.g Wx ma)) : PE X (.BoolOp op [a] pos) (TEof X.g Wx ma) := pe_one h
theorem blUse {σ : L2.St} {H : Hp} {E : Env} {k : Bool → List D → R D} {Q Q' : VK} {w1 : W} {d : D} {S1 : List D} {x : V} (a1 : At X.g w1 E σ H S1) (r1 : RD X.g w1 d x)
    (p : PR X.g Wx σ w1 (RD X.g) Q (onBl d fun c => k c S1)) : ∃ c, x = .bl c ∧ d = .bl c ∧ PR X.g Wx σ w1 (RD X.g) Q (k c S1) := by
  cases d <;> try exact p.elim
  cases r1
  exact ⟨_, rfl, rfl, p⟩
theorem de_and {rest : List Expr} (h : PE X a (TEof X.g Wx ma)) (hb : PE X (.BoolOp .And (b :: rest) pos) (TEof X.g Wx mb)) : PE X (.BoolOp .And (a :: b :: rest) pos) (TEof X.g Wx (eAnd ma mb)) := by
  refine peImp (pe_and h hb) fun σ H Q ⟨w, E, S, a, p⟩ => ?_
  refine ⟨w, E, S, a, PR.imp (PR.bind a.good a.env p) fun x H1 ⟨w1, d, S1, a1, x1, r1, p1⟩ => ?_⟩
  obtain ⟨c, rfl, rfl, q⟩ := blUse (k := fun c S1 => if c = true then mb E S1 else .ok (.bl false) S1) (Q' := Q) a1 r1 p1
  refine ⟨c, rfl, ?_⟩
  cases c
  · rw [if_neg Bool.false_ne_true] at q ⊢
    have := q (.bl false) w1 (Ext.refl w1) a1.good rfl a1.sto
    rw [a1.hp] at this
    exact this
  · rw [if_pos rfl] at q ⊢
    exact ⟨w1, E, S1, a1, q⟩
theorem de_not (h : PE X a (TEof X.g Wx ma)) : PE X (.UnaryOp .Not a pos) (TEof X.g Wx (eNot ma)) := by
  refine peImp (pe_not h) fun σ H Q ⟨w, E, S, a, p⟩ => ?_
  refine ⟨w, E, S, a, PR.imp (PR.bind a.good a.env p) fun x H1 ⟨w1, d, S1, a1, x1, r1, p1⟩ => ?_⟩
  obtain ⟨c, rfl, rfl, q⟩ := blUse (k := fun c S1 => .ok (.bl (!c)) S1) (Q' := Q) a1 r1 p1
  have := q (.bl (!c)) w1 (Ext.refl w1) a1.good rfl a1.sto
  rw [a1.hp] at this
  exact ⟨c, rfl, this⟩
theorem chainUse {m m' : D → D → List D → R D} : ∀ (σ : L2.St) H Q, TEof X.g Wx (eChain m m' ma mb mc) σ H Q → tChain (opOf X.g m) (opOf X.g m') (TEof X.g Wx ma) (TEof X.g Wx mb) (TEof X.g Wx mc) σ H Q := fun σ H Q ⟨w, E, S, a, p⟩ => by
  refine ⟨w, E, S, a, PR.imp (PR.bind a.good a.env p) fun x H1 ⟨w1, d, S1, a1, x1, r1, p1⟩ => ?_⟩
  refine ⟨w1, E, S1, a1, PR.imp (PR.bind a1.good a1.env p1) fun y H2 ⟨w2, e, S2, a2, x2, r2, p2⟩ => ?_⟩
  refine ⟨Wx, σ, w2, S2, d, e, a2.hp, a2.good, a2.sto, RD.mono a1.good x2 d x r1, r2, ?_⟩
  refine PR.imp (PR.bind a2.good a2.env p2) fun z H3 ⟨w3, f, S3, a3, x3, r3, p3⟩ => ?_
  obtain ⟨c, rfl, rfl, q⟩ := blUse (k := fun k S3 => if k = true then (mc E S3).bind fun z S4 => m' e z S4 else .ok (.bl false) S3) (Q' := Q) a3 r3 p3
  refine ⟨c, rfl, ?_⟩
  cases c
  · rw [if_neg Bool.false_ne_true] at q ⊢
    have := q (.bl false) w3 (Ext.refl w3) a3.good rfl a3.sto
    rw [a3.hp] at this
    exact this
  · rw [if_pos rfl] at q ⊢
    refine ⟨w3, E, S3, a3, PR.imp (PR.bind a3.good a3.env q) fun u H4 ⟨w4, f, S4, a4, x4, r4, p4⟩ => ?_⟩
    exact ⟨Wx, σ, w4, S4, e, f, a4.hp, a4.good, a4.sto, RD.mono a2.good (x3.trans x4) e y r2, r4, p4⟩
theorem de_chain {op op' : CmpOp} {m m' : D → D → List D → R D} (ho : OpR X (compareOp op) (opOf X.g m)) (ho' : OpR X (compareOp op') (opOf X.g m')) (ha : PE X a (TEof X.g Wx ma)) (hb : PE X b (TEof X.g Wx mb)) (hc : PE X c (TEof X.g Wx mc))
    (hm : lastMarks [op, op'] [b, c] = false := by with_unfolding_all rfl) : PE X (.Compare a [op, op'] [b, c] pos) (TEof X.g Wx (eChain m m' ma mb mc)) := peImp (pe_chain ho ho' ha hb hc hm) chainUse
end

/-! ### operators -/
section
variable {X : Cx}
theorem opI {f : Value → Value → Sem Value} {m : D → D → List D → R D} {C : Int → Int → Prop} {k : Int → Int → V} (ho : OpR X f (rI C k))
    (hm : ∀ d e S, (∃ i j, d = .int i ∧ e = .int j ∧ C i j ∧ ∃ z, m d e S = .ok z S ∧ ∀ w, RD X.g w z (k i j)) ∨ m d e S = .bad) : OpR X f (opOf X.g m) := by
  intro pins s σ H x y v u Q I rx ry ⟨Wx, σ', w, S, d, e, hH, G, rs, r1, r2, p⟩
  rcases hm d e S with ⟨i, j, rfl, rfl, c, z, ez, rz⟩ | eb
  · cases r1
    cases r2
    rw [ez] at p
    have := p _ w (Ext.refl w) G (rz w) rs
    rw [hH] at this
    exact ho pins s σ H _ _ v u Q I rx ry ⟨i, j, rfl, rfl, c, this⟩
  · rw [eb] at p
    exact p.elim
theorem opI0 {f : Value → Value → Sem Value} {m : D → D → List D → R D} {k : Int → Int → V} (ho : OpR X f (rI0 k))
    (hm : ∀ d e S, (∃ i j, d = .int i ∧ e = .int j ∧ ∃ z, m d e S = .ok z S ∧ ∀ w, RD X.g w z (k i j)) ∨ m d e S = .bad) : OpR X f (opOf X.g m) := by
  intro pins s σ H x y v u Q I rx ry ⟨Wx, σ', w, S, d, e, hH, G, rs, r1, r2, p⟩
  rcases hm d e S with ⟨i, j, rfl, rfl, z, ez, rz⟩ | eb
  · cases r1
    cases r2
    rw [ez] at p
    have := p _ w (Ext.refl w) G (rz w) rs
    rw [hH] at this
    exact ho pins s σ H _ _ v u Q I rx ry ⟨i, j, rfl, rfl, this⟩
  · rw [eb] at p
    exact p.elim
end
end J
set_option Elab.async false
set_option linter.all false
set_option maxRecDepth 100000
set_option maxHeartbeats 1000000
namespace J
open PySem PySem.Spec PyProof.Rows L2
section
variable {X : Cx}
theorem putSame {Wx : WX} {σ : L2.St} {w : W} {rel : W → D → V → Prop} {Q : VK} {d : D} {v : V} {S : List D} (p : PR X.g Wx σ w rel Q (.ok d S)) (G : Good w) (rs : RS X.g w S) (r : rel w d v) : Q v w.H :=
  p v w (Ext.refl w) G r rs
/-! ints -/
theorem jo_sub : OpR X (binaryOp .Sub) (opOf X.g oSub) := opI0 op_sub fun d e S => by
  unfold oSub; split
  · exact .inl ⟨_, _, rfl, rfl, _, rfl, fun _ => rfl⟩
  · exact .inr rfl
theorem jo_div : OpR X (binaryOp .FloorDiv) (opOf X.g oDiv) := opI op_fdivN fun d e S => by
  unfold oDiv; split
  · split
    · rename_i h
      exact .inl ⟨_, _, rfl, rfl, h, _, rfl, fun _ => rfl⟩
    · exact .inr rfl
  · exact .inr rfl
theorem jo_mod : OpR X (binaryOp .Mod) (opOf X.g oMod) := opI op_modN fun d e S => by
  unfold oMod; split
  · split
    · rename_i h
      exact .inl ⟨_, _, rfl, rfl, h, _, rfl, fun _ => rfl⟩
    · exact .inr rfl
  · exact .inr rfl
theorem jo_lt : OpR X (compareOp .Lt) (opOf X.g oLt) := opI0 op_lt fun d e S => by
  unfold oLt; split
  · exact .inl ⟨_, _, rfl, rfl, _, rfl, fun _ => rfl⟩
  · exact .inr rfl
theorem jo_le : OpR X (compareOp .LtE) (opOf X.g oLe) := opI0 op_le fun d e S => by
  unfold oLe; split
  · exact .inl ⟨_, _, rfl, rfl, _, rfl, fun _ => rfl⟩
  · exact .inr rfl
theorem jo_gt : OpR X (compareOp .Gt) (opOf X.g oGt) := opI0 op_gt fun d e S => by
  unfold oGt; split
  · exact .inl ⟨_, _, rfl, rfl, _, rfl, fun _ => rfl⟩
  · exact .inr rfl
theorem jo_ge : OpR X (compareOp .GtE) (opOf X.g oGe) := opI0 op_ge fun d e S => by
  unfold oGe; split
  · exact .inl ⟨_, _, rfl, rfl, _, rfl, fun _ => rfl⟩
  · exact .inr rfl
theorem ju_neg : UnR X (unaryOp .USub) (unOf X.g oNeg) := by
  intro pins s σ H x v Q I rx ⟨Wx, σ', w, S, d, hH, G, rs, r1, p⟩
  unfold oNeg at p
  split at p
  · cases r1
    have := putSame p G rs rfl
    rw [hH] at this
    exact un_neg pins s σ H _ v Q I rx ⟨_, rfl, this⟩
  · exact p.elim
theorem jo_add : OpR X (binaryOp .Add) (opOf X.g oAdd) := by
  intro pins s σ H x y v u Q I rx ry ⟨Wx, σ', w, S, d, e, hH, G, rs, r1, r2, p⟩
  subst hH
  unfold oAdd at p
  split at p
  · cases r1
    cases r2
    exact op_add pins s σ _ _ _ v u Q I rx ry ⟨_, _, rfl, rfl, putSame p G rs rfl⟩
  · split at p
    · rename_i xs ys hl
      obtain ⟨a, vs, rfl, ta, ra⟩ := id r1
      obtain ⟨b, us, rfl, tb, rb⟩ := id r2
      refine op_catA pins s σ _ _ _ v u Q I rx ry ⟨a, b, vs, us, rfl, rfl, ta.sq, tb.sq, by rw [ra.length, rb.length, ← sl_eq]; exact hl, fun z => ?_, fun _ z => ?_, fun _ _ => new_tup p G rs (ra.append rb)⟩
      · have l := ra.length
        rw [z] at l
        have z2 : xs = [] := List.eq_nil_of_length_eq_zero l.symm
        subst z2
        exact putSame p G rs r2
      · have l := rb.length
        rw [z] at l
        have z2 : ys = [] := List.eq_nil_of_length_eq_zero l.symm
        subst z2
        rw [List.append_nil] at p
        exact putSame p G rs r1
    · exact p.elim
  · split at p
    · rename_i xs ys e1 e2
      split at p
      · rename_i hl
        obtain ⟨a, vs, rfl, ta, ra⟩ := r1.lstAt rs e1
        obtain ⟨b, us, rfl, tb, rb⟩ := r2.lstAt rs e2
        exact op_cat pins s σ _ _ _ v u Q I rx ry ⟨a, b, vs, us, rfl, rfl, ta, tb, by rw [ra.length, rb.length, ← sl_eq]; exact hl, new_lst p G rs (ra.append rb)⟩
      · exact p.elim
    · exact p.elim
theorem smallI_iff {i : Int} : smallI i = true ↔ -(2 ^ 64) < i ∧ i < 2 ^ 64 := by
  unfold smallI
  rw [Bool.and_eq_true, decide_eq_true_eq, decide_eq_true_eq]
  exact Iff.rfl
theorem tuple_mulW1 (l : Addr) (items : Array Value) (n : Nat) (dd : Option Addr) (sl : Array (Option Value)) (u : Tok) :
    Meets (Builtin.«tuple.__mul__» ⟨[.ref l, .int 1 u], []⟩) (fun _ R s => s.heap.get? l = some { cls := .type "tuple", dict := dd, data := .seq items n, slots := sl } ∧ R (.ok (.ret (Value.ref l))) s) :=
  .of_wp fun prog w A R s h => by
    obtain ⟨hp, g, d, tk, os⟩ := s
    obtain ⟨hl, h⟩ := h
    have f1 := AutoSeq1.idx_int
    have c0 : (decide ((1 : Int) < -(2 ^ 63)) || decide ((1 : Int) ≥ 2 ^ 63)) = false := by decide
    have c1 : (items.isEmpty || (1 : Int) == 1) = true := by simp
    wp_walk using wpAny_loadPart' hl
    repeat (first
      | (refine wpAny_ite_false (decide_eq_false (by rw [c0]; exact Bool.false_ne_true)) ?_; wp_walk using wpAny_loadPart' hl)
      | (refine wpAny_ite_true (decide_eq_true (by rw [c1])) ?_; wp_walk using wpAny_loadPart' hl))
    exact ⟨_, rfl, h⟩
theorem op_repT1 {X : Cx} : OpR X (binaryOp .Mult) (fun x y H Q => ∃ l xs, x = .ref l ∧ y = .int 1 ∧ SqT X.K H l xs ∧ Q (.ref l) H) := by
  intro pins s σ H x y v u Q I rx ry h
  obtain ⟨l, xs, rfl, rfl, hT, q⟩ := h
  cases rx
  obtain ⟨t, rfl⟩ := ry
  obtain ⟨its, r, ⟨⟨cls, dd, data, sl⟩, ho, hc, n, hd⟩, hs⟩ := I.tuple hT
  simp only at hc hd
  subst hc hd
  refine wpAny_binaryOp_repeat_ref (T := "tuple") (U := "int") (by decide) ⟨_, ho, rfl⟩ (fun s' => typeIs_int s' 1 t) noFill_tuple_mul F.fills_int_mul F.slot_int_rmul repeat_tuple F.slot_int_index.lookup
    (call_meets F.slot_int_rmul (typeIs_int s 1 t) F.entry_int_rmul (F.args_int_rmul_2 _ _) (int_rmul_tuple 1 t l its.toArray n dd sl)
      ⟨ho, rfl, ⟨_, ho, rfl⟩, call_meets F.slot_tuple_mul ⟨_, ho, rfl⟩ F.entry_tuple_mul (F.args_tuple_mul_2 _ _) (tuple_mulW1 l its.toArray n dd sl t) ⟨ho, ?_⟩⟩)
  exact ⟨.ref l, H, I, rfl, q⟩
theorem jo_mul : OpR X (binaryOp .Mult) (opOf X.g oMul) := by
  intro pins s σ H x y v u Q I rx ry ⟨Wx, σ', w, S, d, e, hH, G, rs, r1, r2, p⟩
  subst hH
  unfold oMul at p
  split at p
  · split at p
    · rename_i h
      cases r1
      cases r2
      exact op_mul pins s σ _ _ _ v u Q I rx ry ⟨_, _, rfl, rfl, h.imp smallI_iff.mp smallI_iff.mp, putSame p G rs rfl⟩
    · exact p.elim
  · split at p
    · rename_i xs k h
      obtain ⟨h1, h2, h3, h4⟩ := h
      cases r2
      obtain ⟨a, vs, rfl, ta, ra⟩ := id r1
      by_cases hk : k = 1
      · subst hk
        refine op_repT1 pins s σ _ _ _ v u Q I rx ry ⟨a, vs, rfl, rfl, ta.sq, putSame p G rs ?_⟩
        have e1 : (List.replicate (Int.toNat 1) xs).flatten = xs := by simp [List.replicate]
        rw [e1]
        exact r1
      · refine op_repT pins s σ _ _ _ v u Q I rx ry ⟨a, _, vs, rfl, rfl, ta.sq, ?_, by omega, h3, by rw [ra.length]; exact h4, new_tup p G rs (ra.rep _)⟩
        intro z
        apply h1
        have := ra.length
        rw [z] at this
        exact List.eq_nil_of_length_eq_zero this.symm
    · exact p.elim
  · split at p
    · rename_i xs e1
      split at p
      · rename_i h
        cases r2
        obtain ⟨a, vs, rfl, ta, ra⟩ := r1.lstAt rs e1
        exact op_rep pins s σ _ _ _ v u Q I rx ry ⟨a, _, vs, rfl, rfl, ta, h.1, h.2.1, by rw [ra.length, ← sl_eq]; exact h.2.2, new_lst p G rs (ra.rep _)⟩
      · exact p.elim
    · exact p.elim
  · exact p.elim
/-! == : a value as data -/
mutual
def D.py : D → PyData
  | .non => .none
  | .bl b => .bool b
  | .int i => .int i
  | .str x => .str x
  | .tup ds => .tuple (D.pys ds)
  | .lst ds => .list (D.pys ds)
  | .rdl ds => .list (D.pys ds)
  | _ => .none
def D.pys : List D → List PyData
  | [] => []
  | d :: ds => d.py :: D.pys ds
end
mutual
theorem py_lay : ∀ d : D, d.cmpb = true → d.py.canLay0 = true
  | .non, _ => rfl
  | .bl _, _ => rfl
  | .int _, _ => rfl
  | .str x, h => h
  | .tup ds, h => pys_lay ds h
  | .lst ds, h => pys_lay ds h
  | .rdl ds, h => pys_lay ds h
theorem pys_lay : ∀ ds : List D, D.cmpbs ds = true → PyData.canLayAll0 (D.pys ds) = true
  | [], _ => rfl
  | d :: ds, h => by
    simp only [D.cmpbs, Bool.and_eq_true] at h
    simp only [D.pys, PyData.canLayAll0, Bool.and_eq_true]
    exact ⟨py_lay d h.1, pys_lay ds h.2⟩
end
mutual
theorem py_depth : ∀ d : D, d.cmpb = true → d.py.depth = d.depth
  | .non, _ => rfl
  | .bl _, _ => rfl
  | .int _, _ => rfl
  | .str x, h => rfl
  | .tup ds, h => by show PyData.depthAll _ + 1 = D.depths _ + 1; rw [pys_depth ds h]
  | .lst ds, h => by show PyData.depthAll _ + 1 = D.depths _ + 1; rw [pys_depth ds h]
  | .rdl ds, h => by show PyData.depthAll _ + 1 = D.depths _ + 1; rw [pys_depth ds h]
theorem pys_depth : ∀ ds : List D, D.cmpbs ds = true → PyData.depthAll (D.pys ds) = D.depths ds
  | [], _ => rfl
  | d :: ds, h => by
    simp only [D.cmpbs, Bool.and_eq_true] at h
    show max _ _ = max _ _
    rw [py_depth d h.1, pys_depth ds h.2]
end
theorem py_shaped {d : D} (h : cmpOk d = true) : SeqAt.shaped d.py = true := by
  unfold cmpOk at h
  simp only [Bool.and_eq_true, decide_eq_true_eq] at h
  unfold SeqAt.shaped
  simp only [Bool.and_eq_true, decide_eq_true_eq]
  exact ⟨py_lay d h.1, by rw [py_depth d h.1]; exact h.2⟩
mutual
theorem py_eqv : ∀ d e : D, d.cmpb = true → e.cmpb = true → PyData.eqv d.py e.py = d.eqB e
  | .non, e, _, h => by cases e <;> first | rfl | exact absurd h (by simp [D.cmpb])
  | .bl _, e, _, h => by cases e <;> first | rfl | exact absurd h (by simp [D.cmpb])
  | .int _, e, _, h => by cases e <;> first | rfl | exact absurd h (by simp [D.cmpb])
  | .str _, e, _, h => by cases e <;> first | rfl | exact absurd h (by simp [D.cmpb])
  | .tup xs, e, h1, h => by cases e <;> first | rfl | exact pys_eqv xs _ h1 h | exact absurd h (by simp [D.cmpb])
  | .lst xs, e, h1, h => by cases e <;> first | rfl | exact pys_eqv xs _ h1 h | exact absurd h (by simp [D.cmpb])
  | .rdl xs, e, h1, h => by cases e <;> first | rfl | exact pys_eqv xs _ h1 h | exact absurd h (by simp [D.cmpb])
theorem pys_eqv : ∀ ds es : List D, D.cmpbs ds = true → D.cmpbs es = true → PyData.eqvAll (D.pys ds) (D.pys es) = D.eqBs ds es
  | [], [], _, _ => rfl
  | [], _ :: _, _, _ => rfl
  | _ :: _, [], _, _ => rfl
  | d :: ds, e :: es, h, k => by
    simp only [D.cmpbs, Bool.and_eq_true] at h k
    show (PyData.eqv _ _ && PyData.eqvAll _ _) = (_ && _)
    rw [py_eqv d e h.1 k.1, pys_eqv ds es h.2 k.2]
end
mutual
theorem py_dp {g : G} {w : W} : ∀ (d : D) (v : V), d.cmpb = true → RD g w d v → Dp g.K w.H v d.py
  | .non, _, _, r => by cases r; exact .non
  | .bl _, _, _, r => by cases r; exact .bl _
  | .int _, _, _, r => by cases r; exact .int _
  | .str _, _, _, r => by cases r; exact .str _
  | .tup ds, _, h, r => by
    obtain ⟨a, vs, rfl, t, r⟩ := r
    exact .tup t.sq (pys_dp ds vs h r)
  | .lst ds, _, h, r => by
    obtain ⟨a, vs, rfl, t, _, r⟩ := r
    exact .lst (SqL.of t) (pys_dp ds vs h r)
  | .rdl ds, _, h, r => by
    obtain ⟨a, vs, rfl, t, r⟩ := r
    exact .lst t.sq (pys_dp ds vs h r)
theorem pys_dp {g : G} {w : W} : ∀ (ds : List D) (vs : List V), D.cmpbs ds = true → RDs g w ds vs → DpAll g.K w.H vs (D.pys ds)
  | [], _, _, r => by cases r; exact .nil
  | d :: ds, _, h, r => by
    obtain ⟨v, vs, rfl, r1, r2⟩ := r
    simp only [D.cmpbs, Bool.and_eq_true] at h
    exact .cons (py_dp d v h.1 r1) (pys_dp ds vs h.2 r2)
end
theorem cmpOk_b {d : D} (h : cmpOk d = true) : d.cmpb = true := by
  unfold cmpOk at h
  exact (Bool.and_eq_true_iff.mp h).1
theorem seen_dp {g : G} {w : W} {S : List D} {d : D} {v : V} (rs : RS g w S) (r : RD g w d v) (h : cmpOk (seen S d) = true) : Dp g.K w.H v (seen S d).py := by
  have hc : (seen S d).cmpb = true := cmpOk_b h
  cases d with
  | loc n =>
    cases e : S[n]? with
    | none =>
      simp only [seen, e] at hc
      exact absurd hc (by simp [D.cmpb])
    | some o =>
      cases o with
      | lst ds =>
        simp only [seen, e] at hc ⊢
        obtain ⟨p, rfl, hp⟩ := r
        obtain ⟨vs, h1, h2⟩ := rs.obj hp e
        exact .lst (SqL.of h1) (pys_dp ds vs hc h2)
      | _ =>
        simp only [seen, e] at hc
        exact absurd hc (by simp [D.cmpb])
  | _ => exact py_dp _ _ hc r
theorem jo_eq (hu : X.A.units + 64 < cLine) : OpR X (compareOp .Eq) (opOf X.g oEq) := by
  intro pins s σ H x y v u Q I rx ry ⟨Wx, σ', w, S, d, e, hH, G, rs, r1, r2, p⟩
  subst hH
  unfold oEq at p
  split at p
  · rename_i h
    refine op_eqD hu pins s σ _ _ _ v u Q I rx ry ⟨_, _, seen_dp rs r1 h.1, seen_dp rs r2 h.2, py_shaped h.1, py_shaped h.2, ?_⟩
    rw [py_eqv _ _ (cmpOk_b h.1) (cmpOk_b h.2)]
    exact putSame p G rs rfl
  · exact p.elim
theorem jo_ne (hu : X.A.units + 64 < cLine) : OpR X (compareOp .NotEq) (opOf X.g oNe) := by
  intro pins s σ H x y v u Q I rx ry ⟨Wx, σ', w, S, d, e, hH, G, rs, r1, r2, p⟩
  subst hH
  unfold oNe at p
  split at p
  · rename_i h
    refine op_neD hu pins s σ _ _ _ v u Q I rx ry ⟨_, _, seen_dp rs r1 h.1, seen_dp rs r2 h.2, py_shaped h.1, py_shaped h.2, ?_⟩
    rw [py_eqv _ _ (cmpOk_b h.1) (cmpOk_b h.2)]
    exact putSame p G rs rfl
  · exact p.elim
/-! is None -/
theorem isNon_of {g : G} {w : W} {d : D} {x : V} (r1 : RD g w d x) : decide (x = .non) = d.isNon := by
  cases d with
  | non => cases r1; rfl
  | bl b => cases r1; rfl
  | int b => cases r1; rfl
  | str b => cases r1; rfl
  | ty b => cases r1; rfl
  | tup b => obtain ⟨_, _, rfl, _⟩ := r1; rfl
  | lst b => obtain ⟨_, _, rfl, _⟩ := r1; rfl
  | rdl b => obtain ⟨_, _, rfl, _⟩ := r1; rfl
  | dct b => obtain ⟨_, _, rfl, _⟩ := r1; rfl
  | dcT b => obtain ⟨_, _, rfl, _⟩ := r1; rfl
  | tuk b => obtain ⟨_, _, _, rfl, _⟩ := r1; rfl
  | loc b => obtain ⟨_, rfl, _⟩ := r1; rfl
  | fn b => obtain ⟨_, _, rfl⟩ := r1; rfl
  | kn b P => obtain ⟨rfl, _⟩ := r1; rfl
  | tab b => exact r1.elim
end
end J
set_option Elab.async false
set_option linter.all false
set_option maxRecDepth 100000
set_option maxHeartbeats 1000000
namespace J
open PySem PySem.Spec PyProof.Rows L2
section
variable {X : Cx} {Wx : WX}
theorem ky_of {g : G} {w : W} {d : D} {v : V} {k : Ky} (r : RD g w d v) (h : keyOf d = some k) : v = kV k := by
  cases d <;> first
    | (simp only [keyOf, Option.some.injEq] at h; subst h; exact r)
    | exact absurd h (by simp [keyOf])
theorem kys_of {g : G} {w : W} : ∀ {ds : List D} {vs : List V} {ks : List Ky}, RDs g w ds vs → keysOf ds = some ks → vs = ks.map kV
  | [], _, _, r, h => by cases h; exact r
  | d :: ds, _, _, r, h => by
    obtain ⟨v, vs, rfl, r1, r2⟩ := r
    unfold keysOf at h
    split at h
    · rename_i k ks h1 h2
      cases h
      rw [List.map_cons, ky_of r1 h1, kys_of r2 h2]
    · cases h
theorem kyT_of {g : G} {w : W} {d : D} {v : V} {ks : List Ky} (r : RD g w d v) (h : keyT d = some ks) : ∃ b, v = .ref b ∧ w.H b = some (.tup (ks.map kV)) ∧ ¬ w.thA b := by
  cases d with
  | tup ds =>
    obtain ⟨b, vs, rfl, t, r⟩ := r
    have := kys_of r h
    subst this
    exact ⟨b, rfl, t.1, t.2⟩
  | _ => simp [keyT] at h
/-! dicts by zip -/
theorem valV_zip {g : G} {w : W} : ∀ {ks : List Ky} {ds : List D} {vs : List V} (k : Ky), ks.length = vs.length → RDs g w ds vs → (∀ d, getK ks ds k = some d → ∃ v, valV (ks.zip vs) k = some v ∧ RD g w d v)
  | [], _, _, k, _, _, d, h => by simp [getK] at h
  | q :: ks, [], _, k, _, r, d, h => by simp [getK] at h
  | q :: ks, e :: ds, _, k, l, r, d, h => by
    obtain ⟨v, vs, rfl, r1, r2⟩ := r
    simp only [getK] at h
    rw [List.zip_cons_cons]
    split at h
    · rename_i hq
      cases h
      exact ⟨v, valV_pos hq, r1⟩
    · rename_i hq
      rw [valV_neg hq]
      exact valV_zip k (by simpa using l) r2 d h
theorem valV_some : ∀ {ks : List Ky} {vs : List V} (k : Ky), ks.length = vs.length → (valV (ks.zip vs) k).isSome = keyIn ks k
  | [], _, k, _ => by simp [keyIn, valV]
  | q :: ks, [], k, l => by simp at l
  | q :: ks, v :: vs, k, l => by
    rw [List.zip_cons_cons]
    show _ = (decide (q = k) || keyIn ks k)
    by_cases h : q = k
    · rw [valV_pos h, decide_eq_true h]; rfl
    · rw [valV_neg h, decide_eq_false h, Bool.false_or]
      exact valV_some k (by simpa using l)
theorem valV_someG {κ : Type} [DecidableEq κ] : ∀ {ks : List κ} {vs : List V} (k : κ), ks.length = vs.length → (valV (ks.zip vs) k).isSome = ks.any fun q => decide (q = k)
  | [], _, k, _ => by simp [valV]
  | q :: ks, [], k, l => by simp at l
  | q :: ks, v :: vs, k, l => by
    rw [List.zip_cons_cons]
    show _ = (decide (q = k) || ks.any fun q => decide (q = k))
    by_cases h : q = k
    · rw [valV_pos h, decide_eq_true h]; rfl
    · rw [valV_neg h, decide_eq_false h, Bool.false_or]
      exact valV_someG k (by simpa using l)
/-! x in xs -/
theorem pys_any : ∀ (x : D) (xs : List D), x.cmpb = true → xs.all cmpOk = true → ((D.pys xs).any fun z => PyData.eqv z x.py) = inD x xs
  | _, [], _, _ => rfl
  | x, y :: ys, h, k => by
    simp only [List.all_cons, Bool.and_eq_true] at k
    show (PyData.eqv _ _ || List.any _ _) = (D.eqB _ _ || inD _ _)
    rw [py_eqv _ _ (cmpOk_b k.1) h, pys_any x ys h k.2]
theorem all_cmpbs : ∀ {xs : List D}, xs.all cmpOk = true → D.cmpbs xs = true ∧ D.depths xs ≤ 64
  | [], _ => ⟨rfl, Nat.zero_le _⟩
  | x :: xs, h => by
    simp only [List.all_cons, Bool.and_eq_true] at h
    obtain ⟨h1, h2⟩ := all_cmpbs h.2
    have hx := h.1
    unfold cmpOk at hx
    simp only [Bool.and_eq_true, decide_eq_true_eq] at hx
    refine ⟨by simp only [D.cmpbs, Bool.and_eq_true]; exact ⟨hx.1, h1⟩, ?_⟩
    show max _ _ ≤ 64
    omega
theorem seq_dp {g : G} {w : W} {S : List D} {d : D} {v : V} {xs : List D} (rs : RS g w S) (r : RD g w d v) (h : seqOf S d = some xs) (k : xs.all cmpOk = true) : Dp g.K w.H v (.list (D.pys xs)) ∨ Dp g.K w.H v (.tuple (D.pys xs)) := by
  obtain ⟨p, vs, rfl, t, r2⟩ := r.seq rs h
  have c := (all_cmpbs k).1
  rcases t with t | t
  · exact .inl (.lst t (pys_dp xs vs c r2))
  · exact .inr (.tup t (pys_dp xs vs c r2))
theorem room_in {A : Around} {xs : List D} {d : D} (hd : cmpOk d = true) (hu : A.units + 65 < cLine) : A.units + 1 + min (PyData.depthAll (D.pys xs)) d.py.depth < cLine := by
  have := SeqAt.depth_of_shaped (py_shaped hd)
  have := Nat.min_le_right (PyData.depthAll (D.pys xs)) d.py.depth
  omega
theorem jo_in (hu : X.A.units + 65 < cLine) : OpR X (compareOp .In) (opOf X.g oIn) := by
  intro pins s σ H x y v u Q I rx ry ⟨Wx, σ', w, S, d, e, hH, G, rs, r1, r2, p⟩
  subst hH
  unfold oIn at p
  split at p
  · rename_i xs e1
    split at p
    · rename_i h
      have q := putSame p G rs rfl
      obtain ⟨as, q1⟩ := Dp.reads I _ _ v (seen_dp rs r1 h.1) rx
      rw [← pys_any _ _ (cmpOk_b h.1) h.2] at q
      have hl := pys_lay _ (all_cmpbs h.2).1
      rcases seq_dp rs r2 e1 h.2 with t | t
      · obtain ⟨bs, q2⟩ := Dp.reads I _ _ u t ry
        exact SeqAt.in_list_reads q2 q1 hl (py_lay _ (cmpOk_b h.1)) (room_in h.1 hu) ⟨.bl _, _, I, rfl, q⟩
      · obtain ⟨bs, q2⟩ := Dp.reads I _ _ u t ry
        exact SeqAt.in_tuple_reads q2 q1 hl (py_lay _ (cmpOk_b h.1)) (room_in h.1 hu) ⟨.bl _, _, I, rfl, q⟩
    · exact p.elim
  · split at p
    · rename_i ks vs k e1 e2
      obtain ⟨a, us, rfl, t, l, r3⟩ := r2.dctAt rs e1
      cases ry
      have := ky_of r1 e2
      subst this
      have q := putSame p G rs rfl
      refine d_in (by omega) I (.inl ⟨_, k, t, rfl, rfl⟩) rx fun s' I' => ⟨.bl _, _, I', rfl, ?_⟩
      rw [valV_some k l]
      exact q
    · exact p.elim
theorem jo_nin (hu : X.A.units + 65 < cLine) : OpR X (compareOp .NotIn) (opOf X.g oNin) := by
  intro pins s σ H x y v u Q I rx ry ⟨Wx, σ', w, S, d, e, hH, G, rs, r1, r2, p⟩
  subst hH
  unfold oNin at p
  split at p
  · rename_i xs e1
    split at p
    · rename_i h
      have q := putSame p G rs rfl
      obtain ⟨as, q1⟩ := Dp.reads I _ _ v (seen_dp rs r1 h.1) rx
      rw [← pys_any _ _ (cmpOk_b h.1) h.2] at q
      have hl := pys_lay _ (all_cmpbs h.2).1
      rcases seq_dp rs r2 e1 h.2 with t | t
      · obtain ⟨bs, q2⟩ := Dp.reads I _ _ u t ry
        exact SeqAt.notIn_list_reads q2 q1 hl (py_lay _ (cmpOk_b h.1)) (room_in h.1 hu) ⟨.bl _, _, I, rfl, q⟩
      · obtain ⟨bs, q2⟩ := Dp.reads I _ _ u t ry
        exact SeqAt.notIn_tuple_reads q2 q1 hl (py_lay _ (cmpOk_b h.1)) (room_in h.1 hu) ⟨.bl _, _, I, rfl, q⟩
    · exact p.elim
  · split at p
    · rename_i ks vs k e1 e2
      obtain ⟨a, us, rfl, t, l, r3⟩ := r2.dctAt rs e1
      cases ry
      have := ky_of r1 e2
      subst this
      have q := putSame p G rs rfl
      refine d_notIn (by omega) I (.inl ⟨_, k, t, rfl, rfl⟩) rx fun s' I' => ⟨.bl _, _, I', rfl, ?_⟩
      rw [valV_some k l]
      exact q
    · exact p.elim
/-! x[i] -/
theorem ixOf_eq (n : Nat) (i : Int) : ixOf n i = ixN n i := rfl
theorem atOf_of {g : G} {w : W} {ds : List D} {vs : List V} {i : Int} {d : D} (r : RDs g w ds vs) (h : atOf ds i = some d) : ∃ v, atI vs i = some v ∧ RD g w d v := by
  unfold atOf at h
  unfold atI
  rw [r.length, ← ixOf_eq]
  cases e : ixOf ds.length i with
  | none => rw [e] at h; cases h
  | some j =>
    rw [e] at h
    exact r.get h
theorem ixUse {w : W} {S : List D} {d e : D} {x y : V} {Q : VK} {Wx : WX} {σ : L2.St} (G : Good w) (rs : RS X.g w S) (r1 : RD X.g w d x) (r2 : RD X.g w e y) (p : PR X.g Wx σ w (RD X.g) Q (oIx d e S)) :
    (rIxL X.K x y w.H Q ∨ rIxT X.K x y w.H Q) ∨ ∃ a v, x = .ref a ∧ DGet w.H a y (some v) ∧ Q v w.H := by
  unfold oIx at p
  split at p
  · rename_i xs k e1
    split at p
    · rename_i z e2
      cases r2
      obtain ⟨a, vs, rfl, t, r3⟩ := r1.seq rs e1
      obtain ⟨v, e3, r4⟩ := atOf_of r3 e2
      have q := putSame p G rs r4
      rcases t with t | t
      · exact .inl (.inl ⟨a, vs, k, v, rfl, rfl, t, e3, q⟩)
      · exact .inl (.inr ⟨a, vs, k, v, rfl, rfl, t, e3, q⟩)
    · exact p.elim
  · split at p
    · rename_i ks ds k e1 e2
      split at p
      · rename_i z e3
        obtain ⟨a, us, rfl, t, l, r3⟩ := r1.dctAt rs e1
        have := ky_of r2 e2
        subst this
        obtain ⟨v, e4, r4⟩ := valV_zip k l r3 z e3
        exact .inr ⟨a, v, rfl, by rw [← e4]; exact .inl ⟨_, k, t, rfl, rfl⟩, putSame p G rs r4⟩
      · exact p.elim
    · exact p.elim
theorem jo_ix (hu : X.A.units + 1 < cLine) : IxR X (opOf X.g oIx) := by
  intro value slice pins s σ H x y v u Q I rx ry ⟨Wx, σ', w, S, d, e, hH, G, rs, r1, r2, p⟩ hs
  subst hH
  rcases ixUse G rs r1 r2 p with (h | h) | ⟨a, z, rfl, h, q⟩
  · exact ix_list value slice pins s σ _ x y v u Q I rx ry h hs
  · exact ix_tup value slice pins s σ _ x y v u Q I rx ry h hs
  · cases rx
    exact tail_any (dict_typeIs I h) PySem.F.slot_dict_getitem.lookup (d_getItem hu I h ry fun w' s' I' r' => ⟨z, _, I', r', q⟩) hs
theorem jg_ix (hu : X.A.units + 1 < cLine) : PGet X (opOf X.g oIx) := by
  intro pins s σ H x y v u Q I rx ry ⟨Wx, σ', w, S, d, e, hH, G, rs, r1, r2, p⟩
  subst hH
  rcases ixUse G rs r1 r2 p with (h | h) | ⟨a, z, rfl, h, q⟩
  · obtain ⟨p, xs, i, z, rfl, rfl, hq, he, q⟩ := h
    cases rx
    obtain ⟨t, rfl⟩ := ry
    obtain ⟨its, r, pl, hz⟩ := I.list hq
    obtain ⟨j, h1, h2, h3, h4, h5⟩ := atI_get he
    obtain ⟨w', ew, rw'⟩ := r.get h2
    have hl := r.length
    have hn := line63
    have fin : EP X pins σ Q w' s := ⟨z, w.H, I, rw', q⟩
    by_cases h0 : 0 ≤ i
    · have hj : i.toNat = j := by
        rw [seqIndex_of h0 h5] at h1
        exact Option.some.inj h1
      exact wpAny_getItem_list pl.isList h0 (by omega) (by rw [hj]; simpa using ew) fin
    · have hj : (i + (its.toArray.size : Int)).toNat = j := by
        rw [seqIndex_neg (by omega) h4] at h1
        rw [List.size_toArray, ← hl]
        exact Option.some.inj h1
      exact wpAny_getItem_list_neg pl.isList (by omega) (by rw [List.size_toArray] <;> omega) (by omega) (by rw [hj]; simpa using ew) fin
  · obtain ⟨p, xs, i, z, rfl, rfl, hq, he, q⟩ := h
    cases rx
    obtain ⟨t, rfl⟩ := ry
    obtain ⟨its, r, pl, hz⟩ := I.tuple hq
    obtain ⟨j, h1, h2, h3, h4, h5⟩ := atI_get he
    obtain ⟨w', ew, rw'⟩ := r.get h2
    have hl := r.length
    have hn := line63
    exact PyProof.Rows.getItem_tuple pl (by omega) (by omega) (by rw [List.size_toArray, ← hl]; exact h1) (by simpa using ew) ⟨z, w.H, I, rw', q⟩
  · cases rx
    exact d_getItem hu I h ry fun w' s' I' r' => ⟨z, _, I', r', q⟩
end
end J
set_option Elab.async false
set_option linter.all false
set_option maxRecDepth 100000
set_option maxHeartbeats 1000000
namespace J
open PySem PySem.Spec PyProof.Rows L2
section
variable {X : Cx} {Wx : WX} {a : Expr} {ma : ME} {pos : Pos}
/-! slices -/
theorem cut_eq {g : G} {w : W} {ds : List D} {vs : List V} (r : RDs g w ds vs) (lo hi : Option Int) : RDs g w (cutOf ds lo hi) (cutV vs lo hi) := by
  unfold cutOf cutV
  rw [r.length]
  exact (r.drop _).take _
theorem cut_whole {ds : List D} {lo hi : Option Int} (h : sIxOf ds.length 0 lo = 0 ∧ sIxOf ds.length ds.length hi = ds.length) : cutOf ds lo hi = ds := by
  unfold cutOf
  rw [h.1, h.2]
  simp
def slOf (g : G) : V → Option Int → Option Int → Hp → VK → Prop := fun x lo hi H Q => ∃ Wx σ w S d, w.H = H ∧ Good w ∧ RS g w S ∧ RD g w d x ∧ PR g Wx σ w (RD g) Q (oSl d lo hi S)
theorem jo_sl : SlR X (slOf X.g) := by
  intro pins s σ H x v vl vu lo hi sl Q I rx hs pl pu ⟨Wx, σ', w, S, d, hH, G, rs, r1, p⟩
  subst hH
  unfold oSl at p
  split at p
  · rename_i xs
    obtain ⟨a, vs, rfl, t, r2⟩ := id r1
    have hl := r2.length
    refine sl_tupA pins s σ _ _ v vl vu lo hi sl Q I rx hs pl pu ⟨a, vs, rfl, t.sq, fun hw => ?_, fun _ => new_tup p G rs (cut_eq r2 lo hi)⟩
    rw [hl] at hw
    rw [cut_whole hw] at p
    exact putSame p G rs r1
  · split at p
    · rename_i xs e1
      obtain ⟨a, vs, rfl, t, r2⟩ := r1.seq rs e1
      rcases t with t | t
      · exact sl_list pins s σ _ _ v vl vu lo hi sl Q I rx hs pl pu ⟨a, vs, rfl, t, new_lst p G rs (cut_eq r2 lo hi)⟩
      · rcases seqOf_some e1 with rfl | rfl | rfl | ⟨n, rfl, e⟩
        · rename_i h; exact absurd rfl (h xs)
        · obtain ⟨b, us, z, t2, _, r3⟩ := r1
          cases z
          exact sl_list pins s σ _ _ v vl vu lo hi sl Q I rx hs pl pu ⟨a, us, rfl, SqL.of t2, new_lst p G rs (cut_eq r3 lo hi)⟩
        · obtain ⟨b, us, z, t2, r3⟩ := r1
          cases z
          exact sl_list pins s σ _ _ v vl vu lo hi sl Q I rx hs pl pu ⟨a, us, rfl, t2.sq, new_lst p G rs (cut_eq r3 lo hi)⟩
        · obtain ⟨b, z, hp⟩ := r1
          cases z
          obtain ⟨us, t2, r3⟩ := rs.obj hp e
          exact sl_list pins s σ _ _ v vl vu lo hi sl Q I rx hs pl pu ⟨a, us, rfl, SqL.of t2, new_lst p G rs (cut_eq r3 lo hi)⟩
    · exact p.elim
def TPof (g : G) (Wx : WX) (m : Env → List D → R (Option Int)) : TO := fun σ H Q => ∃ w E S, At g w E σ H S ∧ PR g Wx σ w relO Q (m E S)
theorem dp_none : PO X none (TPof X.g Wx (ePart none)) := ⟨fun pins s σ H Q I h => by
  obtain ⟨w, E, S, a, p⟩ := h
  have := p none w (Ext.refl w) a.good rfl a.sto
  rw [a.hp] at this
  exact po_none.run pins s σ H Q I this⟩
theorem dp_some (h : PE X a (TEof X.g Wx ma)) : PO X (some a) (TPof X.g Wx (ePart (some ma))) := ⟨fun pins s σ H Q I hh => by
  obtain ⟨w, E, S, a, p⟩ := hh
  refine (po_some h).run pins s σ H Q I ⟨w, E, S, a, PR.imp (PR.bind a.good a.env p) fun x H1 ⟨w1, d, S1, a1, x1, r1, p1⟩ => ?_⟩
  cases d <;> try exact p1.elim
  rename_i i
  cases r1
  have := p1 (some i) w1 (Ext.refl w1) a1.good rfl a1.sto
  rw [a1.hp] at this
  exact ⟨i, rfl, this⟩⟩
theorem de_slice {lo hi : Option Expr} {ml mh : Option ME} {p2 : Pos} (he : PE X a (TEof X.g Wx ma)) (hl : PO X lo (TPof X.g Wx (ePart ml))) (hu : PO X hi (TPof X.g Wx (ePart mh))) : PE X (.Subscript a (.Slice lo hi none p2) pos) (TEof X.g Wx (eSl ma ml mh)) := by
  refine peImp (pe_slice jo_sl he hl hu) fun σ H Q ⟨w, E, S, a, p⟩ => ?_
  refine ⟨w, E, S, a, PR.imp (PR.bind a.good a.env p) fun x H1 ⟨w1, d, S1, a1, x1, r1, p1⟩ => ?_⟩
  refine ⟨w1, E, S1, a1, PR.imp (PR.bind a1.good a1.env p1) fun l H2 ⟨w2, l', S2, a2, x2, r2, p2⟩ => ?_⟩
  obtain rfl : l' = l := r2
  refine ⟨w2, E, S2, a2, PR.imp (PR.bind a2.good a2.env p2) fun u H3 ⟨w3, u', S3, a3, x3, r3, p3⟩ => ?_⟩
  obtain rfl : u' = u := r3
  exact ⟨Wx, σ, w3, S3, d, a3.hp, a3.good, a3.sto, RD.mono a1.good (x2.trans x3) d x r1, p3⟩
/-! built-ins -/
theorem RDs.one' {g : G} {w : W} {d : D} {vs : List V} (h : RDs g w [d] vs) : ∃ v, vs = [v] ∧ RD g w d v := by
  obtain ⟨v, r, rfl, h1, h2⟩ := h
  cases h2
  exact ⟨v, rfl, h1⟩
theorem RDs.two' {g : G} {w : W} {d e : D} {vs : List V} (h : RDs g w [d, e] vs) : ∃ v u, vs = [v, u] ∧ RD g w d v ∧ RD g w e u := by
  obtain ⟨v, r, rfl, h1, h2⟩ := h
  obtain ⟨u, rfl, h3⟩ := h2.one'
  exact ⟨v, u, rfl, h1, h3⟩
theorem call_lenR : CallR X (.builtin "len") (fun xs H Q => ∃ a kvs, xs = [V.ref a] ∧ Rd H a (.dK kvs) ∧ Q (.int kvs.length) H) := by
  intro pins s σ H xs us Q I r h
  obtain ⟨a, kvs, rfl, ha, q⟩ := h
  obtain ⟨u, rfl, ru⟩ := vals1 r
  cases ru
  exact d_len I ha fun t s' I' => ⟨.int kvs.length, H, I', ⟨t, rfl⟩, q⟩
theorem jc_len : CallR X (.builtin "len") (argOf X.g bLen) := by
  intro pins s σ H xs us Q I r ⟨Wx, σ', w, S, ds, hH, G, rs, r1, p⟩
  subst hH
  unfold bLen at p
  split at p
  · obtain ⟨v, rfl, r2⟩ := r1.one'
    split at p
    · rename_i xs e
      obtain ⟨a, vs, rfl, t, r3⟩ := r2.seq rs e
      have q := putSame p G rs rfl
      rw [← r3.length] at q
      exact call_len_seq pins s σ _ _ us Q I r ⟨a, vs, rfl, t, q⟩
    · split at p
      · rename_i ks vs e
        obtain ⟨a, us', rfl, t, l, r3⟩ := r2.dctAt rs e
        have q := putSame p G rs rfl
        refine call_lenR pins s σ _ _ us Q I r ⟨a, _, rfl, t, ?_⟩
        rw [List.length_zip, ← l, Nat.min_self]
        exact q
      · exact p.elim
  · exact p.elim
theorem jc_min2 (hc : X.calm = true) : CallR X (.builtin "min") (argOf X.g bMin2) := by
  intro pins s σ H xs us Q I r ⟨Wx, σ', w, S, ds, hH, G, rs, r1, p⟩
  subst hH
  unfold bMin2 at p
  split at p
  · obtain ⟨v, u, rfl, r2, r3⟩ := r1.two'
    cases r2
    cases r3
    exact call_min2 hc pins s σ _ _ us Q I r ⟨_, _, rfl, putSame p G rs rfl⟩
  · exact p.elim
theorem ints_vals {g : G} {w : W} : ∀ {ds : List D} {vs : List V} {ns : List Int}, RDs g w ds vs → intsOf ds = some ns → vs = ns.map V.int
  | [], _, ns, r, h => by
    cases r
    simp only [intsOf, Option.some.injEq] at h
    subst h
    rfl
  | d :: ds, _, ns, r, h => by
    obtain ⟨v, vs, rfl, r1, r2⟩ := r
    cases d <;> try (simp only [intsOf, reduceCtorEq] at h)
    rename_i i
    cases e : intsOf ds with
    | none => rw [e] at h; cases h
    | some ms =>
      rw [e] at h
      cases h
      cases r1
      rw [ints_vals r2 e]
      rfl
theorem crT_sum (hc : X.calm = true) : CallR X (.builtin "sum") (fun vs H Q => ∃ (a : Addr) (ns : List Int), vs = [V.ref a] ∧ SqT X.K H a (ns.map V.int) ∧ Q (.int ns.sum) H) := by
  intro pins s σ H vs us Q I r h
  obtain ⟨a, ns, rfl, hs, q⟩ := h
  obtain ⟨its, rv, pl, hz⟩ := I.tuple hs
  rw [Vals.ref1 r]
  have hi := rv.ints
  obtain ⟨xs, e⟩ := hi.allInts.items
  have hn : numsOf (intItems xs).toList = ns := by rw [← e]; exact hi.numsOf
  rw [nums_intItems] at hn
  rw [e] at pl
  refine PySem.W.ktm_sumG (I.ok.hd hc) pl fun h' tk t' hk => ⟨.int _, H, I.kept hk, ⟨_, rfl⟩, ?_⟩
  rw [preSum_eq, List.take_of_length_le (by simp), hn]
  exact q
theorem jc_sum (hc : X.calm = true) : CallR X (.builtin "sum") (argOf X.g bSum) := by
  intro pins s σ H xs us Q I r ⟨Wx, σ', w, S, ds, hH, G, rs, r1, p⟩
  subst hH
  unfold bSum at p
  split at p
  · obtain ⟨v, rfl, r2⟩ := r1.one'
    split at p
    · rename_i xs e
      split at p
      · rename_i ns e2
        obtain ⟨a, vs, rfl, t, r3⟩ := r2.seq rs e
        have := ints_vals r3 e2
        subst this
        rcases t with t | t
        · exact cr_sum hc pins s σ _ _ us Q I r ⟨a, ns, rfl, t, putSame p G rs rfl⟩
        · exact crT_sum hc pins s σ _ _ us Q I r ⟨a, ns, rfl, t, putSame p G rs rfl⟩
      · exact p.elim
    · exact p.elim
  · exact p.elim
theorem jc_tuple : CallR X (.type "tuple") (argOf X.g bTuple) := by
  intro pins s σ H xs us Q I r ⟨Wx, σ', w, S, ds, hH, G, rs, r1, p⟩
  subst hH
  unfold bTuple at p
  split at p
  · obtain ⟨v, rfl, r2⟩ := r1.one'
    split at p
    · rename_i xs e
      have h := seqOf_some e
      rcases h with rfl | h
      · obtain ⟨a, vs, rfl, t, r3⟩ := id r2
        exact call_tuple_of pins s σ _ _ us Q I r ⟨a, vs, rfl, .inr ⟨t.sq, putSame p G rs r2⟩⟩
      · have tl : ∃ a vs, v = .ref a ∧ SqL X.K w.H a vs ∧ RDs X.g w xs vs := by
          rcases h with rfl | rfl | ⟨n, rfl, e2⟩
          · obtain ⟨a, vs, rfl, t, _, r3⟩ := r2
            exact ⟨a, vs, rfl, SqL.of t, r3⟩
          · obtain ⟨a, vs, rfl, t, r3⟩ := r2
            exact ⟨a, vs, rfl, t.sq, r3⟩
          · obtain ⟨a, rfl, hp⟩ := r2
            obtain ⟨vs, t, r3⟩ := rs.obj hp e2
            exact ⟨a, vs, rfl, SqL.of t, r3⟩
        obtain ⟨a, vs, rfl, t, r3⟩ := tl
        exact call_tuple_of pins s σ _ _ us Q I r ⟨a, vs, rfl, .inl ⟨t, new_tup p G rs r3⟩⟩
    · exact p.elim
  · exact p.elim
theorem jc_listL : CallR X (.type "list") (argOf X.g bListL) := by
  intro pins s σ H xs us Q I r ⟨Wx, σ', w, S, ds, hH, G, rs, r1, p⟩
  subst hH
  unfold bListL at p
  split at p
  · obtain ⟨v, rfl, r2⟩ := r1.one'
    split at p
    · rename_i xs e
      obtain ⟨a, vs, rfl, t, r3⟩ := r2.seq rs e
      exact call_list_of pins s σ _ _ us Q I r ⟨a, vs, rfl, t, new_loc p G rs r3⟩
    · exact p.elim
  · exact p.elim
/-! methods -/
theorem mtUse {m : D → List D → List D → R D} {o : ME} {ma : MA} {r : V → List V → Hp → VK → Prop} (hr : ∀ x xs H Q, mtOf X.g m x xs H Q → r x xs H Q) : ∀ (σ : L2.St) H Q, TEof X.g Wx (eMeth m o ma) σ H Q → tBM X.K "list" r (TEof X.g Wx o) (TAof X.g Wx ma) σ H Q := fun σ H Q ⟨w, E, S, a, p⟩ => by
  refine ⟨w, E, S, a, PR.imp (PR.bind a.good a.env p) fun x H1 ⟨w1, d, S1, a1, x1, r1, p1⟩ => ?_⟩
  split at p1
  · rename_i h
    obtain ⟨xs, e⟩ := Option.isSome_iff_exists.mp h
    obtain ⟨b, vs, rfl, t, r3⟩ := r1.lstAt a1.sto e
    refine ⟨.inl ⟨rfl, _, SqL.of (by rw [← a1.hp]; exact t)⟩, w1, E, S1, a1, PR.imp (PR.bind a1.good a1.env p1) fun ys H2 ⟨w2, es, S2, a2, x2, r2, p2⟩ => ?_⟩
    exact hr _ ys H2 Q ⟨Wx, σ, w2, S2, d, es, a2.hp, a2.good, a2.sto, RD.mono a1.good x2 d _ r1, r2, p2⟩
  · exact p1.elim
theorem locUse {w : W} {S : List D} {n : Nat} {xs : List D} {v : V} (rs : RS X.g w S) (r : RD X.g w (.loc n) v) (e : S[n]? = some (.lst xs)) : ∃ a vs, v = .ref a ∧ w.rhA[n]? = some a ∧ w.H a = some (.lst vs) ∧ RDs X.g w xs vs := by
  obtain ⟨a, rfl, hp⟩ := r
  obtain ⟨vs, t, r3⟩ := rs.obj hp e
  exact ⟨a, vs, rfl, hp, t, r3⟩
theorem put_upd {w : W} {a : Addr} {o : HO} (G : Good w) (hno : ∀ xs, o ≠ .tup xs := by intro _ z; cases z) : Good { w with H := upd w.H a o } := ⟨G.nd, G.sub, fun b h => by
  show upd w.H a o b ≠ none
  by_cases e : b = a
  · rw [e, upd_same]; simp
  · rw [upd_ne e]; exact G.al b h, fun b h xs => by
  show upd w.H a o b ≠ some (.tup xs)
  by_cases e : b = a
  · rw [e, upd_same]
    intro z
    exact hno xs (Option.some.inj z)
  · rw [upd_ne e]; exact G.nt b h xs⟩
theorem putLst {w : W} {S : List D} {n : Nat} {a : Addr} {xs : List D} {vs : List V} {Q : VK} {d : D} {v : V} {σ : L2.St} (G : Good w) (rs : RS X.g w S) (hp : w.rhA[n]? = some a) (r : RDs X.g w xs vs) (rd : RD X.g w d v)
    (p : PR X.g Wx σ w (RD X.g) Q (.ok d (S.set n (.lst xs)))) : Q v (upd w.H a (.lst vs)) := by
  have mem := List.mem_of_getElem? hp
  have x := upd_ext (o := .lst vs) mem
  refine p v { w with H := upd w.H a (.lst vs) } x (put_upd G) (rd.mono G x) (upd_store G rs hp ⟨vs, upd_same, r.mono G x⟩)
theorem jm_append : MtR X "list.append" (mtOf X.g mAppend) := by
  intro pins s σ H x xs v us Q I rx rs' ⟨Wx, σ', w, S, d, ds, hH, G, rs, r1, r2, p⟩
  subst hH
  unfold mAppend at p
  split at p
  · rename_i n y
    obtain ⟨z, rfl, r3⟩ := r2.one'
    split at p
    · rename_i ys e
      split at p
      · rename_i hl
        obtain ⟨a, vs, rfl, hp, t, r4⟩ := locUse rs r1 e
        exact mt_append pins s σ _ _ _ v us Q I rx rs' ⟨a, vs, z, rfl, rfl, t, by rw [r4.length, ← sl_eq]; exact hl, putLst (d := .non) (v := .non) G rs hp (r4.append (RDs.one r3)) rfl p⟩
      · exact p.elim
    · exact p.elim
  · exact p.elim
theorem jm_pop : MtR X "list.pop" (mtOf X.g mPop) := by
  intro pins s σ H x xs v us Q I rx rs' ⟨Wx, σ', w, S, d, ds, hH, G, rs, r1, r2, p⟩
  subst hH
  unfold mPop at p
  split at p
  · rename_i n
    cases r2
    split at p
    · rename_i ys e
      split at p
      · rename_i y e2
        obtain ⟨a, vs, rfl, hp, t, r4⟩ := locUse rs r1 e
        have hl := r4.length
        obtain ⟨z, h1, h2⟩ := r4.get e2
        refine mt_pop pins s σ _ _ _ v us Q I rx rs' ⟨a, vs, z, rfl, rfl, t, by rw [hl]; exact h1, putLst G rs hp ?_ h2 p⟩
        rw [List.dropLast_eq_take, List.dropLast_eq_take, hl]
        exact r4.take _
      · exact p.elim
    · exact p.elim
  · exact p.elim
theorem de_meth {o e : Expr} {es : List Expr} {mo : ME} {mr : MA} {name : Str} {apos cpos : Pos} {id : String} {m : D → List D → List D → R D} (slot : Slot "list" name id) (hty : typeOf (.builtin id) = pure (.type "method_descriptor")) (hm : MtR X id (mtOf X.g m)) (ho : PE X o (TEof X.g Wx mo)) (ha : PA X (e :: es) (TAof X.g Wx mr))
    (hbase : attributeBase o name X.env (eval o X.env) = eval o X.env := by rfl)
    (hfew : ((backTo cpos (starEach (e :: es) X.env)).all (fun x => !x.1) && (backToKw cpos (keywordEach [] X.env)).all (fun x => x.1.isSome)
      && decide ((e :: es).length + ([] : List Keyword).length + (if ([] : List Keyword).isEmpty then 0 else 1) < 30)) = true := by rfl)
    (hline : (apos.endLine == cpos.line) = true := by rfl) (hs : starEach (e :: es) X.env = (false, eval e X.env) :: starEach es X.env := by rfl) (hplain : (backTo cpos (starEach es X.env)).any (·.1) = false := by rfl) :
    PE X (.Call (.Attribute o name apos) (e :: es) [] cpos) (TEof X.g Wx (eMeth m mo mr)) :=
  peImp (pe_bm PySem.F.plainAttrs_list slot hty hm ho ha hbase hfew hline hs hplain) (mtUse fun _ _ _ _ h => h)
theorem de_meth0 {o : Expr} {mo : ME} {name : Str} {apos cpos : Pos} {id : String} {m : D → List D → List D → R D} (slot : Slot "list" name id) (hty : typeOf (.builtin id) = pure (.type "method_descriptor")) (hm : MtR X id (mtOf X.g m)) (ho : PE X o (TEof X.g Wx mo))
    (hbase : attributeBase o name X.env (eval o X.env) = eval o X.env := by rfl) (hline : (apos.endLine == cpos.line) = true := by rfl) :
    PE X (.Call (.Attribute o name apos) [] [] cpos) (TEof X.g Wx (eMeth m mo aNil)) := by
  refine peImp (pe_bm0 PySem.F.plainAttrs_list slot hty hm ho hbase hline) fun σ H Q ⟨w, E, S, a, p⟩ => ?_
  refine ⟨w, E, S, a, PR.imp (PR.bind a.good a.env p) fun x H1 ⟨w1, d, S1, a1, x1, r1, p1⟩ => ?_⟩
  split at p1
  · rename_i h
    obtain ⟨xs, e⟩ := Option.isSome_iff_exists.mp h
    obtain ⟨b, vs, rfl, t, r3⟩ := r1.lstAt a1.sto e
    exact ⟨.inl ⟨rfl, _, SqL.of (by rw [← a1.hp]; exact t)⟩, Wx, σ, w1, S1, d, [], a1.hp, a1.good, a1.sto, r1, rfl, p1⟩
  · exact p1.elim
/-! o[i] = v -/
theorem zip_map {κ : Type} [DecidableEq κ] {ks : List κ} (k : κ) (v : V) : ∀ {ks : List κ} {vs : List V}, ks.length = vs.length → (ks.zip vs).map (fun kv => if kv.1 = k then (kv.1, v) else kv) = ks.zip (ks.zipWith (fun q u => if q = k then v else u) vs)
  | [], [], _ => rfl
  | q :: ks, [], l => by simp at l
  | [], _ :: _, l => by simp at l
  | q :: ks, u :: vs, l => by
    rw [List.zip_cons_cons, List.map_cons, List.zipWith_cons_cons, List.zip_cons_cons, zip_map (ks := ks) k v (by simpa using l)]
    by_cases h : q = k
    · simp [h]
    · simp [h]
theorem RDs.zipSet {κ : Type} [DecidableEq κ] {g : G} {w : W} {d : D} {v : V} (k : κ) (rd : RD g w d v) : ∀ {ks : List κ} {ds : List D} {vs : List V}, RDs g w ds vs → RDs g w (ks.zipWith (fun q e => if q = k then d else e) ds) (ks.zipWith (fun q u => if q = k then v else u) vs)
  | [], _, _, r => by simp [RDs]
  | q :: ks, [], _, r => by cases r; simp [RDs]
  | q :: ks, e :: ds, _, r => by
    obtain ⟨u, vs, rfl, r1, r2⟩ := r
    rw [List.zipWith_cons_cons, List.zipWith_cons_cons]
    refine ⟨_, _, rfl, ?_, RDs.zipSet k rd r2⟩
    by_cases h : q = k
    · rw [if_pos h, if_pos h]; exact rd
    · rw [if_neg h, if_neg h]; exact r1
def setOf (g : G) : V → V → V → Hp → (Hp → Prop) → Prop := fun o i v H Q => ∃ w S x k d S', w.H = H ∧ Good w ∧ RS g w S ∧ RD g w x o ∧ RD g w k i ∧ RD g w d v ∧ putAt x k d S = some S' ∧ ∀ w', Ext w w' → Good w' → RS g w' S' → Q w'.H
theorem jp_put (hu : X.A.units + 1 < cLine) : PSet X (setOf X.g) := by
  intro pins s σ H o i v ov iv u Q I ro ri rv ⟨w, S, x, k, d, S', hH, G, rs, r1, r2, r3, hp, q⟩
  subst hH
  unfold putAt at hp
  split at hp
  · rename_i n
    split at hp
    · rename_i xs e
      split at hp
      · rename_i k'
        split at hp
        · rename_i j hj
          cases hp
          cases r2
          obtain ⟨a, vs, rfl, h1, t, r4⟩ := locUse rs r1 e
          have x := upd_ext (o := .lst (vs.set j v)) (List.mem_of_getElem? h1)
          exact set_list pins s σ _ _ _ v ov iv u Q I ro ri rv ⟨a, vs, k', j, rfl, rfl, t, by rw [r4.length]; exact hj, q _ x (put_upd G) (upd_store G rs h1 ⟨_, upd_same, (r4.set j r3).mono G x⟩)⟩
        · cases hp
      · cases hp
    · rename_i ks ds e
      split at hp
      · rename_i k' ek
        split at hp
        · rename_i hl
          cases hp
          obtain ⟨a, rfl, h1⟩ := r1
          obtain ⟨vs, t, l, r4⟩ := rs.obj h1 e
          have := ky_of r2 ek
          subst this
          cases ro
          have hz : (ks.zip vs).length < sizeLine := by rw [List.length_zip, ← l, Nat.min_self, ← sl_eq]; exact hl
          refine d_setItem hu I (DPut.k (k := k') t hz) ri rv fun s4 I4 => ⟨_, I4, ?_⟩
          have mem := List.mem_of_getElem? h1
          have ea : ((ks.zip vs).any fun kv => decide (kv.1 = k')) = keyIn ks k' := by rw [valV_any, valV_some k' l]
          unfold L2.putK
          rw [ea]
          unfold putAt.putK at q
          cases hk : keyIn ks k' with
          | true =>
            rw [if_pos rfl, zip_map (ks := ks) k' v l]
            rw [hk, if_pos rfl] at q
            have x := upd_ext (w := w) (o := .dK (ks.zip (ks.zipWith (fun q u => if q = k' then v else u) vs))) mem
            refine q _ x (put_upd G) (upd_store G rs h1 ⟨_, upd_same, ?_, (RDs.zipSet k' r3 r4).mono G x⟩)
            simp [l]
          | false =>
            rw [if_neg Bool.false_ne_true]
            rw [hk, if_neg Bool.false_ne_true] at q
            have ez : ks.zip vs ++ [(k', v)] = (ks ++ [k']).zip (vs ++ [v]) := by rw [List.zip_append l]; rfl
            rw [ez]
            have x := upd_ext (w := w) (o := .dK ((ks ++ [k']).zip (vs ++ [v]))) mem
            refine q _ x (put_upd G) (upd_store G rs h1 ⟨_, upd_same, ?_, (r4.append (RDs.one r3)).mono G x⟩)
            simp [l]
        · cases hp
      · cases hp
    · rename_i ks ds e
      split at hp
      · rename_i k' ek
        split at hp
        · rename_i hl
          cases hp
          obtain ⟨a, rfl, h1⟩ := r1
          obtain ⟨vs, t, l, r4⟩ := rs.obj h1 e
          obtain ⟨kb, rfl, tb, _⟩ := kyT_of r2 ek
          cases ro
          have hz : (ks.zip vs).length < sizeLine := by rw [List.length_zip, ← l, Nat.min_self, ← sl_eq]; exact hl
          refine d_setItem hu I (DPut.t (k := k') t tb hz) ri rv fun s4 I4 => ⟨_, I4, ?_⟩
          have mem := List.mem_of_getElem? h1
          have ea : ((ks.zip vs).any fun kv => decide (kv.1 = k')) = (ks.any fun q => decide (q = k')) := by rw [valV_any, valV_someG k' l]
          unfold L2.putK
          rw [ea]
          unfold putAt.putT at q
          cases hk : (ks.any fun q => decide (q = k')) with
          | true =>
            rw [if_pos rfl, zip_map (ks := ks) k' v l]
            rw [hk, if_pos rfl] at q
            have x := upd_ext (w := w) (o := .dT (ks.zip (ks.zipWith (fun q u => if q = k' then v else u) vs))) mem
            refine q _ x (put_upd G) (upd_store G rs h1 ⟨_, upd_same, ?_, (RDs.zipSet k' r3 r4).mono G x⟩)
            simp [l]
          | false =>
            rw [if_neg Bool.false_ne_true]
            rw [hk, if_neg Bool.false_ne_true] at q
            have ez : ks.zip vs ++ [(k', v)] = (ks ++ [k']).zip (vs ++ [v]) := by rw [List.zip_append l]; rfl
            rw [ez]
            have x := upd_ext (w := w) (o := .dT ((ks ++ [k']).zip (vs ++ [v]))) mem
            refine q _ x (put_upd G) (upd_store G rs h1 ⟨_, upd_same, ?_, (r4.append (RDs.one r3)).mono G x⟩)
            simp [l]
        · cases hp
      · cases hp
    · cases hp
  · cases hp
end
end J
set_option Elab.async false
set_option linter.all false
set_option maxRecDepth 100000
set_option maxHeartbeats 1000000
namespace J
open PySem PySem.Spec PyProof.Rows L2
/-! ### statements -/
def PO_ (g : G) (Wx : WX) (D : Ends) (w : W) : O → Prop
  | .nx E S => ∀ σ' w', Ext w w' → Good w' → RE g w' E σ' → RS g w' S → D.nx σ' w'.H
  | .rt d S => ∀ v w', Ext w w' → Good w' → RD g w' d v → RS g w' S → D.rt v w'.H
  | .bk E S => ∀ σ' w', Ext w w' → Good w' → RE g w' E σ' → RS g w' S → D.bk σ' w'.H
  | .ct E S => ∀ σ' w', Ext w w' → Good w' → RE g w' E σ' → RS g w' S → D.ct σ' w'.H
  | .exc c fs E S => ∀ cls dx σ' w', Ext w w' → Good w' → RX g w' c fs cls dx → RE g w' E σ' → RS g w' S → Wx cls dx σ' w'.H
  | .bad => False
def TSof (g : G) (Wx : WX) (m : MS) : TS := fun D σ H => ∃ w E S, At g w E σ H S ∧ PO_ g Wx D w (m E S)
theorem PO_.at {g : G} {Wx : WX} {D : Ends} {w w1 : W} {o : O} (h : PO_ g Wx D w o) (x : Ext w w1) : PO_ g Wx D w1 o := by
  cases o with
  | nx E S => exact fun σ w' y => h σ w' (x.trans y)
  | rt d S => exact fun v w' y => h v w' (x.trans y)
  | bk E S => exact fun σ w' y => h σ w' (x.trans y)
  | ct E S => exact fun σ w' y => h σ w' (x.trans y)
  | exc c fs E S => exact fun cls dx σ w' y => h cls dx σ w' (x.trans y)
  | bad => exact h
theorem PO_.bind {g : G} {Wx : WX} {σ : L2.St} {w : W} {E : Env} {D : Ends} {r : R J.D} {k : J.D → List J.D → O} (G : Good w) (he : RE g w E σ)
    (h : PO_ g Wx D w (r.toO E k)) : PR g Wx σ w (RD g) (fun x H1 => ∃ w1 a S1, At g w1 E σ H1 S1 ∧ Ext w w1 ∧ RD g w1 a x ∧ PO_ g Wx D w1 (k a S1)) r := by
  cases r with
  | ok d S => exact fun v w' x G' rl rs => ⟨w', d, S, ⟨rfl, G', he.mono G x, rs⟩, x, rl, PO_.at h x⟩
  | exc c fs S => exact fun cls dx w' x G' rx rs => h cls dx σ w' x G' rx (he.mono G x) rs
  | bad => exact h
theorem PO_.tbind {g : G} {Wx : WX} {σ : L2.St} {w : W} {E : Env} {D : Ends} {r : R Bool} {k : Bool → List J.D → O} (G : Good w) (he : RE g w E σ)
    (h : PO_ g Wx D w (r.tO E k)) : PR g Wx σ w relB (fun x H1 => ∃ w1 S1, At g w1 E σ H1 S1 ∧ Ext w w1 ∧ PO_ g Wx D w1 (k x S1)) r := by
  cases r with
  | ok d S => exact fun v w' x G' rl rs => ⟨w', S, ⟨rfl, G', he.mono G x, rs⟩, x, by cases rl; exact PO_.at h x⟩
  | exc c fs S => exact fun cls dx w' x G' rx rs => h cls dx σ w' x G' rx (he.mono G x) rs
  | bad => exact h
section
variable {X : Cx} {Wx : WX} {e : Expr} {m m1 m2 : MS} {me : ME} {st : Stmt} {rest : List Stmt} {pos : Pos}
theorem ds_nil : PSs X [] (TSof X.g Wx sNext) := by
  refine pssImp pss_nil fun D σ H ⟨w, E, S, a, p⟩ => ?_
  have := p σ w (Ext.refl w) a.good a.env a.sto
  rw [a.hp] at this
  exact this
theorem ds_one (h : PS X st (TSof X.g Wx m)) : PSs X [st] (TSof X.g Wx m) := pss_one h
theorem ds_cons (h1 : PS X st (TSof X.g Wx m1)) (h2 : PSs X rest (TSof X.g Wx m2)) : PSs X (st :: rest) (TSof X.g Wx (sSeq m1 m2)) := by
  refine pssImp (pss_cons h1 h2) fun D σ H ⟨w, E, S, a, p⟩ => ⟨w, E, S, a, ?_⟩
  unfold sSeq at p
  split at p
  · rename_i E1 S1 e1
    rw [e1]
    exact fun σ' w' x G' re rs => ⟨w', E1, S1, ⟨rfl, G', re, rs⟩, p.at x⟩
  · rename_i h
    cases e1 : m1 E S with
    | nx E1 S1 => exact absurd e1 (h E1 S1)
    | rt d S => rw [e1] at p; exact p
    | bk E S => rw [e1] at p; exact p
    | ct E S => rw [e1] at p; exact p
    | exc c fs E S => rw [e1] at p; exact p
    | bad => rw [e1] at p; exact p
theorem ds_continue : PS X (.Continue pos) (TSof X.g Wx sCont) := by
  refine psImp ps_continue fun D σ H ⟨w, E, S, a, p⟩ => ?_
  have := p σ w (Ext.refl w) a.good a.env a.sto
  rw [a.hp] at this
  exact this
theorem ds_never : PS X st (TSof X.g Wx sNever) := psImp ps_never fun D σ H ⟨w, E, S, a, p⟩ => p
theorem ds_expr (he : PE X e (TEof X.g Wx me)) (hs : swapsWith e none pos.line X.env = pure false := by rfl) : PS X (.Expr e pos) (TSof X.g Wx (sExpr me)) := by
  refine psImp (ps_expr he hs) fun D σ H ⟨w, E, S, a, p⟩ => ⟨w, E, S, a, PR.imp (PO_.bind a.good a.env p) fun x H1 ⟨w1, d, S1, a1, x1, r1, p1⟩ => ?_⟩
  have := p1 σ w1 (Ext.refl w1) a1.good a1.env a1.sto
  rw [a1.hp] at this
  exact this
theorem ds_ret (he : PE X e (TEof X.g Wx me)) : PS X (.Return (some e) pos) (TSof X.g Wx (sRet me)) := by
  refine psImp (ps_ret he) fun D σ H ⟨w, E, S, a, p⟩ => ⟨w, E, S, a, PR.imp (PO_.bind a.good a.env p) fun x H1 ⟨w1, d, S1, a1, x1, r1, p1⟩ => ?_⟩
  have := p1 x w1 (Ext.refl w1) a1.good r1 a1.sto
  rw [a1.hp] at this
  exact this
theorem ds_if {c : Expr} {a b : List Stmt} {mt : MT} (hc : PT X c (TTof X.g Wx mt)) (ha : PSs X a (TSof X.g Wx m1)) (hb : PSs X b (TSof X.g Wx m2)) : PS X (.If c a b pos) (TSof X.g Wx (sIf mt m1 m2)) := by
  refine psImp (ps_if hc ha hb) fun D σ H ⟨w, E, S, a, p⟩ => ⟨w, E, S, a, PR.imp (PO_.tbind a.good a.env p) fun x H1 ⟨w1, S1, a1, x1, p1⟩ => ?_⟩
  cases x
  · rw [if_neg Bool.false_ne_true] at p1 ⊢
    exact ⟨w1, E, S1, a1, p1⟩
  · rw [if_pos rfl] at p1 ⊢
    exact ⟨w1, E, S1, a1, p1⟩
/-! targets -/
mutual
def Tg.slots : Tg → List Nat
  | .nm i => [i]
  | .tp ts => Tg.slotss ts
def Tg.slotss : List Tg → List Nat
  | [] => []
  | t :: ts => t.slots ++ Tg.slotss ts
end
theorem RE.set {g : G} {w : W} {E : Env} {σ : L2.St} {i : Nat} {d : D} {v : V} (h : RE g w E σ) (r : RD g w d v) : RE g w (E.set i (some d)) (σ.set i (some v)) := ⟨by simp [h.1], fun j d' e => by
  by_cases hj : j = i
  · subst hj
    by_cases hl : j < E.length
    · rw [List.getElem?_set_self hl] at e
      cases e
      exact ⟨v, List.getElem?_set_self (by rw [← h.1]; exact hl), r⟩
    · rw [List.getElem?_eq_none (by simpa using hl)] at e
      cases e
  · rw [List.getElem?_set_ne (Ne.symm hj)] at e ⊢
    exact h.2 j d' e⟩
def TGof (g : G) (t : Tg) : TG := fun v σ H Q => ∃ w E S d E', At g w E σ H S ∧ RD g w d v ∧ t.bind d E = some E' ∧ ∀ σ', RE g w E' σ' → (∀ i, i ∉ t.slots → σ'[i]? = σ[i]?) → σ'.length = σ.length → Q σ' H
def TGsof (g : G) (ts : List Tg) : TGs := fun vs σ H Q => ∃ w E S ds E', At g w E σ H S ∧ RDs g w ds vs ∧ Tg.binds ts ds E = some E' ∧ ∀ σ', RE g w E' σ' → (∀ i, i ∉ Tg.slotss ts → σ'[i]? = σ[i]?) → σ'.length = σ.length → Q σ' H
theorem pgImp {t t' : TG} (h : PG X e t) (f : ∀ v σ H Q, t' v σ H Q → t v σ H Q) : PG X e t' := ⟨fun pins s σ H v u Q I r hw => h.run pins s σ H v u Q I r (f _ _ _ _ hw)⟩
theorem pgsImp {es : List Expr} {t t' : TGs} (h : PGs X es t) (f : ∀ v σ H Q, t' v σ H Q → t v σ H Q) : PGs X es t' := ⟨fun pins s σ H v u Q I r hw => h.run pins s σ H v u Q I r (f _ _ _ _ hw)⟩
theorem dg_name {i : Nat} (h : PG X e (gName i)) : PG X e (TGof X.g (.nm i)) := pgImp h fun v σ H Q ⟨w, E, S, d, E', a, r, b, q⟩ => by
  cases b
  exact q _ (a.env.set r) (fun j hj => List.getElem?_set_ne fun z => hj (by subst z; exact List.mem_singleton.mpr rfl)) (by simp)
theorem dg_nil : PGs X [] (TGsof X.g []) := pgsImp pgs_nil fun vs σ H Q ⟨w, E, S, ds, E', a, r, b, q⟩ => by
  cases ds with
  | nil =>
    cases b
    cases r
    exact ⟨rfl, q σ a.env (fun _ _ => rfl) rfl⟩
  | cons d ds => cases b
theorem dg_cons {es : List Expr} {t : Tg} {ts : List Tg} (h1 : PG X e (TGof X.g t)) (h2 : PGs X es (TGsof X.g ts))
    (hs : (assignEach (e :: es) X.env).map (·.2) = assign e X.env :: (assignEach es X.env).map (·.2) := by rfl) : PGs X (e :: es) (TGsof X.g (t :: ts)) := pgsImp (pgs_cons h1 h2 hs) fun vs σ H Q ⟨w, E, S, ds, E', a, r, b, q⟩ => by
  cases ds with
  | nil => cases b
  | cons d ds =>
    obtain ⟨v, vr, rfl, r1, r2⟩ := r
    simp only [Tg.binds] at b
    split at b
    · rename_i E1 e1
      refine ⟨v, vr, rfl, w, E, S, d, E1, a, r1, e1, fun σ1 re1 k1 l1 => ?_⟩
      refine ⟨w, E1, S, ds, E', ⟨a.hp, a.good, re1, a.sto⟩, r2, b, fun σ2 re2 k2 l2 => q σ2 re2 (fun i hi => ?_) (l2.trans l1)⟩
      have hi' : i ∉ t.slots ++ Tg.slotss ts := hi
      rw [List.mem_append, not_or] at hi'
      exact (k2 i hi'.2).trans (k1 i hi'.1)
    · cases b
theorem binds_len : ∀ {ts : List Tg} {ds : List D} {E E' : Env}, Tg.binds ts ds E = some E' → ds.length = ts.length
  | [], [], _, _, _ => rfl
  | [], _ :: _, _, _, h => by cases h
  | _ :: _, [], _, _, h => by cases h
  | t :: ts, d :: ds, E, E', h => by
    simp only [Tg.binds] at h
    split at h
    · simp [binds_len h]
    · cases h
theorem tp_bind {ts : List Tg} {d : D} {E E' : Env} (h : (Tg.tp ts).bind d E = some E') : ∃ ds, d = .tup ds ∧ Tg.binds ts ds E = some E' := by
  cases d with
  | tup ds => exact ⟨ds, rfl, h⟩
  | _ => simp [Tg.bind] at h
theorem dg_tup {es : List Expr} {k : Nat} {ts : List Tg} (hc : X.calm = true) (h : PGs X es (TGsof X.g ts))
    (hn : (assignEach es X.env).length = ts.length := by rfl) (hst : (assignEach es X.env).findIdx? (·.1) = none := by rfl) : PG X (.Tuple es k pos) (TGof X.g (.tp ts)) := pgImp (pg_tup hc h hn hst) fun v σ H Q ⟨w, E, S, d, E', a, r, b, q⟩ => by
  obtain ⟨ds, rfl, b'⟩ := tp_bind b
  obtain ⟨p, vs, rfl, t, r2⟩ := r
  refine ⟨p, vs, rfl, ?_, by rw [r2.length, binds_len b'], w, E, S, ds, E', a, r2, b', q⟩
  rw [← a.hp]
  exact t.sq
/-! stores -/
theorem ds_set {i : Nat} {x : Str} {pos' : Pos} (h : ∀ te, PE X e te → PS X (.Assign [.Name x pos'] e pos) (tAsg te (gName i))) (he : PE X e (TEof X.g Wx me)) : PS X (.Assign [.Name x pos'] e pos) (TSof X.g Wx (sSet i me)) := by
  refine psImp (h _ he) fun D σ H ⟨w, E, S, a, p⟩ => ⟨w, E, S, a, PR.imp (PO_.bind a.good a.env p) fun x H1 ⟨w1, d, S1, a1, x1, r1, p1⟩ => ?_⟩
  have := p1 _ w1 (Ext.refl w1) a1.good (a1.env.set r1) a1.sto
  rw [a1.hp] at this
  exact this
theorem ds_asg {tg : Expr} {t : Tg} (he : PE X e (TEof X.g Wx me)) (hg : PG X tg (TGof X.g t)) (hs : swapsWithSole [tg] e pos.line X.env = pure false := by rfl) (hw : swappedStores [tg] e X.env = pure none := by rfl)
    (h1 : (assignEach [tg] X.env).map (·.2) = [assign tg X.env] := by rfl) : PS X (.Assign [tg] e pos) (TSof X.g Wx (sAsg t me)) := by
  refine psImp (ps_asg he hg hs hw h1) fun D σ H ⟨w, E, S, a, p⟩ => ⟨w, E, S, a, PR.imp (PO_.bind a.good a.env p) fun x H1 ⟨w1, d, S1, a1, x1, r1, p1⟩ => ?_⟩
  split at p1
  · rename_i E1 e1
    refine ⟨w1, E, S1, d, E1, a1, r1, e1, fun σ' re _ _ => ?_⟩
    have := p1 σ' w1 (Ext.refl w1) a1.good re a1.sto
    rw [a1.hp] at this
    exact this
  · exact p1.elim
theorem PO_.abind {g : G} {Wx : WX} {σ : L2.St} {w : W} {E : Env} {D : Ends} {r : R (List J.D)} {k : List J.D → List J.D → O} (G : Good w) (he : RE g w E σ)
    (h : PO_ g Wx D w (match r with | .ok ds S1 => k ds S1 | .exc c fs S1 => .exc c fs E S1 | .bad => .bad)) : PR g Wx σ w (RDs g) (fun x H1 => ∃ w1 a S1, At g w1 E σ H1 S1 ∧ Ext w w1 ∧ RDs g w1 a x ∧ PO_ g Wx D w1 (k a S1)) r := by
  cases r with
  | ok d S => exact fun v w' x G' rl rs => ⟨w', d, S, ⟨rfl, G', he.mono G x, rs⟩, x, rl, PO_.at h x⟩
  | exc c fs S => exact fun cls dx w' x G' rx rs => h cls dx σ w' x G' rx (he.mono G x) rs
  | bad => exact h
theorem ds_par {i j : Nat} {ma : MA} {rest' : List Expr} (hd : ∀ t, PA X rest' t → PS X st (tPar i j t)) (ha : PA X rest' (TAof X.g Wx ma)) : PS X st (TSof X.g Wx (sPar [i, j] ma)) := by
  refine psImp (hd _ ha) fun D σ H ⟨w, E, S, a, p⟩ => ⟨w, E, S, a, PR.imp (PO_.abind (k := fun ds S1 => match Tg.binds ([i, j].map .nm) ds E with | some E1 => .nx E1 S1 | none => .bad) a.good a.env p) fun x H1 ⟨w1, ds, S1, a1, x1, r1, p1⟩ => ?_⟩
  match ds, r1, p1 with
  | [d1, d2], r1, p1 =>
    obtain ⟨v, u, rfl, r2, r3⟩ := r1.two'
    have := p1 _ w1 (Ext.refl w1) a1.good ((a1.env.set r2).set r3) a1.sto
    rw [a1.hp] at this
    exact ⟨v, u, rfl, this⟩
  | [], _, p1 => exact p1.elim
  | [_], _, p1 => exact p1.elim
  | _ :: _ :: _ :: _, _, p1 => exact p1.elim
/-! o[i] = e; x op= e; o[i] op= e -/
theorem ds_put {o i : Expr} {mo mi : ME} {pos' : Pos} (ho : PE X o (TEof X.g Wx mo)) (hi : PE X i (TEof X.g Wx mi)) (he : PE X e (TEof X.g Wx me)) (hu : X.A.units + 1 < cLine)
    (ha : ∀ v, assign (.Subscript o i pos') X.env v = (do
      let ov ← holding [v] (eval o X.env)
      let iv ← holding [v, ov] (eval i X.env)
      standAt pos'
      holding [v, ov, iv] (setItem ov iv v)
      release [v, ov, iv] []) := by intro _; rfl)
    (hs : swapsWithSole [.Subscript o i pos'] e pos.line X.env = pure false := by rfl) (hw : swappedStores [.Subscript o i pos'] e X.env = pure none := by rfl)
    (h1 : (assignEach [.Subscript o i pos'] X.env).map (·.2) = [assign (.Subscript o i pos') X.env] := by rfl) : PS X (.Assign [.Subscript o i pos'] e pos) (TSof X.g Wx (sPut mo mi me)) := by
  refine psImp (ps_asg he (pg_sub ho hi (jp_put hu) ha) hs hw h1) fun D σ H ⟨w, E, S, a, p⟩ => ⟨w, E, S, a, PR.imp (PO_.bind a.good a.env p) fun v H1 ⟨w1, d, S1, a1, x1, r1, p1⟩ => ?_⟩
  refine ⟨w1, E, S1, a1, PR.imp (PO_.bind a1.good a1.env p1) fun x H2 ⟨w2, d2, S2, a2, x2, r2, p2⟩ => ?_⟩
  refine ⟨w2, E, S2, a2, PR.imp (PO_.bind a2.good a2.env p2) fun k H3 ⟨w3, d3, S3, a3, x3, r3, p3⟩ => ?_⟩
  split at p3
  · rename_i S4 e4
    exact ⟨w3, S3, d2, d3, d, S4, a3.hp, a3.good, a3.sto, RD.mono a2.good x3 _ _ r2, r3, RD.mono a1.good (x2.trans x3) _ _ r1, e4, fun w' x' G' rs' => p3 σ w' x' G' (a3.env.mono a3.good x') rs'⟩
  · exact p3.elim
def ipOf (g : G) (f : D → D → List D → R D) : TIp := opOf g f
theorem ds_aug {i : Nat} {x : Str} {op : Operator} {f : D → D → List D → R D} {pos' : Pos} (hN : X.N.Nodup) (hi : X.N[i]? = some x) (hx : Loc X.env.scope x) (he : PE X e (TEof X.g Wx me)) (ho : PIp X op (opOf X.g f)) (hf : X.fn x = true ∨ X.env.scope.names.lookup x = some .local) :
    PS X (.AugAssign (.Name x pos') op e pos) (TSof X.g Wx (sAug i f me)) := by
  refine psImp (ps_aug hN hi hx he ho hf) fun D σ H ⟨w, E, S, a, p⟩ => ?_
  unfold sAug at p
  split at p
  · rename_i d e1
    obtain ⟨v, h1, h2⟩ := a.env.2 i d e1
    refine ⟨v, h1, w, E, S, a, PR.imp (PO_.bind a.good a.env p) fun y H1 ⟨w1, d1, S1, a1, x1, r1, p1⟩ => ?_⟩
    refine ⟨Wx, σ, w1, S1, d, d1, a1.hp, a1.good, a1.sto, RD.mono a.good x1 _ _ h2, r1, PR.imp (PO_.bind a1.good a1.env p1) fun z H2 ⟨w2, d2, S2, a2, x2, r2, p2⟩ => ?_⟩
    have := p2 _ w2 (Ext.refl w2) a2.good (a2.env.set r2) a2.sto
    rw [a2.hp] at this
    exact this
  · exact p.elim
theorem ds_putAug {o i : Expr} {mo mi : ME} {op : Operator} {f : D → D → List D → R D} {tpos : Pos} (ho : PE X o (TEof X.g Wx mo)) (hi : PE X i (TEof X.g Wx mi)) (he : PE X e (TEof X.g Wx me)) (hp : PIp X op (opOf X.g f)) (hu : X.A.units + 1 < cLine)
    (ha : ∀ ov iv new, augStore i ov iv new = (do holding [new, ov, iv] (setItem ov iv new); release [new, ov, iv] []; pure .next) := by intros; rfl) : PS X (.AugAssign (.Subscript o i tpos) op e pos) (TSof X.g Wx (sPutAug f mo mi me)) := by
  refine psImp (ps_augS ho hi (jg_ix hu) he hp (jp_put hu) ha) fun D σ H ⟨w, E, S, a, p⟩ => ?_
  refine ⟨w, E, S, a, PR.imp (PO_.bind a.good a.env p) fun x H1 ⟨w1, d1, S1, a1, x1, r1, p1⟩ => ?_⟩
  refine ⟨w1, E, S1, a1, PR.imp (PO_.bind a1.good a1.env p1) fun k H2 ⟨w2, d2, S2, a2, x2, r2, p2⟩ => ?_⟩
  refine ⟨Wx, σ, w2, S2, d1, d2, a2.hp, a2.good, a2.sto, RD.mono a1.good x2 _ _ r1, r2, PR.imp (PO_.bind a2.good a2.env p2) fun y H3 ⟨w3, d3, S3, a3, x3, r3, p3⟩ => ?_⟩
  refine ⟨w3, E, S3, a3, PR.imp (PO_.bind a3.good a3.env p3) fun z H4 ⟨w4, d4, S4, a4, x4, r4, p4⟩ => ?_⟩
  refine ⟨Wx, σ, w4, S4, d3, d4, a4.hp, a4.good, a4.sto, RD.mono a3.good x4 _ _ r3, r4, PR.imp (PO_.bind a4.good a4.env p4) fun v H5 ⟨w5, d5, S5, a5, x5, r5, p5⟩ => ?_⟩
  split at p5
  · rename_i S6 e6
    exact ⟨w5, S5, d1, d2, d5, S6, a5.hp, a5.good, a5.sto, RD.mono a1.good (x2.trans (x3.trans (x4.trans x5))) _ _ r1, RD.mono a2.good (x3.trans (x4.trans x5)) _ _ r2, r5, e6, fun w' x' G' rs' => p5 σ w' x' G' (a5.env.mono a5.good x') rs'⟩
  · exact p5.elim
/-! in-place operators -/
theorem ipI0 {op : Operator} {f : D → D → List D → R D} {k : Int → Int → Int} (ho : PIp X op (ipI k)) (hm : ∀ d e S, (∃ i j, d = .int i ∧ e = .int j ∧ f d e S = .ok (.int (k i j)) S) ∨ f d e S = .bad) : PIp X op (opOf X.g f) := by
  intro pins s σ H x y v u Q I rx ry ⟨Wx, σ', w, S, d, e, hH, G, rs, r1, r2, p⟩
  rcases hm d e S with ⟨i, j, rfl, rfl, ez⟩ | eb
  · cases r1
    cases r2
    rw [ez] at p
    have := putSame p G rs rfl
    rw [hH] at this
    exact ho pins s σ H _ _ v u Q I rx ry ⟨i, j, rfl, rfl, this⟩
  · rw [eb] at p
    exact p.elim
theorem ji_add : PIp X .Add (opOf X.g iAdd) := ipI0 ip_add fun d e S => by
  unfold iAdd; split
  · exact .inl ⟨_, _, rfl, rfl, rfl⟩
  · exact .inr rfl
theorem ji_sub : PIp X .Sub (opOf X.g oSub) := ipI0 ip_sub fun d e S => by
  unfold oSub; split
  · exact .inl ⟨_, _, rfl, rfl, rfl⟩
  · exact .inr rfl
end
end J
set_option Elab.async false
set_option linter.all false
set_option maxRecDepth 100000
set_option maxHeartbeats 2000000
namespace J
open PySem PySem.Spec PyProof.Rows L2
/-! ### enumerate and zip over lists and tuples alike -/
def SeqB (K : PySem.W.Frag) (H : Hp) (b : Bool) (a : Addr) (xs : List V) : Prop := if b = true then SqT K H a xs else SqL K H a xs
def HoldB (b : Bool) (h : Heap) (a : Addr) (items : Array Value) : Prop := if b = true then h.IsTuple a items else h.IsList a items
def IterB (b : Bool) (h : Heap) (it a : Addr) (i : Nat) : Prop := if b = true then h.IsTupleIter it a i else h.IsListIter it a i
section
variable {X : Cx} {pins : List (Addr × Obj)} {σ : L2.St} {H : Hp} {s : Shared}
theorem Inv.seqB (I : Inv X pins σ H s) {b : Bool} {a : Addr} {xs : List V} (h : SeqB X.K H b a xs) : ∃ its : List Value, Vals xs its ∧ HoldB b s.heap a its.toArray ∧ xs.length ≤ sizeLine := by
  cases b with
  | true =>
    obtain ⟨its, r, t, l⟩ := Inv.tuple I (show SqT X.K H a xs from h)
    exact ⟨its, r, t, l⟩
  | false =>
    obtain ⟨its, r, t, l⟩ := Inv.list I (show SqL X.K H a xs from h)
    exact ⟨its, r, t.isList, l⟩
theorem Inv.seqB_inj (I : Inv X pins σ H s) {b : Bool} {a : Addr} {xs ys : List V} (h : SeqB X.K H b a xs) (h' : SeqB X.K H b a ys) : xs = ys := by
  cases b with
  | true => exact I.tuple_inj (show SqT X.K H a xs from h) h'
  | false => exact I.list_inj (show SqL X.K H a xs from h) h'
end
theorem IterB.at {b : Bool} {h h' : Heap} {it a : Addr} {i : Nat} (x : IterB b h it a i) (e : ∀ o, h.get? it = some o → h'.get? it = some o) : IterB b h' it a i := by
  cases b with
  | true => exact Heap.IsTupleIter.at (show h.IsTupleIter it a i from x) e
  | false => exact Heap.IsListIter.at (show h.IsListIter it a i from x) e
theorem IterB.obj {b : Bool} {h : Heap} {it a : Addr} {i : Nat} (x : IterB b h it a i) : ∃ o, h.get? it = some o ∧ (o.cls = .type "tuple_iterator" ∨ o.cls = .type "list_iterator") ∧ ∀ v, o.data ≠ .cell v := by
  cases b with
  | true =>
    obtain ⟨o, ho, hc, hd⟩ := (show h.IsTupleIter it a i from x)
    exact ⟨o, ho, .inl hc, fun v q => by rw [hd] at q; cases q⟩
  | false =>
    obtain ⟨o, ho, hc, hd⟩ := (show h.IsListIter it a i from x)
    exact ⟨o, ho, .inr hc, fun v q => by rw [hd] at q; cases q⟩
theorem HoldB.obj {b : Bool} {h : Heap} {a : Addr} {items : Array Value} (x : HoldB b h a items) : ∃ o, h.get? a = some o ∧ (o.cls = .type "tuple" ∨ o.cls = .type "list") := by
  cases b with
  | true =>
    obtain ⟨o, ho, hc, _⟩ := (show h.IsTuple a items from x)
    exact ⟨o, ho, .inl hc⟩
  | false =>
    obtain ⟨o, ho, hc, _⟩ := (show h.IsList a items from x)
    exact ⟨o, ho, .inr hc⟩
theorem IterB.ne {b c : Bool} {h : Heap} {it a a' : Addr} {i : Nat} {items : Array Value} (x : IterB b h it a i) (y : HoldB c h a' items) : a' ≠ it := fun e => by
  subst e
  obtain ⟨o, ho, hc, _⟩ := x.obj
  obtain ⟨o', ho', hc'⟩ := y.obj
  rw [ho] at ho'
  cases ho'
  rcases hc with hc | hc <;> rcases hc' with hc' | hc' <;> (rw [hc] at hc'; injection hc' with z; exact absurd z (by decide))
theorem drawsB {prog : Program} {w : World} {A : Around} (hh : A.handled = none) (b : Bool) (it l : Addr) (hne : l ≠ it) (items : Array Value) :
    Draws prog w A it [it, l] items.size (fun i v => items[i]? = some v) (fun i h => IterB b h it l i ∧ HoldB b h l items) := by
  cases b with
  | true => exact Draws.tuple hh it l hne items
  | false => exact Draws.list hh it l hne items
def ItEn (K : PySem.W.Frag) (b : Bool) (a : Addr) : It :=
  ⟨fun i H => ∃ (xs : List V) (x : V), SeqB K H b a xs ∧ xs[i]? = some x, fun i H v H' => ∃ T x, v = .ref T ∧ H T = none ∧ H' = upd H T (.tup [.int (i : Nat), x]) ∧ ∀ xs, SeqB K H b a xs → xs[i]? = some x, fun i H => ∃ xs : List V, SeqB K H b a xs ∧ xs.length = i⟩
theorem turn_en {P : Program} {w : World} {K : PySem.W.Frag} {elts : List Expr} {kk : Nat} {tpos : Pos} (b : Bool) (a e it : Addr) :
    Turn P w K (.Tuple elts kk tpos) (ItEn K b a) [e, it] e (fun i h => (∃ old, IsEnum h e it ((i : Nat) : Int) old) ∧ IterB b h it a i ∧ e ≠ it) where
  mem := by simp
  obj := fun i h st c hb => by
    obtain ⟨⟨old, he⟩, hi, _⟩ := st
    obtain ⟨o, ho, _, hd⟩ := hi.obj
    have e' : c = e ∨ c = it := by simpa using hb
    rcases e' with z | z
    · rw [z]; exact ⟨_, he, fun v q => nomatch q⟩
    · rw [z]; exact ⟨o, ho, hd⟩
  keep := fun i h h' st k => let ⟨⟨old, he⟩, hi, hne⟩ := st; ⟨⟨old, k e (by simp) _ he⟩, hi.at fun o q => k it (by simp) o q, hne⟩
  item := by
    intro X hP hw hK hc i pins s σ H E I hf st hg
    subst hP hw hK
    obtain ⟨⟨old, he⟩, hit, hne⟩ := st
    obtain ⟨xs, x, hq, hx⟩ := hg
    obtain ⟨its, rv, p, hz⟩ := Inv.seqB I hq
    obtain ⟨u, hu, ru⟩ := rv.get hx
    have hel : e < s.heap.objs.size := Heap.lt_size he
    have hil : it < s.heap.objs.size := by obtain ⟨_, q, _⟩ := hit.obj; exact Heap.lt_size q
    have hai := hit.ne p
    have hae : e ≠ a := fun z => by
      subst z
      obtain ⟨o', ho', hc'⟩ := p.obj
      rw [he] at ho'
      cases ho'
      rcases hc' with hc' | hc' <;> (injection hc' with z; exact absurd z (by decide))
    have hlt : i < its.toArray.size := by
      have := (List.getElem?_eq_some_iff.mp hu).1
      simpa using this
    refine wpAny_pyNext_enum_itemD (drawsB (by exact I.ok.hd hc) b it a hai its.toArray) he ⟨hit, p⟩ hlt hne (by simp [hne, hae]) fun u' h' tk hu' ho hst' hT hsz hk => ?_
    obtain ⟨hit', _⟩ := hst'
    have eu : u' = u := by
      have : its[i]? = some u' := by simpa using hu'
      rw [hu] at this
      exact (Option.some.inj this).symm
    subst eu
    refine ⟨_, rfl, wpAny_letOwnedTupleGo_enum (s := { s with heap := h', toks := tk + 1 }) ho fun h'' he' sb => ?_⟩
    have hT2 : h''.get? s.heap.objs.size = some { cls := .type "tuple", data := .seq #[.int i tk, u'] } := (sb.2 _ (Nat.ne_of_gt hel)).trans hT
    have new : ObjOk X.prog X.w (upd H s.heap.objs.size (.tup [.int (i : Nat), x])) h'' s.heap.objs.size (.tup [.int (i : Nat), x]) :=
      ⟨by show 2 ≤ sizeLine; decide, [.int i tk, u'], .cons ⟨_, rfl⟩ (.cons ru .nil), ⟨_, hT2, rfl, _, rfl⟩⟩
    have I1 : Inv X pins σ (upd H s.heap.objs.size (.tup [.int (i : Nat), x])) { s with heap := h'', toks := tk + 1 } :=
      I.turnedNew (ch := [e, it]) (fun b ob hb q => (sb.2 b (fun z => hb (by simp [z]))).trans (hk b ob (fun z => hb (by simp [z])) (fun z => hb (by simp [z])) q)) hf (Nat.le_refl _) new
    refine ⟨.ref s.heap.objs.size, _, I1, rfl, ⟨_, x, rfl, I.hok.fresh (Nat.le_refl _), rfl, fun ys hy => by rw [Inv.seqB_inj I hy hq]; exact hx⟩, ⟨⟨u', ?_⟩, hit'.at fun o q => (sb.2 it (Ne.symm hne)).trans q, hne⟩, fun b hb => ?_⟩
    · have e1 : ((i + 1 : Nat) : Int) = (i : Int) + 1 := by omega
      rw [e1]; exact he'
    · have hb' : b < s.heap.objs.size := by
        have e' : b = e ∨ b = it := by simpa using hb
        rcases e' with z | z
        · rw [z]; exact hel
        · rw [z]; exact hil
      rw [upd_ne (Nat.ne_of_lt hb')]
      exact (hf b hb).1
  done := by
    intro X hP hw hK hc i pins s σ H E I hf st hg
    subst hP hw hK
    obtain ⟨⟨old, he⟩, hit, hne⟩ := st
    obtain ⟨xs, hq, hx⟩ := hg
    obtain ⟨its, rv, p, hz⟩ := Inv.seqB I hq
    obtain ⟨f0, f1, f2, f3, f4, f5⟩ := hf it (by simp)
    have hl := rv.length
    have hai := hit.ne p
    have hi : i = its.toArray.size := by rw [List.size_toArray]; omega
    subst hi
    exact wpAny_pyNext_enum_endD (drawsB (by exact I.ok.hd hc) b it a hai its.toArray) he ⟨hit, p⟩ fun h' eb => ⟨rfl, I.turned (t' := s.toks) (fun b o hb q => eb b o hb q) f0 f1 f3 f4 f5⟩
  self := fun A i s Q E st h => let ⟨⟨_, he⟩, _⟩ := st; wpAny_pyIter_enum he h
set_option maxHeartbeats 4000000 in
theorem meets_enumerate_new0 {v : Value} {o : Obj} {H : Heap → Prop} (B : Begins v o H) :
    Meets (Builtin.«enumerate.__new__» ⟨[.type "enumerate", v], []⟩) (fun _ R s => H s.heap ∧
      R (.ok (.ret (.ref (s.heap.push o).objs.size))) { s with heap := (s.heap.push o).push { cls := .type "enumerate", data := .fields #[.none, .bool false, .ref s.heap.objs.size, rawInt 0, .none, .none] } }) :=
  .of_wp fun prog w A R s h => by
    obtain ⟨hp, g, d, tk, os⟩ := s; obtain ⟨h1, h⟩ := h
    have hsub := sub_enumerate
    have q1 : ∀ {A' : Around} {E : Value → Shared → Prop} {Q : Value → Shared → Prop}, Q (.ref hp.objs.size) ⟨hp.push o, g, d, tk, os⟩ → wpAny (model prog w) A' (pyIter v) Q E ⟨hp, g, d, tk, os⟩ :=
      fun q => B.iter prog w _ _ ⟨hp, g, d, tk, os⟩ _ h1 q
    wp_walk using q1
    refine wpAny_stack_any fun st => wpAny_pure ?_
    split
    · rename_i c _ _ _ _ _
      cases (c == Value.type "enumerate")
      · wp_walk using q1
        exact ⟨_, rfl, h⟩
      · wp_walk using q1
        exact ⟨_, rfl, h⟩
    · wp_walk using q1
      exact ⟨_, rfl, h⟩
section
variable {prog : Program} {w : World} {A : Around} {E : Value → Shared → Prop} {s : Shared}
theorem enum_begins0 {v : Value} {o : Obj} {H : Heap → Prop} {Q : Value → Shared → Prop} (B : Begins v o H) (h1 : H s.heap)
    (h : ∀ h', IsEnum h' (s.heap.objs.size + 1) s.heap.objs.size 0 .none → h'.get? s.heap.objs.size = some o → h'.objs.size = s.heap.objs.size + 2 →
      (∀ b o, s.heap.get? b = some o → h'.get? b = some o) → Q (.ref (s.heap.objs.size + 1)) { s with heap := h' }) :
    wpAny (model prog w) A (call (.type "enumerate") [v]) Q E s := by
  refine callType_new F.called_enumerate (by decide) (F.typeCall_enumerate_1 _) (F.newCall_enumerate_1 _) (fun obj => F.args_object_init_2 obj _) F.entry_enumerate_new
    (meets_enumerate_new0 B) ⟨h1, ?_⟩
  have hz : (s.heap.push o).objs.size = s.heap.objs.size + 1 := Heap.size_push ..
  show _ ∧ _
  rw [hz]
  have he : IsEnum ((s.heap.push o).push { cls := .type "enumerate", data := .fields #[.none, .bool false, .ref s.heap.objs.size, rawInt 0, .none, .none] }) (s.heap.objs.size + 1) s.heap.objs.size 0 .none := by
    have := Heap.get?_push_size (s.heap.push o) (o := { cls := .type "enumerate", data := .fields #[.none, .bool false, .ref s.heap.objs.size, rawInt 0, .none, .none] }) rfl
    rw [hz] at this; exact this
  refine ⟨⟨_, he, rfl⟩, h _ he (Heap.get?_push_of_some _ (Heap.get?_push_size _ B.free)) (by rw [Heap.size_push, hz]) fun b o x => Heap.get?_push_of_some _ (Heap.get?_push_of_some _ x)⟩
end
def itObj (b : Bool) (a : Addr) : Obj := if b = true then { cls := .type "tuple_iterator", data := .fields #[.ref a, .int 0 0] } else { cls := .type "list_iterator", data := .fields #[.ref a, .int 0 0] }
theorem beginsB (b : Bool) (a : Addr) (items : Array Value) : Begins (.ref a) (itObj b a) fun h => HoldB b h a items := by
  cases b with
  | true => exact begins_tuple a items
  | false => exact begins_list a items
theorem IterB.new {b : Bool} {h : Heap} {it a : Addr} (e : h.get? it = some (itObj b a)) : IterB b h it a 0 := by
  cases b with
  | true => exact ⟨_, e, rfl, rfl⟩
  | false => exact ⟨_, e, rfl, rfl⟩
def iEn (K : PySem.W.Frag) (ta : TA) : TI := fun σ H R => ta σ H fun vs H1 => ∃ b a xs, vs = [.ref a] ∧ SeqB K H1 b a xs ∧ R (ItEn K b a) H1
theorem pi_en {X : Cx} {e : Expr} {ta : TA} {p pos tpos : Pos} {elts : List Expr} {kk : Nat} (hg : Gl X "enumerate") (hm : X.mg "enumerate" = none) (ha : PA X [e] ta) (hs : starEach [e] X.env = [(false, eval e X.env)] := by rfl) :
    PI X (.Tuple elts kk tpos) (.Call (.Name "enumerate" p) [e] [] pos) (iEn X.K ta) := by
  refine ⟨fun pins s σ H R I h => ?_⟩
  refine Call_ (ld_blt I hg hm boot_enumerate (PyProof.Rows.callWith_type1 (thn (ha.run pos pins s σ H _ I h) fun us s1 ⟨vs, H1, I1, r1, q1⟩ => ?_) hs rfl))
  obtain ⟨b, a, xs, ex, hq, q⟩ := q1
  subst ex
  cases r1 with
  | cons r rr =>
    cases rr
    cases r
    obtain ⟨its, rv, p', hz⟩ := Inv.seqB I1 hq
    refine enum_begins0 (beginsB b a its.toArray) p' fun h' he hit hsz hk => wpAny_pyIter_enum he ?_
    have I2 : Inv X pins σ H1 { s1 with heap := h' } := I1.kept (t' := s1.toks) hk
    refine ⟨s1.heap.objs.size + 1, [s1.heap.objs.size + 1, s1.heap.objs.size], _, _, H1, rfl, I2, turn_en b a (s1.heap.objs.size + 1) s1.heap.objs.size, ⟨⟨.none, he⟩, IterB.new hit, Nat.succ_ne_self _⟩, fun c hb => ?_, q⟩
    have e' : c = s1.heap.objs.size + 1 ∨ c = s1.heap.objs.size := by simpa using hb
    have hle : s1.heap.objs.size ≤ c := by
      rcases e' with z | z
      · rw [z]; exact Nat.le_add_right _ _
      · rw [z]; exact Nat.le_refl _
    exact I1.fpOk hle (I1.hok.fresh hle)
/-! zip -/
def ItZp (K : PySem.W.Frag) (c d : Bool) (a b : Addr) : It :=
  ⟨fun i H => ∃ (xs ys : List V) (x y : V), SeqB K H c a xs ∧ SeqB K H d b ys ∧ xs[i]? = some x ∧ ys[i]? = some y,
    fun i H v H' => ∃ T x y, v = .ref T ∧ H T = none ∧ H' = upd H T (.tup [x, y]) ∧ (∀ xs, SeqB K H c a xs → xs[i]? = some x) ∧ ∀ ys, SeqB K H d b ys → ys[i]? = some y,
    fun i H => ∃ xs ys : List V, SeqB K H c a xs ∧ SeqB K H d b ys ∧ i ≤ xs.length ∧ i ≤ ys.length ∧ (i = xs.length ∨ i = ys.length)⟩
structure ZpApart (z TI TO i1 i2 : Addr) : Prop where
  TIz : TI ≠ z
  TOz : TO ≠ z
  TITO : TI ≠ TO
  TIi1 : TI ≠ i1
  TIi2 : TI ≠ i2
  zi1 : z ≠ i1
  zi2 : z ≠ i2
  TOi1 : TO ≠ i1
  TOi2 : TO ≠ i2
  i12 : i1 ≠ i2
theorem ne_cls {h : Heap} {a c : Addr} {o o' : Obj} {n m : String} (h1 : h.get? a = some o) (h2 : h.get? c = some o') (e1 : o.cls = .type n) (e2 : o'.cls = .type m) (d : n ≠ m) : a ≠ c := fun e => by
  subst e
  rw [h1] at h2
  cases h2
  rw [e1] at e2
  injection e2 with z
  exact d z
theorem HoldB.ne {c : Bool} {h : Heap} {a z : Addr} {items : Array Value} {o : Obj} {n : String} (y : HoldB c h a items) (ho : h.get? z = some o) (hc : o.cls = .type n) (d1 : n ≠ "tuple") (d2 : n ≠ "list") : z ≠ a := by
  obtain ⟨o', ho', hc'⟩ := y.obj
  rcases hc' with hc' | hc'
  · exact ne_cls ho ho' hc hc' d1
  · exact ne_cls ho ho' hc hc' d2
theorem turn_zp {P : Program} {w : World} {K : PySem.W.Frag} {elts : List Expr} {kk : Nat} {tpos : Pos} {c d : Bool} {a b z TI TO i1 i2 : Addr} (D : ZpApart z TI TO i1 i2) :
    Turn P w K (.Tuple elts kk tpos) (ItZp K c d a b) [z, TI, TO, i1, i2] z (fun i h => IsZip h z TI TO .none ∧ IsTupOf2 h TI (.ref i1) (.ref i2) ∧ (∃ x y, IsTupOf2 h TO x y) ∧ IterB c h i1 a i ∧ IterB d h i2 b i) where
  mem := by simp
  obj := fun i h st e hc => by
    obtain ⟨hz, hTI, ⟨x, y, hTO⟩, h1, h2⟩ := st
    obtain ⟨o1, e1, _, d1⟩ := h1.obj
    obtain ⟨o2, e2, _, d2⟩ := h2.obj
    have e' : e = z ∨ e = TI ∨ e = TO ∨ e = i1 ∨ e = i2 := by simpa using hc
    rcases e' with q | q | q | q | q
    · rw [q]; exact ⟨_, hz, fun v q => nomatch q⟩
    · rw [q]; exact ⟨_, hTI, fun v q => nomatch q⟩
    · rw [q]; exact ⟨_, hTO, fun v q => nomatch q⟩
    · rw [q]; exact ⟨o1, e1, d1⟩
    · rw [q]; exact ⟨o2, e2, d2⟩
  keep := fun i h h' st k => by
    obtain ⟨hz, hTI, ⟨x, y, hTO⟩, h1, h2⟩ := st
    exact ⟨k z (by simp) _ hz, k TI (by simp) _ hTI, ⟨x, y, k TO (by simp) _ hTO⟩, h1.at fun o q => k i1 (by simp) o q, h2.at fun o q => k i2 (by simp) o q⟩
  item := by
    intro X hP hw hK hc i pins s σ H E I hf st hg
    subst hP hw hK
    obtain ⟨hz, hTI, ⟨x0, y0, hTO⟩, h1, h2⟩ := st
    obtain ⟨xs, ys, x, y, hqx, hqy, hx, hy⟩ := hg
    obtain ⟨its, rv, p, _⟩ := Inv.seqB I hqx
    obtain ⟨its2, rv2, p2, _⟩ := Inv.seqB I hqy
    obtain ⟨u, hu, ru⟩ := rv.get hx
    obtain ⟨u2, hu2, ru2⟩ := rv2.get hy
    have hzl : z < s.heap.objs.size := Heap.lt_size hz
    have hlt1 : i < its.toArray.size := by simpa using (List.getElem?_eq_some_iff.mp hu).1
    have hlt2 : i < its2.toArray.size := by simpa using (List.getElem?_eq_some_iff.mp hu2).1
    have hh := I.ok.hd hc
    have tne : ∀ {q : Addr} {cc : Bool} {aa : Addr} {it : Array Value}, q ∈ [z, TI, TO, i1, i2] → HoldB cc s.heap aa it → (∃ xs, SeqB X.K H cc aa xs) → q ≠ aa := fun {q cc aa it} hq hold sq e => by
      have hn := (hf q hq).1
      subst e
      obtain ⟨xs, sq⟩ := sq
      have sqt : (∃ o, H q = some o) ∨ ∃ o, X.K.lookup q = some o := by
        cases cc with
        | true =>
          rcases (show SqT X.K H q xs from sq) with (h | ⟨o, h⟩) | ⟨o, _, _, h, _⟩
          · exact .inl ⟨_, h⟩
          · exact .inl ⟨_, h⟩
          · exact .inr ⟨o, h⟩
        | false =>
          rcases (show SqL X.K H q xs from sq) with (h | ⟨o, h⟩) | ⟨o, _, _, h, _⟩
          · exact .inl ⟨_, h⟩
          · exact .inl ⟨_, h⟩
          · exact .inr ⟨o, h⟩
      rcases sqt with ⟨o, h⟩ | ⟨o, h⟩
      · rw [hn] at h; cases h
      · have hb := I.ok.mod.kin q o h
        rcases (hf q hq).2.2.2.1 with hx' | hx'
        · exact I.ok.noex q o hb hx'
        · have := Heap.lt_size (I.ok.bs q o hb).1
          exact absurd (Nat.lt_of_lt_of_le this hx') (Nat.lt_irrefl _)
    have S : ZipSep2 z TI TO i1 i2 [i1, a] [i2, b] :=
      { TIz := D.TIz, TOz := D.TOz, TITO := D.TITO, TIi1 := D.TIi1, TIi2 := D.TIi2, mem1 := by simp, mem2 := by simp,
        zf1 := by simp [D.zi1, tne (q := z) (by simp) p ⟨xs, hqx⟩], Tf1 := by simp [D.TOi1, tne (q := TO) (by simp) p ⟨xs, hqx⟩],
        zf2 := by simp [D.zi2, tne (q := z) (by simp) p2 ⟨ys, hqy⟩], Tf2 := by simp [D.TOi2, tne (q := TO) (by simp) p2 ⟨ys, hqy⟩],
        sep1_2 := by simp [D.i12, tne (q := i1) (by simp) p2 ⟨ys, hqy⟩], sep2_1 := by simp [D.i12.symm, tne (q := i2) (by simp) p ⟨xs, hqx⟩] }
    refine wpAny_pyNext_zipD2_item S (drawsB (by exact hh) c i1 a (h1.ne p) its.toArray) (drawsB (by exact hh) d i2 b (h2.ne p2) its2.toArray) hz hTI hTO ⟨h1, p⟩ ⟨h2, p2⟩ hlt1 hlt2 fun u' u2' h' tk hu' hu2' z' TO' st1 st2 hT hsz hk => ?_
    have eu : u' = u := by
      have : its[i]? = some u' := by simpa using hu'
      rw [hu] at this
      exact (Option.some.inj this).symm
    have eu2 : u2' = u2 := by
      have : its2[i]? = some u2' := by simpa using hu2'
      rw [hu2] at this
      exact (Option.some.inj this).symm
    subst eu eu2
    refine ⟨_, rfl, wpAny_letOwnedTupleGo_zip (s := { s with heap := h', toks := tk }) z' fun h'' z'' sb => ?_⟩
    have hT2 : h''.get? s.heap.objs.size = some { cls := .type "tuple", data := .seq #[u', u2'] } := (sb.2 _ (Nat.ne_of_gt hzl)).trans hT
    have new : ObjOk X.prog X.w (upd H s.heap.objs.size (.tup [x, y])) h'' s.heap.objs.size (.tup [x, y]) :=
      ⟨by show 2 ≤ sizeLine; decide, [u', u2'], .cons ru (.cons ru2 .nil), ⟨_, hT2, rfl, _, rfl⟩⟩
    have I1 : Inv X pins σ (upd H s.heap.objs.size (.tup [x, y])) { s with heap := h'', toks := tk } :=
      I.turnedNew (t' := tk) (ch := [z, TI, TO, i1, i2]) (fun c o hb q => (sb.2 c (fun q' => hb (by simp [q']))).trans (hk c o (fun q' => hb (by simp [q'])) (fun q' => hb (by simp [q'])) (fun q' => hb (by simp [q'])) (fun q' => hb (by simp [q'])) q)) hf (Nat.le_refl _) new
    refine ⟨.ref s.heap.objs.size, _, I1, rfl, ⟨_, x, y, rfl, I.hok.fresh (Nat.le_refl _), rfl, fun l hl => by rw [Inv.seqB_inj I hl hqx]; exact hx, fun l hl => by rw [Inv.seqB_inj I hl hqy]; exact hy⟩, ⟨z'', ?_, ⟨u', u2', ?_⟩, ?_, ?_⟩, fun c hcm => ?_⟩
    · exact (sb.2 _ D.TIz).trans (hk _ _ D.TIz D.TITO D.TIi1 D.TIi2 hTI)
    · exact (sb.2 _ D.TOz).trans TO'
    · exact st1.1.at fun o q => (sb.2 _ D.zi1.symm).trans q
    · exact st2.1.at fun o q => (sb.2 _ D.zi2.symm).trans q
    · have hlt : c < s.heap.objs.size := by
        have e' : c = z ∨ c = TI ∨ c = TO ∨ c = i1 ∨ c = i2 := by simpa using hcm
        rcases e' with q | q | q | q | q
        · rw [q]; exact hzl
        · rw [q]; exact Heap.lt_size hTI
        · rw [q]; exact Heap.lt_size hTO
        · rw [q]; obtain ⟨_, e1, _⟩ := h1.obj; exact Heap.lt_size e1
        · rw [q]; obtain ⟨_, e2, _⟩ := h2.obj; exact Heap.lt_size e2
      rw [upd_ne (Nat.ne_of_lt hlt)]
      exact (hf c hcm).1
  done := by
    intro X hP hw hK hc i pins s σ H E I hf st hg
    subst hP hw hK
    obtain ⟨hz, hTI, ⟨x0, y0, hTO⟩, h1, h2⟩ := st
    obtain ⟨xs, ys, hqx, hqy, hl1, hl2, hend⟩ := hg
    obtain ⟨its, rv, p, _⟩ := Inv.seqB I hqx
    obtain ⟨its2, rv2, p2, _⟩ := Inv.seqB I hqy
    have l1 := rv.length
    have l2 := rv2.length
    have hh := I.ok.hd hc
    have tne : ∀ {q : Addr} {cc : Bool} {aa : Addr}, q ∈ [z, TI, TO, i1, i2] → (∃ xs, SeqB X.K H cc aa xs) → q ≠ aa := fun {q cc aa} hq sq e => by
      have hn := (hf q hq).1
      subst e
      obtain ⟨xs, sq⟩ := sq
      have sqt : (∃ o, H q = some o) ∨ ∃ o, X.K.lookup q = some o := by
        cases cc with
        | true =>
          rcases (show SqT X.K H q xs from sq) with (h | ⟨o, h⟩) | ⟨o, _, _, h, _⟩
          · exact .inl ⟨_, h⟩
          · exact .inl ⟨_, h⟩
          · exact .inr ⟨o, h⟩
        | false =>
          rcases (show SqL X.K H q xs from sq) with (h | ⟨o, h⟩) | ⟨o, _, _, h, _⟩
          · exact .inl ⟨_, h⟩
          · exact .inl ⟨_, h⟩
          · exact .inr ⟨o, h⟩
      rcases sqt with ⟨o, h⟩ | ⟨o, h⟩
      · rw [hn] at h; cases h
      · have hb := I.ok.mod.kin q o h
        rcases (hf q hq).2.2.2.1 with hx' | hx'
        · exact I.ok.noex q o hb hx'
        · have := Heap.lt_size (I.ok.bs q o hb).1
          exact absurd (Nat.lt_of_lt_of_le this hx') (Nat.lt_irrefl _)
    have S : ZipSep2 z TI TO i1 i2 [i1, a] [i2, b] :=
      { TIz := D.TIz, TOz := D.TOz, TITO := D.TITO, TIi1 := D.TIi1, TIi2 := D.TIi2, mem1 := by simp, mem2 := by simp,
        zf1 := by simp [D.zi1, tne (q := z) (by simp) ⟨xs, hqx⟩], Tf1 := by simp [D.TOi1, tne (q := TO) (by simp) ⟨xs, hqx⟩],
        zf2 := by simp [D.zi2, tne (q := z) (by simp) ⟨ys, hqy⟩], Tf2 := by simp [D.TOi2, tne (q := TO) (by simp) ⟨ys, hqy⟩],
        sep1_2 := by simp [D.i12, tne (q := i1) (by simp) ⟨ys, hqy⟩], sep2_1 := by simp [D.i12.symm, tne (q := i2) (by simp) ⟨xs, hqx⟩] }
    exact wpAny_pyNext_zipD2_end S (drawsB (by exact hh) c i1 a (h1.ne p) its.toArray) (drawsB (by exact hh) d i2 b (h2.ne p2) its2.toArray) hz hTI hTO ⟨h1, p⟩ ⟨h2, p2⟩ (by rw [List.size_toArray]; omega) (by rw [List.size_toArray]; omega) (by rw [List.size_toArray, List.size_toArray]; omega)
      fun h' tk hk => ⟨rfl, I.turnedL (t' := tk) (ch := [z, TI, TO, i1, i2]) (fun c o hb q => hk c o (fun q' => hb (by simp [q'])) (fun q' => hb (by simp [q'])) (fun q' => hb (by simp [q'])) (fun q' => hb (by simp [q'])) q) hf⟩
  self := fun A i s Q E st h => wpAny_pyIter_zip st.1 h
def iZp (K : PySem.W.Frag) (ta : TA) : TI := fun σ H R => ta σ H fun vs H1 => ∃ c d a b xs ys, vs = [.ref a, .ref b] ∧ SeqB K H1 c a xs ∧ SeqB K H1 d b ys ∧ R (ItZp K c d a b) H1
theorem pi_zp {X : Cx} {e e2 : Expr} {ta : TA} {p pos tpos : Pos} {elts : List Expr} {kk : Nat} (hg : Gl X "zip") (hm : X.mg "zip" = none) (ha : PA X [e, e2] ta)
    (hs : starEach [e, e2] X.env = (false, eval e X.env) :: starEach [e2] X.env := by rfl) (hpl : (backTo pos (starEach [e2] X.env)).any (·.1) = false := by rfl) :
    PI X (.Tuple elts kk tpos) (.Call (.Name "zip" p) [e, e2] [] pos) (iZp X.K ta) := by
  refine ⟨fun pins s σ H R I h => ?_⟩
  refine Call_ (ld_blt I hg hm PyProof.Rows.boot_zip (PyProof.Rows.callWith_type1 (thn (ha.run pos pins s σ H _ I h) fun us s1 ⟨vs, H1, I1, r1, q1⟩ => ?_) hs hpl))
  obtain ⟨c, d, a, b, xs, ys, ex, hqx, hqy, q⟩ := q1
  subst ex
  cases r1 with
  | cons r rr =>
    cases rr with
    | cons r' rr' =>
      cases rr'
      cases r
      cases r'
      obtain ⟨its, rv, p1, _⟩ := Inv.seqB I1 hqx
      obtain ⟨its2, rv2, p2, _⟩ := Inv.seqB I1 hqy
      refine zip_begins2 (beginsB c a its.toArray) (beginsB d b its2.toArray) p1 p2 fun h' hz hTI hTO h1 h2 hsz hk => wpAny_pyIter_zip hz ?_
      have I2 : Inv X pins σ H1 { s1 with heap := h' } := I1.kept (t' := s1.toks) hk
      refine ⟨s1.heap.objs.size + 4, [s1.heap.objs.size + 4, s1.heap.objs.size + 2, s1.heap.objs.size + 3, s1.heap.objs.size, s1.heap.objs.size + 1], _, _, H1, rfl, I2,
        turn_zp (c := c) (d := d) (a := a) (b := b) (z := s1.heap.objs.size + 4) (TI := s1.heap.objs.size + 2) (TO := s1.heap.objs.size + 3) (i1 := s1.heap.objs.size) (i2 := s1.heap.objs.size + 1) ?_, ⟨hz, hTI, ⟨_, _, hTO⟩, IterB.new h1, IterB.new h2⟩, fun e hb => ?_, q⟩
      · constructor <;> (intro z; have z' : (_ : Nat) = _ := z; omega)
      · have hle : s1.heap.objs.size ≤ e := by
          have e' : e = s1.heap.objs.size + 4 ∨ e = s1.heap.objs.size + 2 ∨ e = s1.heap.objs.size + 3 ∨ e = s1.heap.objs.size ∨ e = s1.heap.objs.size + 1 := by simpa using hb
          rcases e' with z | z | z | z | z <;> (rw [z]; first | exact Nat.le_add_right _ _ | exact Nat.le_refl _)
        exact I1.fpOk hle (I1.hok.fresh hle)
end J
set_option Elab.async false
set_option linter.all false
set_option maxRecDepth 100000
set_option maxHeartbeats 1000000
namespace J
open PySem PySem.Spec PyProof.Rows L2
/-! ### what a loop goes over -/
structure ItOk (g : G) (w0 : W) (J : It) (src : Src) : Prop where
  go : ∀ (i : Nat) w S d, Ext w0 w → RS g w S → src.alive S = true → src.at_ S i = some d → i < src.len → J.go i w.H
  stop : ∀ w S, Ext w0 w → RS g w S → src.alive S = true → J.stop src.len w.H
  yld : ∀ (i : Nat) w S d x H', Ext w0 w → Good w → RS g w S → src.alive S = true → src.at_ S i = some d → i < src.len → J.yld i w.H x H' → ∃ w', w'.H = H' ∧ Ext w w' ∧ Good w' ∧ w'.rhA = w.rhA ∧ w'.thA = w.thA ∧ RD g w' d x ∧ RS g w' S
def TIof (g : G) (Wx : WX) (m : MI) : TI := fun σ H Q => ∃ w E S, At g w E σ H S ∧ PR g Wx σ w (fun w' s J => ItOk g w' J s) Q (m E S)
theorem piOr {X : Cx} {tg e : Expr} {t t' : TI} (h : PI X tg e t) (h' : PI X tg e t') : PI X tg e (fun σ H R => t σ H R ∨ t' σ H R) := ⟨fun pins s σ H R I q => q.elim (h.run pins s σ H R I) (h'.run pins s σ H R I)⟩
theorem piImp {X : Cx} {tg e : Expr} {t t' : TI} (h : PI X tg e t) (f : ∀ σ H R, t' σ H R → t σ H R) : PI X tg e t' := ⟨fun pins s σ H R I q => h.run pins s σ H R I (f _ _ _ q)⟩
theorem srcOf_some {S : List D} {d : D} {s : Src} (h : srcOf S d = some s) : (∃ ds, (d = .tup ds ∨ d = .tuk ds) ∧ s = .its ds) ∨ (∃ ds, (d = .lst ds ∨ d = .rdl ds) ∧ s = .its ds) ∨ ∃ n ds, d = .loc n ∧ S[n]? = some (.lst ds) ∧ s = .live n ds.length := by
  unfold srcOf at h
  split at h
  · cases h; exact .inl ⟨_, .inl rfl, rfl⟩
  · cases h; exact .inl ⟨_, .inr rfl, rfl⟩
  · cases h; exact .inr (.inl ⟨_, .inl rfl, rfl⟩)
  · cases h; exact .inr (.inl ⟨_, .inr rfl, rfl⟩)
  · split at h
    · rename_i e
      cases h; exact .inr (.inr ⟨_, _, rfl, e, rfl⟩)
    · cases h
  · cases h
def D.isTup : D → Bool
  | .tup _ => true
  | .tuk _ => true
  | _ => false
structure Stands (g : G) (w0 : W) (b : Bool) (a : Addr) (src : Src) : Prop where
  st : ∀ w S, Ext w0 w → RS g w S → src.alive S = true → ∃ vs, SeqB g.K w.H b a vs ∧ vs.length = src.len ∧ (∀ (i : Nat) d, src.at_ S i = some d → ∃ v, vs[i]? = some v ∧ RD g w d v)
theorem stands_of {g : G} {w : W} {S : List D} {d : D} {v : V} {s : Src} (G : Good w) (rs : RS g w S) (r : RD g w d v) (h : srcOf S d = some s) : ∃ a b, v = .ref a ∧ b = d.isTup ∧ Stands g w b a s ∧ s.alive S = true := by
  rcases srcOf_some h with ⟨ds, rfl | rfl, rfl⟩ | ⟨ds, rfl | rfl, rfl⟩ | ⟨n, ds, rfl, e, rfl⟩
  · obtain ⟨a, vs, rfl, t, r2⟩ := r
    exact ⟨a, true, rfl, rfl, ⟨fun w' S' x _ _ => ⟨vs, (t.mono G x).sq, r2.length, fun i d e => (r2.mono G x).get e⟩⟩, rfl⟩
  · obtain ⟨a, vs, o, rfl, t, _, n, r2⟩ := r
    exact ⟨a, true, rfl, rfl, ⟨fun w' S' x _ _ => ⟨vs, .inl (.inr ⟨o, x.fz G t n⟩), r2.length, fun i d e => (r2.mono G x).get e⟩⟩, rfl⟩
  · obtain ⟨a, vs, rfl, t, n, r2⟩ := r
    exact ⟨a, false, rfl, rfl, ⟨fun w' S' x _ _ => ⟨vs, SqL.of (x.fz G t n), r2.length, fun i d e => (r2.mono G x).get e⟩⟩, rfl⟩
  · obtain ⟨a, vs, rfl, t, r2⟩ := r
    exact ⟨a, false, rfl, rfl, ⟨fun w' S' x _ _ => ⟨vs, (t.mono G x).sq, r2.length, fun i d e => (r2.mono G x).get e⟩⟩, rfl⟩
  · obtain ⟨a, rfl, hp⟩ := r
    refine ⟨a, false, rfl, rfl, ⟨fun w' S' x rs' al => ?_⟩, by simp [Src.live, e]⟩
    simp only [Src.live] at al
    split at al
    · rename_i ds' e'
      obtain ⟨us, h1, h2⟩ := rs'.obj (x.get hp) e'
      refine ⟨us, SqL.of h1, by rw [h2.length]; exact (show ds'.length = ds.length by simpa using al), fun i d q => ?_⟩
      simp only [Src.live, e'] at q
      exact h2.get q
    · cases al
theorem its_list {g : G} {w : W} {a : Addr} {s : Src} (h : Stands g w false a s) : ItOk g w (Itl g.K a) s where
  go := fun i w' S d x rs al e _ => by
    obtain ⟨vs, sq, _, at_⟩ := h.st w' S x rs al
    obtain ⟨v, h1, _⟩ := at_ i d e
    exact ⟨vs, v, sq, h1⟩
  stop := fun w' S x rs al => by
    obtain ⟨vs, sq, l, _⟩ := h.st w' S x rs al
    exact ⟨vs, sq, Nat.le_of_eq l⟩
  yld := fun i w' S d x H' ex G rs al e _ y => by
    obtain ⟨vs, sq, _, at_⟩ := h.st w' S ex rs al
    obtain ⟨v, h1, h2⟩ := at_ i d e
    obtain ⟨rfl, q⟩ := y
    have := q vs sq
    rw [h1] at this
    cases this
    exact ⟨w', rfl, Ext.refl _, G, rfl, rfl, h2, rs⟩
theorem its_tup {g : G} {w : W} {a : Addr} {s : Src} (h : Stands g w true a s) : ItOk g w (Itt g.K a) s where
  go := fun i w' S d x rs al e _ => by
    obtain ⟨vs, sq, _, at_⟩ := h.st w' S x rs al
    obtain ⟨v, h1, _⟩ := at_ i d e
    exact ⟨vs, v, sq, h1⟩
  stop := fun w' S x rs al => by
    obtain ⟨vs, sq, l, _⟩ := h.st w' S x rs al
    exact ⟨vs, sq, Nat.le_of_eq l⟩
  yld := fun i w' S d x H' ex G rs al e _ y => by
    obtain ⟨vs, sq, _, at_⟩ := h.st w' S ex rs al
    obtain ⟨v, h1, h2⟩ := at_ i d e
    obtain ⟨rfl, q⟩ := y
    have := q vs sq
    rw [h1] at this
    cases this
    exact ⟨w', rfl, Ext.refl _, G, rfl, rfl, h2, rs⟩
theorem pairNew {g : G} {w : W} {S : List D} {T : Addr} {d e : D} {x y : V} (G : Good w) (rs : RS g w S) (hT : w.H T = none) (r1 : RD g w d x) (r2 : RD g w e y) :
    ∃ w', w'.H = upd w.H T (.tup [x, y]) ∧ Ext w w' ∧ Good w' ∧ w'.rhA = w.rhA ∧ w'.thA = w.thA ∧ RD g w' (.tup [d, e]) (.ref T) ∧ RS g w' S := by
  have x' := put_ext (o := .tup [x, y]) hT
  exact ⟨w.put T (.tup [x, y]), rfl, x', put_good G hT, rfl, rfl, ⟨T, _, rfl, ⟨upd_same, put_th (w := w) G hT⟩, RDs.cons (RD.mono G x' _ _ r1) (RDs.one (RD.mono G x' _ _ r2))⟩, put_store G hT rs⟩
theorem its_enum {g : G} {w : W} {b : Bool} {a : Addr} {s : Src} (h : Stands g w b a s) : ItOk g w (ItEn g.K b a) s.enum where
  go := fun i w' S d x rs al e hi => by
    obtain ⟨vs, sq, _, at_⟩ := h.st w' S x rs al
    have e' : (s.at_ S i).map (fun d => D.tup [.int i, d]) = some d := e
    cases q : s.at_ S i with
    | none => rw [q] at e'; cases e'
    | some d0 =>
      obtain ⟨v, h1, _⟩ := at_ i d0 q
      exact ⟨vs, v, sq, h1⟩
  stop := fun w' S x rs al => by
    obtain ⟨vs, sq, l, _⟩ := h.st w' S x rs al
    exact ⟨vs, sq, l⟩
  yld := fun i w' S d x H' ex G rs al e _ y => by
    obtain ⟨vs, sq, _, at_⟩ := h.st w' S ex rs al
    have e' : (s.at_ S i).map (fun d => D.tup [.int i, d]) = some d := e
    cases q : s.at_ S i with
    | none => rw [q] at e'; cases e'
    | some d0 =>
      rw [q] at e'
      cases e'
      obtain ⟨v, h1, h2⟩ := at_ i d0 q
      obtain ⟨T, z, rfl, hT, rfl, k⟩ := y
      have := k vs sq
      rw [h1] at this
      cases this
      exact pairNew G rs hT rfl h2
theorem its_zip {g : G} {w : W} {c d : Bool} {a b : Addr} {s t : Src} (h : Stands g w c a s) (k : Stands g w d b t) : ItOk g w (ItZp g.K c d a b) (s.zip t) where
  go := fun i w' S z x rs al e hi => by
    have al' : (s.alive S && t.alive S) = true := al
    rw [Bool.and_eq_true] at al'
    obtain ⟨vs, sq, _, at1⟩ := h.st w' S x rs al'.1
    obtain ⟨us, sq2, _, at2⟩ := k.st w' S x rs al'.2
    simp only [Src.zip] at e
    split at e
    · rename_i p q e1 e2
      obtain ⟨v, h1, _⟩ := at1 i p e1
      obtain ⟨u, h2, _⟩ := at2 i q e2
      exact ⟨vs, us, v, u, sq, sq2, h1, h2⟩
    · cases e
  stop := fun w' S x rs al => by
    have al' : (s.alive S && t.alive S) = true := al
    rw [Bool.and_eq_true] at al'
    obtain ⟨vs, sq, l1, _⟩ := h.st w' S x rs al'.1
    obtain ⟨us, sq2, l2, _⟩ := k.st w' S x rs al'.2
    refine ⟨vs, us, sq, sq2, ?_, ?_, ?_⟩ <;> (show _; simp only [Src.zip]; omega)
  yld := fun i w' S z x H' ex G rs al e _ y => by
    have al' : (s.alive S && t.alive S) = true := al
    rw [Bool.and_eq_true] at al'
    obtain ⟨vs, sq, _, at1⟩ := h.st w' S ex rs al'.1
    obtain ⟨us, sq2, _, at2⟩ := k.st w' S ex rs al'.2
    simp only [Src.zip] at e
    split at e
    · rename_i p q e1 e2
      cases e
      obtain ⟨v, h1, r1⟩ := at1 i p e1
      obtain ⟨u, h2, r2⟩ := at2 i q e2
      obtain ⟨T, z1, z2, rfl, hT, rfl, k1, k2⟩ := y
      have := k1 vs sq
      rw [h1] at this
      cases this
      have := k2 us sq2
      rw [h2] at this
      cases this
      exact pairNew G rs hT r1 r2
    · cases e
theorem its_rng {g : G} {w : W} (lo : Int) (n : Nat) : ItOk g w (Itr lo n) (.rng lo n) where
  go := fun i w' S d x rs al e hi => hi
  stop := fun w' S x rs al => Nat.le_refl _
  yld := fun i w' S d x H' ex G rs al e _ y => by
    obtain ⟨rfl, rfl⟩ := y
    have e' : some (D.int (lo + i)) = some d := e
    cases e'
    exact ⟨w', rfl, Ext.refl _, G, rfl, rfl, rfl, rs⟩
section
variable {X : Cx} {Wx : WX} {tg a b : Expr} {ma mb : ME} {pos : Pos}
theorem di_seq (h : PE X a (TEof X.g Wx ma)) : PI X tg a (TIof X.g Wx (iSeq ma)) := by
  refine piImp (piOr (pi_list h) (pi_tup h)) fun σ H Q ⟨w, E, S, a, p⟩ => ?_
  have p1 : PR X.g Wx σ w (fun w' s J => ItOk X.g w' J s) Q ((ma E S).bind fun x S1 => match srcOf S1 x with | some s => .ok s S1 | none => .bad) := p
  cases hm : ma E S with
  | ok d S1 =>
    rw [hm] at p1
    have p2 : PR X.g Wx σ w (fun w' s J => ItOk X.g w' J s) Q (match srcOf S1 d with | some s => .ok s S1 | none => .bad) := p1
    cases hs : srcOf S1 d with
    | none => rw [hs] at p2; exact p2.elim
    | some s =>
      rw [hs] at p2
      cases ht : d.isTup with
      | true =>
        refine .inr ⟨w, E, S, a, ?_⟩
        rw [hm]
        intro v w1 x G r rs
        obtain ⟨q, c, rfl, ec, st, al⟩ := stands_of G rs r hs
        rw [ht] at ec
        subst ec
        obtain ⟨vs, sq, _⟩ := st.st w1 S1 (Ext.refl _) rs al
        exact ⟨q, rfl, ⟨vs, sq⟩, p2 _ w1 x G (its_tup st) rs⟩
      | false =>
        refine .inl ⟨w, E, S, a, ?_⟩
        rw [hm]
        intro v w1 x G r rs
        obtain ⟨q, c, rfl, ec, st, al⟩ := stands_of G rs r hs
        rw [ht] at ec
        subst ec
        obtain ⟨vs, sq, _⟩ := st.st w1 S1 (Ext.refl _) rs al
        exact ⟨q, rfl, ⟨vs, sq⟩, p2 _ w1 x G (its_list st) rs⟩
  | exc c fs S1 =>
    refine .inl ⟨w, E, S, a, ?_⟩
    rw [hm] at p1 ⊢
    exact p1
  | bad => rw [hm] at p1; exact p1.elim
theorem okR_iff {i : Int} : okR i = true ↔ -(2 ^ 62) ≤ i ∧ i < 2 ^ 62 := by
  unfold okR
  rw [Bool.and_eq_true, decide_eq_true_eq, decide_eq_true_eq]
  exact Iff.rfl
theorem di_rng1 {p : Pos} (hg : Gl X "range") (hm : X.mg "range" = none) (ha : PA X [a] (TAof X.g Wx (aCons ma aNil))) (hs : starEach [a] X.env = [(false, eval a X.env)] := by rfl) : PI X tg (.Call (.Name "range" p) [a] [] pos) (TIof X.g Wx (iRng1 ma)) := by
  refine piImp (pi_range1 hg hm ha hs) fun σ H Q ⟨w, E, S, a, p⟩ => ?_
  refine ⟨w, E, S, a, ?_⟩
  unfold iRng1 at p
  unfold aCons aNil
  cases hm : ma E S with
  | ok d S1 =>
    rw [hm] at p
    cases d with
    | int j =>
      simp only [bind_ok] at p ⊢
      split at p
      · rename_i hj
        intro vs w1 x G r rs
        obtain ⟨v, rfl, r1⟩ := r.one'
        cases r1
        have hj' := okR_iff.mp hj
        exact ⟨j, rfl, hj'.1, hj'.2, p _ w1 x G (its_rng 0 j.toNat) rs⟩
      · exact p.elim
    | _ => exact p.elim
  | exc c fs S1 => rw [hm] at p; exact p
  | bad => rw [hm] at p; exact p.elim
theorem di_rng2 {p : Pos} (hg : Gl X "range") (hm : X.mg "range" = none) (ha : PA X [a, b] (TAof X.g Wx (aCons ma (aCons mb aNil)))) (hs : starEach [a, b] X.env = [(false, eval a X.env), (false, eval b X.env)] := by rfl) (hs2 : starEach [b] X.env = [(false, eval b X.env)] := by rfl) : PI X tg (.Call (.Name "range" p) [a, b] [] pos) (TIof X.g Wx (iRng2 ma mb)) := by
  refine piImp (pi_range2 hg hm ha hs hs2) fun σ H Q ⟨w, E, S, a, p⟩ => ?_
  refine ⟨w, E, S, a, ?_⟩
  unfold iRng2 at p
  unfold aCons aNil
  cases hm : ma E S with
  | ok d S1 =>
    rw [hm] at p
    simp only [bind_ok] at p ⊢
    cases hm2 : mb E S1 with
    | ok e S2 =>
      rw [hm2] at p
      simp only [bind_ok] at p ⊢
      cases d with
      | int i =>
        cases e with
        | int j =>
          simp only at p
          split at p
          · rename_i hj
            intro vs w1 x G r rs
            obtain ⟨v, u, rfl, r1, r2⟩ := r.two'
            cases r1
            cases r2
            have h1 := okR_iff.mp hj.1
            have h2 := okR_iff.mp hj.2
            exact ⟨i, j, rfl, ⟨h1.1, h1.2, h2.1, h2.2⟩, p _ w1 x G (its_rng i (j - i).toNat) rs⟩
          · exact p.elim
        | _ => exact p.elim
      | _ => exact p.elim
    | exc c fs S1 => rw [hm2] at p; exact p
    | bad => rw [hm2] at p; exact p.elim
  | exc c fs S1 => rw [hm] at p; exact p
  | bad => rw [hm] at p; exact p.elim
theorem di_enum {p tpos : Pos} {elts : List Expr} {kk : Nat} (hg : Gl X "enumerate") (hm : X.mg "enumerate" = none) (ha : PA X [a] (TAof X.g Wx (aCons ma aNil))) (hs : starEach [a] X.env = [(false, eval a X.env)] := by rfl) : PI X (.Tuple elts kk tpos) (.Call (.Name "enumerate" p) [a] [] pos) (TIof X.g Wx (iEnum ma)) := by
  refine piImp (pi_en hg hm ha hs) fun σ H Q ⟨w, E, S, a, p⟩ => ?_
  refine ⟨w, E, S, a, ?_⟩
  unfold J.iEnum at p
  unfold aCons aNil
  cases hm : ma E S with
  | ok d S1 =>
    rw [hm] at p
    simp only [bind_ok] at p ⊢
    split at p
    · rename_i s hs
      intro vs w1 x G r rs
      obtain ⟨v, rfl, r1⟩ := r.one'
      obtain ⟨q, c, rfl, ec, st, al⟩ := stands_of G rs r1 hs
      obtain ⟨us, sq, _⟩ := st.st w1 S1 (Ext.refl _) rs al
      exact ⟨c, q, us, rfl, sq, p _ w1 x G (its_enum st) rs⟩
    · exact p.elim
  | exc c fs S1 => rw [hm] at p; exact p
  | bad => rw [hm] at p; exact p.elim
theorem di_zip {p tpos : Pos} {elts : List Expr} {kk : Nat} (hg : Gl X "zip") (hm : X.mg "zip" = none) (ha : PA X [a, b] (TAof X.g Wx (aCons ma (aCons mb aNil)))) (hs : starEach [a, b] X.env = (false, eval a X.env) :: starEach [b] X.env := by rfl) (hpl : (backTo pos (starEach [b] X.env)).any (·.1) = false := by rfl) :
    PI X (.Tuple elts kk tpos) (.Call (.Name "zip" p) [a, b] [] pos) (TIof X.g Wx (iZip ma mb)) := by
  refine piImp (pi_zp hg hm ha hs hpl) fun σ H Q ⟨w, E, S, a, p⟩ => ?_
  refine ⟨w, E, S, a, ?_⟩
  unfold J.iZip at p
  unfold aCons aNil
  cases hm : ma E S with
  | ok d S1 =>
    rw [hm] at p
    simp only [bind_ok] at p ⊢
    cases hm2 : mb E S1 with
    | ok e S2 =>
      rw [hm2] at p
      simp only [bind_ok] at p ⊢
      split at p
      · rename_i s t hs ht
        intro vs w1 x G r rs
        obtain ⟨v, u, rfl, r1, r2⟩ := r.two'
        obtain ⟨q, c, rfl, ec, st, al⟩ := stands_of G rs r1 hs
        obtain ⟨q2, c2, rfl, ec2, st2, al2⟩ := stands_of G rs r2 ht
        obtain ⟨us, sq, _⟩ := st.st w1 S2 (Ext.refl _) rs al
        obtain ⟨us2, sq2, _⟩ := st2.st w1 S2 (Ext.refl _) rs al2
        exact ⟨c, c2, q, q2, us, us2, rfl, sq, sq2, p _ w1 x G (its_zip st st2) rs⟩
      · exact p.elim
    | exc c fs S1 => rw [hm2] at p; exact p
    | bad => rw [hm2] at p; exact p.elim
  | exc c fs S1 => rw [hm] at p; exact p
  | bad => rw [hm] at p; exact p.elim
end
end J
set_option Elab.async false
set_option linter.all false
set_option maxRecDepth 100000
set_option maxHeartbeats 1000000
namespace J
open PySem PySem.Spec PyProof.Rows L2
/-! ### to another world -/
structure Weak (w w' : W) : Prop where
  H : ∀ a o, w.H a = some o → ¬ w.thA a → w'.H a = some o
  thA : ∀ a o, w.H a = some o → ¬ w.thA a → ¬ w'.thA a
theorem Weak.dk {w w' : W} (k : Weak w w') {a : Addr} {u : HO} (h : Rd w.H a u) (n : ¬ w.thA a) : Rd w'.H a u ∧ ¬ w'.thA a := by
  rcases h with h | ⟨o, h⟩
  · exact ⟨.inl (k.H a _ h n), k.thA a _ h n⟩
  · exact ⟨.inr ⟨o, k.H a _ h n⟩, k.thA a _ h n⟩
theorem Weak.tup {g : G} {w w' : W} (k : Weak w w') {a : Addr} {vs : List V} (h : TupAt g w a vs) : TupAt g w' a vs := ⟨k.H a _ h.1 h.2, k.thA a _ h.1 h.2⟩
theorem Weak.rdl {g : G} {w w' : W} (k : Weak w w') {a : Addr} {vs : List V} (h : RdlAt g w a vs) : RdlAt g w' a vs := by
  rcases h with ⟨h | ⟨o, h⟩, n⟩ | h
  · exact .inl ⟨.inl (k.H a _ h n), k.thA a _ h n⟩
  · exact .inl ⟨.inr ⟨o, k.H a _ h n⟩, k.thA a _ h n⟩
  · exact .inr h
mutual
theorem RD.flatW {g : G} {w w' : W} (k : Weak w w') : ∀ (d : D) (v : V), d.flat = true → RD g w d v → RD g w' d v
  | .non, _, _, h => h
  | .bl _, _, _, h => h
  | .int _, _, _, h => h
  | .str _, _, _, h => h
  | .ty _, _, _, h => h
  | .tup ds, v, f, h => by
    obtain ⟨a, vs, e, t, r⟩ := h
    exact ⟨a, vs, e, k.tup t, RDs.flatW k ds vs f r⟩
  | .lst ds, v, f, h => by
    obtain ⟨a, vs, e, t, n, r⟩ := h
    exact ⟨a, vs, e, k.H a _ t n, k.thA a _ t n, RDs.flatW k ds vs f r⟩
  | .rdl ds, v, f, h => by
    obtain ⟨a, vs, e, t, r⟩ := h
    exact ⟨a, vs, e, k.rdl t, RDs.flatW k ds vs f r⟩
  | .dct ks ds, v, f, h => by
    obtain ⟨a, vs, e, t, l, n, r⟩ := h
    exact ⟨a, vs, e, (k.dk t n).1, l, (k.dk t n).2, RDs.flatW k ds vs f r⟩
  | .dcT ks ds, v, f, h => by
    obtain ⟨a, vs, e, t, l, n, r⟩ := h
    exact ⟨a, vs, e, (k.dk t n).1, l, (k.dk t n).2, RDs.flatW k ds vs f r⟩
  | .tuk ds, v, f, h => by
    obtain ⟨a, vs, o, e, t, l, n, r⟩ := h
    exact ⟨a, vs, o, e, k.H a _ t n, l, k.thA a _ t n, RDs.flatW k ds vs f r⟩
  | .fn _, _, _, h => h
  | .tab _, _, _, h => h.elim
theorem RDs.flatW {g : G} {w w' : W} (k : Weak w w') : ∀ (ds : List D) (vs : List V), D.flats ds = true → RDs g w ds vs → RDs g w' ds vs
  | [], _, _, h => h
  | d :: ds, vs, f, h => by
    obtain ⟨v, r, e, h1, h2⟩ := h
    simp only [D.flats, Bool.and_eq_true] at f
    exact ⟨v, r, e, RD.flatW k d v f.1 h1, RDs.flatW k ds r f.2 h2⟩
end
mutual
theorem RD.weakW {g : G} {w w' : W} (k : Weak w w') (kr : ∀ (n : Nat) a, w.rhA[n]? = some a → w'.rhA[n]? = some a) : ∀ (d : D) (v : V), RD g w d v → RD g w' d v
  | .non, _, h => h
  | .bl _, _, h => h
  | .int _, _, h => h
  | .str _, _, h => h
  | .ty _, _, h => h
  | .tup ds, v, h => by
    obtain ⟨a, vs, e, t, r⟩ := h
    exact ⟨a, vs, e, k.tup t, RDs.weakW k kr ds vs r⟩
  | .lst ds, v, h => by
    obtain ⟨a, vs, e, t, n, r⟩ := h
    exact ⟨a, vs, e, k.H a _ t n, k.thA a _ t n, RDs.weakW k kr ds vs r⟩
  | .rdl ds, v, h => by
    obtain ⟨a, vs, e, t, r⟩ := h
    exact ⟨a, vs, e, k.rdl t, RDs.weakW k kr ds vs r⟩
  | .dct ks ds, v, h => by
    obtain ⟨a, vs, e, t, l, n, r⟩ := h
    exact ⟨a, vs, e, (k.dk t n).1, l, (k.dk t n).2, RDs.weakW k kr ds vs r⟩
  | .dcT ks ds, v, h => by
    obtain ⟨a, vs, e, t, l, n, r⟩ := h
    exact ⟨a, vs, e, (k.dk t n).1, l, (k.dk t n).2, RDs.weakW k kr ds vs r⟩
  | .tuk ds, v, h => by
    obtain ⟨a, vs, o, e, t, l, n, r⟩ := h
    exact ⟨a, vs, o, e, k.H a _ t n, l, k.thA a _ t n, RDs.weakW k kr ds vs r⟩
  | .loc n, v, h => by
    obtain ⟨a, e, t⟩ := h
    exact ⟨a, e, kr n a t⟩
  | .fn _, _, h => h
  | .kn a P, _, h => ⟨h.1, fun p e => ⟨k.H _ _ (h.2 p e).1 (h.2 p e).2.1, k.thA _ _ (h.2 p e).1 (h.2 p e).2.1, (h.2 p e).2.2⟩⟩
  | .tab _, _, h => h.elim
theorem RDs.weakW {g : G} {w w' : W} (k : Weak w w') (kr : ∀ (n : Nat) a, w.rhA[n]? = some a → w'.rhA[n]? = some a) : ∀ (ds : List D) (vs : List V), RDs g w ds vs → RDs g w' ds vs
  | [], _, h => h
  | d :: ds, vs, h => by
    obtain ⟨v, r, e, h1, h2⟩ := h
    exact ⟨v, r, e, RD.weakW k kr d v h1, RDs.weakW k kr ds r h2⟩
end
theorem TabAt.weak {w w' : W} {q : Str} {a : Addr} (k : Weak w w') (e : w'.H a = w.H a) (h : TabAt w q a) : TabAt w' q a := by
  obtain ⟨ps, h1, h2, h3⟩ := h
  refine ⟨ps, e.trans h1, h2, fun pos cv hc => ?_⟩
  obtain ⟨c, e1, e2, e3⟩ := h3 pos cv hc
  exact ⟨c, e1, k.H c _ e2 e3, k.thA c _ e2 e3⟩
theorem RO.flatW {g : G} {w w' : W} (k : Weak w w') {d : D} {a : Addr} (f : d.flat = true) (e : w'.H a = w.H a) (h : RO g w d a) : RO g w' d a := by
  cases d with
  | tup ds =>
    obtain ⟨ks, es, xs, vs, rfl, h2, h3, h4, h5, h6⟩ := (show RON g w _ a from h)
    simp only [D.flat, D.flats, Bool.and_eq_true, Bool.and_true] at f
    exact ⟨ks, es, xs, vs, rfl, e.trans h2, h3, RDs.flatW k ks _ f.1 h4, RDs.flatW k es vs f.2 h5, h6⟩
  | lst ds =>
    obtain ⟨vs, h1, h2⟩ := h
    exact ⟨vs, e.trans h1, RDs.flatW k ds vs f h2⟩
  | dct ks ds =>
    obtain ⟨vs, h1, l, h2⟩ := h
    exact ⟨vs, e.trans h1, l, RDs.flatW k ds vs f h2⟩
  | dcT ks ds =>
    obtain ⟨vs, h1, l, h2⟩ := h
    exact ⟨vs, e.trans h1, l, RDs.flatW k ds vs f h2⟩
  | tab x => exact ⟨h.1, h.2.weak k e⟩
  | _ => exact h.elim
theorem allFlat {S : List D} {n : Nat} {d : D} (h : S.all D.flat = true) (e : S[n]? = some d) : d.flat = true := by
  rw [List.all_eq_true] at h
  exact h d (List.mem_of_getElem? e)
theorem weak_take {w w' : W} (hH : w'.H = w.H) (hthA : ∀ a, w'.thA a → w.thA a) : Weak w w' := ⟨fun a o h _ => by rw [hH]; exact h, fun a o _ n z => n (hthA a z)⟩
theorem take_store {g : G} {w w' : W} {S : List D} {n : Nat} (k : Weak w w') (hH : w'.H = w.H) (hr : w'.rhA = w.rhA.take n) (hn : n ≤ S.length) (f : (S.take n).all D.flat = true) (rs : RS g w S) : RS g w' (S.take n) := by
  refine ⟨by rw [hr, List.length_take, List.length_take, rs.1], fun m d e => ?_⟩
  have hm : m < n := by
    have := (List.getElem?_eq_some_iff.mp e).1
    rw [List.length_take] at this
    omega
  have e' : S[m]? = some d := by rwa [List.getElem?_take_of_lt hm] at e
  obtain ⟨a, h1, h2⟩ := rs.2 m d e'
  exact ⟨a, by rw [hr, List.getElem?_take_of_lt hm]; exact h1, h2.flatW k (allFlat f e) (by rw [hH])⟩
theorem gone_some {n : Nat} {d0 d : D} (h : gone n (some d0) = some d) : (d0 = d ∧ d0.flat = true) ∨ ∃ m, d0 = .loc m ∧ d = .loc m ∧ m < n := by
  unfold gone at h
  simp only at h
  split at h
  · rename_i hf
    cases h
    exact .inl ⟨rfl, hf⟩
  · split at h
    · rename_i m _
      split at h
      · rename_i hm
        cases h
        exact .inr ⟨_, rfl, rfl, hm⟩
      · cases h
    · cases h
theorem gc_ok {g : G} {w2 w4 : W} {σ : L2.St} {E3 E4 : Env} {S3 S4 : List D} {n : Nat} (h : gcE n E3 S3 = some (E4, S4)) (G4 : Good w4) (re : RE g w4 E3 σ) (rs : RS g w4 S3) (x : Ext w2 w4) (hn : w2.rhA.length = n) :
    ∃ w5, At g w5 E4 σ w4.H S4 ∧ Ext w2 w5 ∧ S4.length = n := by
  unfold gcE at h
  split at h
  · rename_i hl
    cases h
    exact ⟨w4, ⟨rfl, G4, re, rs⟩, x, hl⟩
  · split at h
    · rename_i hh
      cases h
      obtain ⟨τ, e1, f1⟩ := x.rho
      have et : w4.rhA.take n = w2.rhA := by rw [e1, List.take_append_of_le_length (Nat.le_of_eq hn.symm), List.take_of_length_le (Nat.le_of_eq hn)]
      have k : Weak w4 ⟨w4.thA, w4.rhA.take n, w4.H⟩ := weak_take rfl fun _ z => z
      refine ⟨⟨w4.thA, w4.rhA.take n, w4.H⟩, ⟨rfl, ⟨(List.take_sublist n w4.rhA).nodup G4.nd, fun a ha => G4.sub a (List.mem_of_mem_take ha), G4.al, G4.nt⟩, ⟨by simp [re.1], fun i d e => ?_⟩, take_store k rfl rfl hh.1 hh.2 rs⟩, ⟨⟨[], ?_, by simp⟩, x.th1, x.th2, x.kp, x.al⟩, by rw [List.length_take]; omega⟩
      · rw [List.getElem?_map] at e
        cases q : E3[i]? with
        | none => rw [q] at e; cases e
        | some od =>
          rw [q] at e
          cases od with
          | none => cases e
          | some d0 =>
            have e2 : gone n (some d0) = some d := Option.some.inj e
            obtain ⟨v, h1, h2⟩ := re.2 i d0 q
            refine ⟨v, h1, ?_⟩
            rcases gone_some e2 with ⟨rfl, hf⟩ | ⟨m, rfl, rfl, hm⟩
            · exact RD.flatW k _ _ hf h2
            · obtain ⟨a, ea, ha⟩ := h2
              exact ⟨a, ea, by show (w4.rhA.take n)[m]? = some a; rw [List.getElem?_take_of_lt hm]; exact ha⟩
      · show w4.rhA.take n = w2.rhA ++ []
        rw [et, List.append_nil]
    · cases h
section
variable {X : Cx} {Wx : WX} {pos : Pos}
/-! ### for, while -/
theorem ds_for {tg iter : Expr} {body : List Stmt} {mi : MI} {t : Tg} {mb : MS} (hp : PassesOwn (model X.prog X.w) X.A X.env X.xe) (hc : X.calm = true) (hi : PI X tg iter (TIof X.g Wx mi)) (hg : PG X tg (TGof X.g t)) (hb : PSs X body (TSof X.g Wx mb))
    (hs : ∀ x, foldedSetIterable iter X.env x = pure x := by intro _; rfl) : PS X (.For tg iter body [] pos) (TSof X.g Wx (sFor t mi mb)) := by
  refine psImp (ps_for hp hc hi hg hb hs) fun D σ H ⟨w, E, S, a, p⟩ => ⟨w, E, S, a, ?_⟩
  unfold sFor at p
  cases hm : mi E S with
  | bad => rw [hm] at p; exact p.elim
  | exc c fs S1 =>
    rw [hm] at p
    exact fun cls dx w' x G' rx rs => p cls dx σ w' x G' rx (a.env.mono a.good x) rs
  | ok src S1 =>
    rw [hm] at p
    intro J0 w1 x1 G1 it rs1
    have p1 : PO_ X.g Wx D w1 (forGo src t mb S1.length src.len 0 E S1) := p.at x1
    have hn : w1.rhA.length = S1.length := rs1.1.symm
    refine ⟨fun i k σ H => ∃ w2 E2 S2, At X.g w2 E2 σ H S2 ∧ Ext w1 w2 ∧ i + k = src.len ∧ S2.length = S1.length ∧ PO_ X.g Wx D w2 (forGo src t mb S1.length k i E2 S2),
      ⟨src.len, w1, E, S1, ⟨rfl, G1, a.env.mono a.good x1, rs1⟩, Ext.refl _, by omega, rfl, p1⟩, ?_⟩
    rintro i k σ H ⟨w2, E2, S2, a2, x2, hik, hl2, p2⟩
    have hn2 : w2.rhA.length = S1.length := by rw [← a2.sto.1]; exact hl2
    cases k with
    | zero =>
      simp only [forGo] at p2
      split at p2
      · rename_i al
        have hi : i = src.len := by omega
        subst hi
        refine .inl ⟨?_, ?_⟩
        · rw [← a2.hp]
          exact it.stop w2 S2 x2 a2.sto al
        · have := p2 σ w2 (Ext.refl _) a2.good a2.env a2.sto
          rw [a2.hp] at this
          exact this
      · exact p2.elim
    | succ k =>
      simp only [forGo] at p2
      split at p2
      · rename_i al
        split at p2
        · exact p2.elim
        · rename_i d hd
          split at p2
          · exact p2.elim
          · rename_i E1 hE
            have hlt : i < src.len := by omega
            refine .inr ⟨by rw [← a2.hp]; exact it.go i w2 S2 d x2 a2.sto al hd hlt, fun σ' H' => ∃ w2 E2 S2, At X.g w2 E2 σ' H' S2 ∧ Ext w1 w2 ∧ (i + 1) + k = src.len ∧ S2.length = S1.length ∧ PO_ X.g Wx D w2 (forGo src t mb S1.length k (i + 1) E2 S2), fun σ' H' hN => ⟨k, Nat.lt_succ_self k, hN⟩, fun x H' hy => ?_⟩
            rw [← a2.hp] at hy
            obtain ⟨w3, eH, x3, G3, _, _, r3, rs3⟩ := it.yld i w2 S2 d x H' x2 a2.good a2.sto al hd hlt hy
            refine ⟨w3, E2, S2, d, E1, ⟨eH, G3, a2.env.mono a2.good x3, rs3⟩, r3, hE, fun σ' re _ _ => ⟨w3, E1, S2, ⟨eH, G3, re, rs3⟩, ?_⟩⟩
            have p3 := p2.at x3
            have again : ∀ {E3 : Env} {S3 : List J.D}, PO_ X.g Wx D w3 (match gcE S1.length E3 S3 with | some (E3, S3) => forGo src t mb S1.length k (i + 1) E3 S3 | none => O.bad) → ∀ σ' w4, Ext w3 w4 → Good w4 → RE X.g w4 E3 σ' → RS X.g w4 S3 →
                ∃ w2 E2 S2, At X.g w2 E2 σ' w4.H S2 ∧ Ext w1 w2 ∧ (i + 1) + k = src.len ∧ S2.length = S1.length ∧ PO_ X.g Wx D w2 (forGo src t mb S1.length k (i + 1) E2 S2) := fun {E3 S3} q σ' w4 x4 G4 re4 rs4 => by
              split at q
              · rename_i E4 S4 hgc
                have hn3 : w3.rhA.length = S1.length := by rw [← rs3.1]; exact hl2
                obtain ⟨w5, a5, x5, l5⟩ := gc_ok hgc G4 re4 rs4 x4 hn3
                exact ⟨w5, E4, S4, a5, x2.trans (x3.trans x5), by omega, l5, q.at x5⟩
              · exact q.elim
            cases hbd : mb E1 S2 with
            | nx E3 S3 => rw [hbd] at p3; exact again p3
            | ct E3 S3 => rw [hbd] at p3; exact again p3
            | bk E3 S3 => rw [hbd] at p3; exact p3
            | rt d S3 => rw [hbd] at p3; exact p3
            | exc c fs E3 S3 => rw [hbd] at p3; exact p3
            | bad => rw [hbd] at p3; exact p3
      · exact p2.elim
theorem ds_while {c : Expr} {body : List Stmt} {mt : MT} {mb : MS} {fuel : Nat} (hp : PassesOwn (model X.prog X.w) X.A X.env X.xe) (hc : PT X c (TTof X.g Wx mt)) (hb : PSs X body (TSof X.g Wx mb)) : PS X (.While c body [] pos) (TSof X.g Wx (sWhile fuel mt mb)) := by
  refine psImp (ps_while hp hc hb) fun D σ H ⟨w, E, S, a, p⟩ => ?_
  unfold sWhile at p
  have hn : w.rhA.length = S.length := a.sto.1.symm
  refine ⟨fun k σ H => ∃ w2 E2 S2, At X.g w2 E2 σ H S2 ∧ Ext w w2 ∧ S2.length = S.length ∧ PO_ X.g Wx D w2 (whileGo mt mb S.length k E2 S2), ⟨fuel, w, E, S, a, Ext.refl _, rfl, p⟩, ?_⟩
  rintro k σ H ⟨w2, E2, S2, a2, x2, hl2, p2⟩
  have hn2 : w2.rhA.length = S.length := by rw [← a2.sto.1]; exact hl2
  cases k with
  | zero => exact p2.elim
  | succ k =>
    simp only [whileGo] at p2
    refine ⟨w2, E2, S2, a2, ?_⟩
    cases hmt : mt E2 S2 with
    | bad => rw [hmt] at p2; exact p2.elim
    | exc c fs S1 =>
      rw [hmt] at p2
      exact fun cls dx w' x G' rx rs => p2 cls dx σ w' x G' rx (a2.env.mono a2.good x) rs
    | ok c S3 =>
    rw [hmt] at p2
    simp only [tO_ok] at p2
    intro b w3 x3 G3 rb rs3
    obtain rfl : c = b := rb
    cases c with
    | false =>
      rw [if_neg Bool.false_ne_true] at p2 ⊢
      exact p2 σ w3 x3 G3 (a2.env.mono a2.good x3) rs3
    | true =>
      rw [if_pos rfl] at p2 ⊢
      refine ⟨fun σ' H' => ∃ w2 E2 S2, At X.g w2 E2 σ' H' S2 ∧ Ext w w2 ∧ S2.length = S.length ∧ PO_ X.g Wx D w2 (whileGo mt mb S.length k E2 S2), fun σ' H' hN => ⟨k, Nat.lt_succ_self k, hN⟩, w3, E2, S3, ⟨rfl, G3, a2.env.mono a2.good x3, rs3⟩, ?_⟩
      have again : ∀ {E3 : Env} {S4 : List J.D}, PO_ X.g Wx D w2 (match gcE S.length E3 S4 with | some (E3, S3) => whileGo mt mb S.length k E3 S3 | none => O.bad) → ∀ σ' w4, Ext w3 w4 → Good w4 → RE X.g w4 E3 σ' → RS X.g w4 S4 →
          ∃ w2 E2 S2, At X.g w2 E2 σ' w4.H S2 ∧ Ext w w2 ∧ S2.length = S.length ∧ PO_ X.g Wx D w2 (whileGo mt mb S.length k E2 S2) := fun {E3 S4} q σ' w4 x4 G4 re4 rs4 => by
        split at q
        · rename_i E5 S5 hgc
          obtain ⟨w5, a5, x5, l5⟩ := gc_ok hgc G4 re4 rs4 (x3.trans x4) hn2
          exact ⟨w5, E5, S5, a5, x2.trans x5, l5, q.at x5⟩
        · exact q.elim
      cases hbd : mb E2 S3 with
      | nx E3 S3 => rw [hbd] at p2; exact again p2
      | ct E3 S3 => rw [hbd] at p2; exact again p2
      | bk E3 S3 => rw [hbd] at p2; exact p2.at x3
      | rt d S3 => rw [hbd] at p2; exact p2.at x3
      | exc c fs E3 S3 => rw [hbd] at p2; exact p2.at x3
      | bad => rw [hbd] at p2; exact p2
end
end J
set_option Elab.async false
set_option linter.all false
set_option maxRecDepth 100000
set_option maxHeartbeats 1000000
namespace J
open PySem PySem.Spec PyProof.Rows L2
/-! ### comprehensions -/
abbrev W0 : WX := fun _ _ _ _ => False
theorem wipe_get (σ : L2.St) (i : Nat) : ∀ vs : List Nat, (wipe σ vs)[i]? = if i ∈ vs then (σ[i]?).map (fun _ => none) else σ[i]?
  | [] => by simp [wipe]
  | v :: vs => by
    unfold wipe
    by_cases h : i = v
    · subst h
      rw [if_pos (by simp)]
      by_cases hl : i < σ.length
      · rw [List.getElem?_set_self (by rw [wipe_length]; exact hl), List.getElem?_eq_getElem hl]; rfl
      · rw [List.getElem?_eq_none (by rw [List.length_set, wipe_length]; omega), List.getElem?_eq_none (by omega)]; rfl
    · rw [List.getElem?_set_ne (Ne.symm h), wipe_get σ i vs]
      simp [h]
theorem wipeE_get (σ : Env) (i : Nat) : ∀ vs : List Nat, (wipeE σ vs)[i]? = if i ∈ vs then (σ[i]?).map (fun _ => none) else σ[i]?
  | [] => by simp [wipeE]
  | v :: vs => by
    unfold wipeE
    have hlen : ∀ us : List Nat, (wipeE σ us).length = σ.length := fun us => by
      induction us with
      | nil => rfl
      | cons u us ih => unfold wipeE; rw [List.length_set, ih]
    by_cases h : i = v
    · subst h
      rw [if_pos (by simp)]
      by_cases hl : i < σ.length
      · rw [List.getElem?_set_self (by rw [hlen]; exact hl), List.getElem?_eq_getElem hl]; rfl
      · rw [List.getElem?_eq_none (by rw [List.length_set, hlen]; omega), List.getElem?_eq_none (by omega)]; rfl
    · rw [List.getElem?_set_ne (Ne.symm h), wipeE_get σ i vs]
      simp [h]
theorem wipeE_length (E : Env) : ∀ vs : List Nat, (wipeE E vs).length = E.length
  | [] => rfl
  | v :: vs => by unfold wipeE; rw [List.length_set, wipeE_length E vs]
theorem RE.wipe {g : G} {w : W} {E : Env} {σ : L2.St} (h : RE g w E σ) (vs : List Nat) : RE g w (wipeE E vs) (L2.wipe σ vs) := by
  refine ⟨by rw [wipeE_length, wipe_length]; exact h.1, fun i d e => ?_⟩
  rw [wipeE_get] at e
  rw [wipe_get]
  by_cases hi : i ∈ vs
  · rw [if_pos hi] at e
    cases q : E[i]? <;> (rw [q] at e; cases e)
  · rw [if_neg hi] at e ⊢
    exact h.2 i d e
theorem wipe_eq {σ σ' : L2.St} {vs sl : List Nat} (hs : ∀ i, i ∈ sl → i ∈ vs) (h : ∀ i, i ∉ sl → σ'[i]? = (L2.wipe σ vs)[i]?) (hl : σ'.length = (L2.wipe σ vs).length) : L2.wipe σ' vs = L2.wipe σ vs := by
  apply List.ext_getElem?
  intro i
  rw [wipe_length] at hl
  rw [wipe_get, wipe_get]
  by_cases hi : i ∈ vs
  · rw [if_pos hi, if_pos hi]
    by_cases hlt : i < σ.length
    · rw [List.getElem?_eq_getElem hlt, List.getElem?_eq_getElem (by omega)]; rfl
    · rw [List.getElem?_eq_none (by omega), List.getElem?_eq_none (by omega)]
  · rw [if_neg hi, if_neg hi]
    have := h i fun z => hi (hs i z)
    rw [wipe_get, if_neg hi] at this
    exact this
abbrev W.hide (w : W) (p : Addr) (o : HO) : W := ⟨fun a => w.thA a ∨ a = p, w.rhA, upd w.H p o⟩
theorem hide_ext {w : W} {p : Addr} {o : HO} (hp : w.H p = none) : Ext w (w.hide p o) := by
  have x := add_ext (o := o) hp
  exact ⟨⟨[], by simp, by simp⟩, x.th1, x.th2, x.kp, x.al⟩
theorem hide_good {w : W} {p : Addr} {o : HO} (G : Good w) (hp : w.H p = none) (hno : ∀ xs, o ≠ .tup xs := by intro _ z; cases z) : Good (w.hide p o) := by
  have G' := add_good (o := o) G hp hno
  exact ⟨G.nd, fun a h => .inl (G.sub a h), G'.al, G'.nt⟩
theorem weak_upd {w : W} {p : Addr} {o : HO} (hthA : w.thA p) : Weak w { w with H := upd w.H p o } := ⟨fun a u h n => by
  show upd w.H p o a = some u
  rw [upd_ne fun e => n (by rw [e]; exact hthA)]
  exact h, fun a u _ n => n⟩
theorem RO.weakW {g : G} {w w' : W} (k : Weak w w') (kr : ∀ (n : Nat) a, w.rhA[n]? = some a → w'.rhA[n]? = some a) {d : D} {a : Addr} (e : w'.H a = w.H a) (h : RO g w d a) : RO g w' d a := by
  cases d with
  | tup ds =>
    obtain ⟨ks, es, xs, vs, rfl, h2, h3, h4, h5, h6⟩ := (show RON g w _ a from h)
    exact ⟨ks, es, xs, vs, rfl, e.trans h2, h3, RDs.weakW k kr ks _ h4, RDs.weakW k kr es vs h5, h6⟩
  | lst ds =>
    obtain ⟨vs, h1, h2⟩ := h
    exact ⟨vs, e.trans h1, RDs.weakW k kr ds vs h2⟩
  | dct ks ds =>
    obtain ⟨vs, h1, l, h2⟩ := h
    exact ⟨vs, e.trans h1, l, RDs.weakW k kr ds vs h2⟩
  | dcT ks ds =>
    obtain ⟨vs, h1, l, h2⟩ := h
    exact ⟨vs, e.trans h1, l, RDs.weakW k kr ds vs h2⟩
  | tab x => exact ⟨h.1, h.2.weak k e⟩
  | _ => exact h.elim
theorem RS.weakW {g : G} {w w' : W} {S : List D} (k : Weak w w') (hr : w'.rhA = w.rhA) (he : ∀ a, a ∈ w.rhA → w'.H a = w.H a) (h : RS g w S) : RS g w' S := ⟨by rw [hr]; exact h.1, fun n d e => by
  obtain ⟨a, h1, h2⟩ := h.2 n d e
  exact ⟨a, by rw [hr]; exact h1, h2.weakW k (fun n a q => by rw [hr]; exact q) (he a (List.mem_of_getElem? h1))⟩⟩
section
variable {X : Cx} {Wx : WX} {pos : Pos}
theorem dts_nil : PTs X [] (TTof X.g Wx J.tYes) := ⟨fun pins s σ H Q I ⟨w, E, S, a, p⟩ => by
  have := p true w (Ext.refl w) a.good rfl a.sto
  rw [a.hp] at this
  exact pts_nil.run pins s σ H Q I this⟩
theorem dts_one {c : Expr} {mt : MT} (h : PT X c (TTof X.g Wx mt)) : PTs X [c] (TTof X.g Wx mt) := pts_one h
theorem lcUse {own : List Nat} {mi : MI} {t : Tg} {mc : MT} {me m : ME} (hsl : ∀ i, i ∈ t.slots → i ∈ own)
    (hm : (m = eLc own t mi mc me) ∨ (m = eLcL own t mi mc me)) : ∀ (σ : L2.St) H Q, TEof X.g Wx m σ H Q → tLc (TIof X.g Wx mi) (TGof X.g t) (TTof X.g W0 mc) (TEof X.g W0 me) own σ H Q := fun σ H Q ⟨w, E, S, a, p⟩ => by
  -- what is wanted of the whole list
  have p0 : ∃ fin : List D → List D → R D, PR X.g Wx σ w (RD X.g) Q ((lcRun own t mi mc me E S).bind fin) ∧ ∀ (w1 : W) (acc S2 : List D) (vs : List V) (w2 : W) (Dd : Addr), w1.H Dd = none → Good w1 → Good w2 → Ext w1 w2 → Dd ∉ w2.rhA → RS X.g w2 S2 → w2.thA Dd → w2.H Dd = some (.lst vs) → RDs X.g w2 acc vs → PR X.g Wx σ w1 (RD X.g) Q (fin acc S2) → Q (.ref Dd) w2.H := by
    rcases hm with rfl | rfl
    · refine ⟨fun (acc S1 : List D) => (R.ok (D.lst acc) S1 : R D), p, fun w1 acc S2 vs w2 Dd hD G1 G2 x nD rs hthA hDd r q => ?_⟩
      have k : Weak w2 ⟨fun a => w2.thA a ∧ a ≠ Dd, w2.rhA, w2.H⟩ := weak_take rfl fun _ z => z.1
      exact q (.ref Dd) ⟨fun a => w2.thA a ∧ a ≠ Dd, w2.rhA, w2.H⟩ ⟨x.rho, fun a h => ⟨x.th1 a h, fun z => G1.al a h (by rw [z]; exact hD)⟩, fun a h => x.th2 a h.1, x.kp, x.al⟩
        ⟨G2.nd, fun a h => ⟨G2.sub a h, fun z => nD (by rw [← z]; exact h)⟩, fun a h => G2.al a h.1, fun a h => G2.nt a h.1⟩ ⟨Dd, vs, rfl, hDd, fun z => z.2 rfl, RDs.weakW k (fun _ _ h => h) _ _ r⟩ (rs.weakW k rfl fun _ _ => rfl)
    · refine ⟨fun (acc S1 : List D) => (R.ok (D.loc S1.length) (S1 ++ [D.lst acc]) : R D), p, fun w1 acc S2 vs w2 Dd hD G1 G2 x nD rs hthA hDd r q => ?_⟩
      have k : Weak w2 ⟨w2.thA, w2.rhA ++ [Dd], w2.H⟩ := weak_take rfl fun _ z => z
      have kr : ∀ (n : Nat) a, w2.rhA[n]? = some a → (w2.rhA ++ [Dd])[n]? = some a := fun n a h => by
        rw [List.getElem?_append_left (List.getElem?_eq_some_iff.mp h).1]; exact h
      obtain ⟨τ, eτ, fτ⟩ := x.rho
      refine q (.ref Dd) ⟨w2.thA, w2.rhA ++ [Dd], w2.H⟩ ⟨⟨τ ++ [Dd], by show w2.rhA ++ [Dd] = _; rw [eτ, List.append_assoc], fun a h => (List.mem_append.mp h).elim (fτ a) fun h => by rw [List.mem_singleton.mp h]; exact hD⟩, x.th1, x.th2, x.kp, x.al⟩
        ⟨?_, fun a h => ?_, G2.al, G2.nt⟩ ⟨Dd, rfl, by show (w2.rhA ++ [Dd])[S2.length]? = some Dd; rw [rs.1]; simp⟩ ⟨by show (S2 ++ [_]).length = (w2.rhA ++ [Dd]).length; simp [rs.1], fun n d e => ?_⟩
      · show (w2.rhA ++ [Dd]).Nodup
        rw [List.nodup_append]
        refine ⟨G2.nd, by simp, fun a ha b hb e => ?_⟩
        rw [List.mem_singleton.mp hb] at e
        exact nD (by rw [← e]; exact ha)
      · rcases List.mem_append.mp h with h | h
        · exact G2.sub a h
        · rw [List.mem_singleton.mp h]; exact hthA
      · by_cases hn : n < S2.length
        · rw [List.getElem?_append_left hn] at e
          obtain ⟨a, h1, h2⟩ := rs.2 n d e
          exact ⟨a, kr n a h1, h2.weakW k kr rfl⟩
        · have hl : n = S2.length := by
            have := (List.getElem?_eq_some_iff.mp e).1
            simp at this
            omega
          subst hl
          simp at e
          subst e
          exact ⟨Dd, by show (w2.rhA ++ [Dd])[S2.length]? = some Dd; rw [rs.1]; simp, vs, hDd, RDs.weakW k kr _ _ r⟩
  obtain ⟨fin, p, hfin⟩ := p0
  refine ⟨w, E, S, a, ?_⟩
  unfold lcRun at p
  cases hmi : mi E S with
  | bad => rw [hmi] at p; exact p.elim
  | exc c fs S1 => rw [hmi] at p; exact p
  | ok src S1 =>
    rw [hmi] at p
    simp only at p
    split at p
    · rename_i hsz
      intro J0 w1 x1 G1 it rs1 Dd hD
      have p1 := PR.at p x1
      have re1 := a.env.mono a.good x1
      have nD : Dd ∉ w1.rhA := fun z => G1.al Dd (G1.sub Dd z) hD
      refine ⟨fun i k H => ∃ w2 acc vs S2, w2.H = H ∧ Good w2 ∧ RS X.g w2 S2 ∧ Ext w1 w2 ∧ Dd ∉ w2.rhA ∧ S1.length ≤ S2.length ∧ w2.thA Dd ∧ H Dd = some (.lst vs) ∧ RDs X.g w2 acc vs ∧ acc.length ≤ i ∧ i + k = src.len ∧ PR X.g Wx σ w1 (RD X.g) Q ((lcGo src t mc me (wipeE E own) S1.length k i acc S2).bind fin),
        ⟨src.len, w1.hide Dd (.lst []), [], [], S1, rfl, hide_good G1 hD, rs1.keep G1 (hide_ext hD) rfl (fun b hb => upd_ne fun e => nD (by rw [← e]; exact hb)), hide_ext hD, nD, Nat.le_refl _, .inr rfl, upd_same, rfl, Nat.zero_le _, by omega, p1⟩, ?_⟩
      rintro i k H ⟨w2, acc, vs, S2, rfl, G2, rs2, x2, hr2, hl2, hthA2, hD2, r2, hai, hik, p2⟩
      cases k with
      | zero =>
        simp only [lcGo] at p2
        split at p2
        · rename_i al
          have hi : i = src.len := by omega
          subst hi
          exact .inl ⟨it.stop w2 S2 x2 rs2 al, hfin w1 acc S2 vs w2 Dd hD G1 G2 x2 hr2 rs2 hthA2 hD2 r2 p2⟩
        · exact p2.elim
      | succ k =>
        simp only [lcGo] at p2
        split at p2
        · rename_i al
          split at p2
          · exact p2.elim
          · rename_i d hd
            split at p2
            · exact p2.elim
            · rename_i E1 hE
              have hlt : i < src.len := by omega
              refine .inr ⟨it.go i w2 S2 d x2 rs2 al hd hlt, fun H' => ∃ w2 acc vs S2, w2.H = H' ∧ Good w2 ∧ RS X.g w2 S2 ∧ Ext w1 w2 ∧ Dd ∉ w2.rhA ∧ S1.length ≤ S2.length ∧ w2.thA Dd ∧ H' Dd = some (.lst vs) ∧ RDs X.g w2 acc vs ∧ acc.length ≤ i + 1 ∧ (i + 1) + k = src.len ∧ PR X.g Wx σ w1 (RD X.g) Q ((lcGo src t mc me (wipeE E own) S1.length k (i + 1) acc S2).bind fin), fun H' hN => ⟨k, Nat.lt_succ_self k, hN⟩, fun x H' hy => ?_⟩
              obtain ⟨w3, rfl, x3, G3, hr3, hthA3, r3, rs3⟩ := it.yld i w2 S2 d x H' x2 G2 rs2 al hd hlt hy
              have nD2 : Dd ∉ w2.rhA := hr2
              have nD3 : Dd ∉ w3.rhA := by rw [hr3]; exact nD2
              have hthAD3 : w3.thA Dd := x3.th1 Dd hthA2
              have hD3 : w3.H Dd = some (.lst vs) := x3.kpT hD2 nD2 hthA2
              have rw3 : RE X.g w3 (wipeE E own) (L2.wipe σ own) := ((re1.mono G1 x2).mono G2 x3).wipe own
              refine ⟨w3, wipeE E own, S2, d, E1, ⟨rfl, G3, rw3, rs3⟩, r3, hE, fun σ' re hk hl => ⟨wipe_eq hsl hk hl, w3, E1, S2, ⟨rfl, G3, re, rs3⟩, ?_⟩⟩
              cases hc : mc E1 S2 with
              | bad => rw [hc] at p2; exact p2.elim
              | exc c fs S3 => rw [hc] at p2; exact p2.elim
              | ok b S3 =>
                rw [hc] at p2
                simp only at p2
                intro b' w4 x4 G4 rb rs4
                obtain rfl : b = b' := rb
                have rho : ∀ (w5 : W), Ext w3 w5 → Dd ∉ w5.rhA := fun w5 x5 z => by
                  obtain ⟨τ, e5, f5⟩ := x5.rho
                  rw [e5] at z
                  rcases List.mem_append.mp z with z | z
                  · exact nD3 z
                  · have := f5 Dd z
                    rw [hD3] at this
                    cases this
                cases b with
                | false =>
                  rw [if_neg Bool.false_ne_true] at p2 ⊢
                  split at p2
                  · rename_i l3
                    exact ⟨w4, acc, vs, S3, rfl, G4, rs4, x2.trans (x3.trans x4), rho w4 x4, l3, x4.th1 Dd hthAD3, x4.kpT hD3 nD3 hthAD3, (r2.mono G2 (x3.trans x4)), by omega, by omega, p2⟩
                  · exact p2.elim
                | true =>
                  rw [if_pos rfl] at p2 ⊢
                  refine ⟨w4, E1, S3, ⟨rfl, G4, re.mono G3 x4, rs4⟩, ?_⟩
                  cases he : me E1 S3 with
                  | bad => rw [he] at p2; exact p2.elim
                  | exc c fs S3 => rw [he] at p2; exact p2.elim
                  | ok z S4 =>
                    rw [he] at p2
                    simp only at p2
                    split at p2
                    · rename_i l4
                      intro y w5 x5 G5 rz rs5
                      have x35 := x4.trans x5
                      have hr5 := rho w5 x35
                      have hthAD5 : w5.thA Dd := x35.th1 Dd hthAD3
                      have hD5 : w5.H Dd = some (.lst vs) := x35.kpT hD3 nD3 hthAD3
                      have r5 : RDs X.g w5 acc vs := r2.mono G2 (x3.trans x35)
                      have hlen := r5.length
                      refine ⟨vs, hD5, by rw [hlen, ← sl_eq]; omega, ?_⟩
                      have kw : Weak w5 { w5 with H := upd w5.H Dd (.lst (vs ++ [y])) } := weak_upd hthAD5
                      have nD5 : Dd ∉ w5.rhA := hr5
                      have x15 := x2.trans (x3.trans x35)
                      refine ⟨{ w5 with H := upd w5.H Dd (.lst (vs ++ [y])) }, acc ++ [z], vs ++ [y], S4, rfl, put_upd G5, rs5.weakW kw rfl (fun b hb => upd_ne fun e => nD5 (by rw [← e]; exact hb)), ⟨x15.rho, x15.th1, x15.th2, fun b o hb nb => ?_, fun b hb => ?_⟩, hr5, l4, hthAD5, upd_same, RDs.weakW kw (fun _ _ h => h) _ _ (r5.append (RDs.one rz)), by simp; omega, by omega, p2⟩
                      · have hne : b ≠ Dd := fun e => by rw [e, hD] at hb; cases hb
                        rcases x15.kp b o hb nb with q | ⟨nt, od, kvs, eo, q⟩
                        · exact .inl ((upd_ne hne).trans q)
                        · exact .inr ⟨nt, od, kvs, eo, (upd_ne hne).trans q⟩
                      · show upd w5.H Dd _ b ≠ none
                        by_cases e : b = Dd
                        · rw [e, upd_same]; simp
                        · rw [upd_ne e]; exact x15.al b hb
                    · exact p2.elim
        · exact p2.elim
    · exact p.elim
theorem de_lc {elt tg iter : Expr} {ifs : List Expr} {scope : Scope} {own : List (Str × Nat)} {mi : MI} {t : Tg} {mc : MT} {me m : ME} (hsl : ∀ i, i ∈ t.slots → i ∈ own.map (·.2)) (hm : (m = eLc (own.map (·.2)) t mi mc me) ∨ (m = eLcL (own.map (·.2)) t mi mc me))
    (h : PE X (.ListComp elt [⟨tg, iter, ifs, 0⟩] scope pos) (tLc (TIof X.g Wx mi) (TGof X.g t) (TTof X.g W0 mc) (TEof X.g W0 me) (own.map (·.2)))) : PE X (.ListComp elt [⟨tg, iter, ifs, 0⟩] scope pos) (TEof X.g Wx m) := peImp h (lcUse hsl hm)
theorem ds_setT {st : Stmt} {i : Nat} {t0 : TE} {me : ME} (h : PS X st (tAsg t0 (gName i))) (f : ∀ σ H Q, TEof X.g Wx me σ H Q → t0 σ H Q) : PS X st (TSof X.g Wx (sSet i me)) := by
  refine psImp h fun D σ H ⟨w, E, S, a, p⟩ => f σ H _ ⟨w, E, S, a, PR.imp (PO_.bind a.good a.env p) fun x H1 ⟨w1, d, S1, a1, x1, r1, p1⟩ => ?_⟩
  have := p1 _ w1 (Ext.refl w1) a1.good (a1.env.set r1) a1.sto
  rw [a1.hp] at this
  exact this
end
end J
set_option Elab.async false
set_option linter.all false
set_option maxRecDepth 100000
set_option maxHeartbeats 1000000
namespace J
open PySem PySem.Spec PyProof.Rows L2
/-! ### calls -/
def PF (g : G) (w : W) (Q : VK) (E : XK) : R D → Prop
  | .ok d S => ∀ v w', Ext w w' → w'.rhA = w.rhA → Good w' → RD g w' d v → RS g w' S → Q v w'.H
  | .exc c fs S => ∀ cls dx w', Ext w w' → w'.rhA = w.rhA → Good w' → RX g w' c fs cls dx → RS g w' S → E cls dx w'.H
  | .bad => False
def spF (g : G) (np : Nat) (F : MF) : Sp := fun vs H Q E => ∃ w ds S, w.H = H ∧ Good w ∧ RDs g w ds vs ∧ RS g w S ∧ ds.length = np ∧ PF g w Q E (F ds S)
theorem spF_len {g : G} {np : Nat} {F : MF} {ps : List Str} (h : ps.length = np) : ∀ vs H Q E, spF g np F vs H Q E → vs.length = ps.length := fun vs H Q E ⟨w, ds, S, _, _, r, _, l, _⟩ => by rw [r.length, l, h]
theorem byRef_ok {g : G} {w : W} : ∀ {ds ds' : List D} {ns : List Nat} {vs : List V} (k : Nat), byRef ds k = some (ds', ns) → RDs g w ds vs →
    ns.Nodup ∧ (∀ n ∈ ns, n < w.rhA.length) ∧ ds'.length = ds.length ∧ ∀ (rhA : List Addr), (∀ (j n : Nat), ns[j]? = some n → rhA[k + j]? = w.rhA[n]?) → RDs g ⟨w.thA, rhA, w.H⟩ ds' vs
  | [], _, _, _, k, h, r => by
    simp only [byRef, Option.some.injEq, Prod.mk.injEq] at h
    obtain ⟨rfl, rfl⟩ := h
    cases r
    exact ⟨List.nodup_nil, by simp, rfl, fun _ _ => rfl⟩
  | d :: ds, ds', ns, vs, k, h, r => by
    obtain ⟨v, us, rfl, r1, r2⟩ := r
    have flatCase : ∀ (hf : d.flat = true), (byRef ds k).map (fun p => (d :: p.1, p.2)) = some (ds', ns) → ns.Nodup ∧ (∀ n ∈ ns, n < w.rhA.length) ∧ ds'.length = (d :: ds).length ∧ ∀ (rhA : List Addr), (∀ (j n : Nat), ns[j]? = some n → rhA[k + j]? = w.rhA[n]?) → RDs g ⟨w.thA, rhA, w.H⟩ ds' (v :: us) := fun hf h => by
      cases e : byRef ds k with
      | none => rw [e] at h; cases h
      | some p =>
        obtain ⟨ds1, ns1⟩ := p
        rw [e] at h
        simp only [Option.map_some, Option.some.injEq, Prod.mk.injEq] at h
        obtain ⟨rfl, rfl⟩ := h
        obtain ⟨n1, n2, n3, n4⟩ := byRef_ok k e r2
        refine ⟨n1, n2, by simp [n3], fun rhA hrhA => RDs.cons ?_ (n4 rhA hrhA)⟩
        exact RD.flatW (weak_take (w := w) (w' := ⟨w.thA, rhA, w.H⟩) rfl fun _ z => z) _ _ hf r1
    cases d with
    | loc n =>
      simp only [byRef] at h
      cases e : byRef ds (k + 1) with
      | none => rw [e] at h; cases h
      | some p =>
        obtain ⟨ds1, ns1⟩ := p
        rw [e] at h
        simp only [Option.bind_some] at h
        split at h
        · cases h
        · rename_i hc
          simp only [Option.some.injEq, Prod.mk.injEq] at h
          obtain ⟨rfl, rfl⟩ := h
          obtain ⟨n1, n2, n3, n4⟩ := byRef_ok (k + 1) e r2
          obtain ⟨a, rfl, ha⟩ := r1
          refine ⟨List.nodup_cons.mpr ⟨by simpa using hc, n1⟩, fun m hm => ?_, by simp [n3], fun rhA hrhA => RDs.cons ⟨a, rfl, ?_⟩ (n4 rhA fun j m hj => ?_)⟩
          · rcases List.mem_cons.mp hm with rfl | hm
            · exact (List.getElem?_eq_some_iff.mp ha).1
            · exact n2 m hm
          · have := hrhA 0 n (by simp)
            rw [Nat.add_zero] at this
            show rhA[k]? = some a
            rw [this]; exact ha
          · have := hrhA (j + 1) m (by simpa using hj)
            rw [← this]
            congr 1
            omega
    | non => exact flatCase rfl (by simpa only [byRef, D.flat, if_true] using h)
    | bl b => exact flatCase rfl (by simpa only [byRef, D.flat, if_true] using h)
    | int b => exact flatCase rfl (by simpa only [byRef, D.flat, if_true] using h)
    | str b => exact flatCase rfl (by simpa only [byRef, D.flat, if_true] using h)
    | ty b => exact flatCase rfl (by simpa only [byRef, D.flat, if_true] using h)
    | fn b => exact flatCase rfl (by simpa only [byRef, D.flat, if_true] using h)
    | kn b P =>
      simp only [byRef] at h
      split at h
      · rename_i hf; cases hf
      · cases h
    | tab b => exact r1.elim
    | tup b =>
      simp only [byRef] at h
      split at h
      · rename_i hf; exact flatCase hf h
      · cases h
    | lst b =>
      simp only [byRef] at h
      split at h
      · rename_i hf; exact flatCase hf h
      · cases h
    | rdl b =>
      simp only [byRef] at h
      split at h
      · rename_i hf; exact flatCase hf h
      · cases h
    | dct ks b =>
      simp only [byRef] at h
      split at h
      · rename_i hf; exact flatCase hf h
      · cases h
    | dcT ks b =>
      simp only [byRef] at h
      split at h
      · rename_i hf; exact flatCase hf h
      · cases h
    | tuk b =>
      simp only [byRef] at h
      split at h
      · rename_i hf; exact flatCase hf h
      · cases h
theorem mapM_some {α β : Type} {f : α → Option β} : ∀ {l : List α} {r : List β}, l.mapM f = some r → r.length = l.length ∧ ∀ (j : Nat) x, l[j]? = some x → ∃ y, r[j]? = some y ∧ f x = some y
  | [], r, h => by
    simp at h
    subst h
    exact ⟨rfl, by simp⟩
  | x :: l, r, h => by
    rw [List.mapM_cons] at h
    cases e : f x with
    | none => rw [e] at h; cases h
    | some y =>
      rw [e] at h
      cases e2 : l.mapM f with
      | none => rw [e2] at h; cases h
      | some ys =>
        rw [e2] at h
        cases h
        obtain ⟨h1, h2⟩ := mapM_some e2
        refine ⟨by simp [h1], fun j z hj => ?_⟩
        cases j with
        | zero => simp at hj; subst hj; exact ⟨y, rfl, e⟩
        | succ j => exact h2 j z (by simpa using hj)
theorem setAll_len : ∀ (S : List D) (ns : List Nat) (T : List D), (setAll S ns T).length = S.length
  | S, [], _ => by cases ‹List D› <;> rfl
  | S, n :: ns, [] => rfl
  | S, n :: ns, d :: T => by
    show (setAll (S.set n d) ns T).length = _
    rw [setAll_len, List.length_set]
theorem setAll_get : ∀ {S : List D} {ns : List Nat} {T : List D} (m : Nat), ns.Nodup → T.length = ns.length → (∀ n ∈ ns, n < S.length) → (setAll S ns T)[m]? = match ns.idxOf? m with | some j => T[j]? | none => S[m]?
  | S, [], T, m, _, _, _ => by cases T <;> simp [setAll]
  | S, n :: ns, [], m, _, hl, _ => by simp at hl
  | S, n :: ns, d :: T, m, hn, hl, hb => by
    obtain ⟨h1, h2⟩ := List.nodup_cons.mp hn
    show (setAll (S.set n d) ns T)[m]? = _
    rw [setAll_get m h2 (by simpa using hl) (fun k hk => by rw [List.length_set]; exact hb k (List.mem_cons_of_mem _ hk))]
    rw [List.idxOf?_cons]
    by_cases hm : n = m
    · subst hm
      have : ns.idxOf? n = none := by rw [List.idxOf?_eq_none_iff]; exact h1
      rw [this]
      simp only [BEq.rfl, if_true]
      rw [List.getElem?_set_self (hb n List.mem_cons_self)]
      rfl
    · have hb' : (n == m) = false := by simpa using hm
      rw [hb']
      cases e : ns.idxOf? m with
      | none => simp [List.getElem?_set_ne hm]
      | some j => simp
theorem back_ok {g : G} {w1 wc wc' : W} {S1 S' : List D} {ns : List Nat} (G1 : Good w1) (rs : RS g w1 S1) (hn : ns.Nodup) (hb : ∀ n ∈ ns, n < w1.rhA.length) (hH : wc.H = w1.H) (hthA : wc.thA = w1.thA)
    (hrhA : wc.rhA.length = ns.length) (hrhA2 : ∀ (j n : Nat), ns[j]? = some n → wc.rhA[j]? = w1.rhA[n]?) (x : Ext wc wc') (hr : wc'.rhA = wc.rhA) (G' : Good wc') (rs' : RS g wc' S') (hl : S'.length = ns.length) (hf : S'.all D.flat = true) :
    Ext w1 ⟨wc'.thA, w1.rhA, wc'.H⟩ ∧ Good ⟨wc'.thA, w1.rhA, wc'.H⟩ ∧ RS g ⟨wc'.thA, w1.rhA, wc'.H⟩ (setAll S1 ns S') := by
  have sub : ∀ a, a ∈ wc.rhA → a ∈ w1.rhA := fun a ha => by
    obtain ⟨j, hj⟩ := List.mem_iff_getElem?.mp ha
    have hjl : j < ns.length := by rw [← hrhA]; exact (List.getElem?_eq_some_iff.mp hj).1
    have e := hrhA2 j ns[j] (List.getElem?_eq_getElem hjl)
    rw [hj] at e
    exact List.mem_of_getElem? e.symm
  have x1 : Ext w1 ⟨wc'.thA, w1.rhA, wc'.H⟩ := by
    refine ⟨⟨[], by simp, by simp⟩, fun a h => x.th1 a (by rw [hthA]; exact h), fun a h => ?_, fun a o h n => (x.kp a o (by rw [hH]; exact h) fun z => n (sub a z)).imp id (fun ⟨nt, q⟩ => ⟨by rw [← hthA]; exact nt, q⟩), fun a h => x.al a (by rw [hH]; exact h)⟩
    rcases x.th2 a h with z | z
    · rw [hthA] at z; exact .inl z
    · rw [hH] at z; exact .inr z
  have G1' : Good ⟨wc'.thA, w1.rhA, wc'.H⟩ := ⟨G1.nd, fun a h => x.th1 a (by rw [hthA]; exact G1.sub a h), G'.al, G'.nt⟩
  refine ⟨x1, G1', by rw [setAll_len]; exact rs.1, fun m d e => ?_⟩
  rw [setAll_get m hn hl (fun n h => by rw [rs.1]; exact hb n h)] at e
  cases q : ns.idxOf? m with
  | some j =>
    rw [q] at e
    simp only at e
    have hj : ns[j]? = some m := by
      have := List.idxOf?_eq_some_iff.mp q
      obtain ⟨hlt, hq, _⟩ := this
      rw [List.getElem?_eq_getElem hlt]
      simpa using hq
    obtain ⟨a, h1, h2⟩ := rs'.2 j d e
    refine ⟨a, ?_, h2.flatW (weak_take (w := wc') (w' := ⟨wc'.thA, w1.rhA, wc'.H⟩) rfl fun _ z => z) (allFlat hf e) rfl⟩
    show w1.rhA[m]? = some a
    rw [← hrhA2 j m hj, ← hr]
    exact h1
  | none =>
    rw [q] at e
    simp only at e
    have hm : m ∉ ns := by rwa [List.idxOf?_eq_none_iff] at q
    obtain ⟨a, h1, h2⟩ := rs.2 m d e
    refine ⟨a, h1, h2.mono G1 x1 ?_⟩
    have na : a ∉ wc.rhA := fun ha => by
      obtain ⟨j, hj⟩ := List.mem_iff_getElem?.mp ha
      have hjl : j < ns.length := by rw [← hrhA]; exact (List.getElem?_eq_some_iff.mp hj).1
      have e := hrhA2 j ns[j] (List.getElem?_eq_getElem hjl)
      rw [hj] at e
      have := nd_ix G1.nd h1 e.symm
      exact hm (by rw [this]; exact List.getElem_mem hjl)
    show wc'.H a = w1.H a
    rcases none_or (H := w1.H) a with z | ⟨o, z⟩
    · exact absurd z h2.there
    · rw [z]; exact x.kpT (by rw [hH]; exact z) na (by rw [hthA]; exact G1.sub a (List.mem_of_getElem? h1))
structure Fok (P : Program) (wd : World) (g : G) (base : Heap) (k : Nat) (x : Str) (np : Nat) (F : MF) : Prop where
  ex : ∃ (f : Addr) (fd : FuncData) (ps : List Str), FnOk P wd g.K g.mg base (L2.CX P wd) k f fd ps (spF g np F) ∧ g.mg x = some (.ref f) ∧ PySem.W.keepIn g.K (.ref f) = true ∧ Binds g.K fd ps []
theorem Fok.mono {P : Program} {wd : World} {g : G} {base : Heap} {j k : Nat} {x : Str} {np : Nat} {F : MF} (h : Fok P wd g base j x np F) (hk : j ≤ k) : Fok P wd g base k x np F := by
  obtain ⟨f, fd, ps, a, b⟩ := h.ex
  exact ⟨f, fd, ps, a.mono hk, b⟩
section
variable {X : Cx} {Wx : WX} {pos : Pos}
theorem allSnd : ∀ {fs : List (Str × D)}, fs.all (fun p => p.2.flat) = true → D.flats (fs.map (·.2)) = true
  | [], _ => rfl
  | p :: fs, f => by
    rw [List.all_cons, Bool.and_eq_true] at f
    simp only [List.map_cons, D.flats, Bool.and_eq_true]
    exact ⟨f.1, allSnd f.2⟩
theorem RX.flatW {g : G} {w w' : W} (k : Weak w w') {c : Str} {fs : List (Str × D)} {cls : Value} {dx : Option Addr} (f : fs.all (fun p => p.2.flat) = true) (h : RX g w c fs cls dx) : RX g w' c fs cls dx := by
  obtain ⟨C, h1, h2, h3⟩ := h
  refine ⟨C, h1, h2, h3.imp id fun ⟨d, vs, e0, e, hd, n, r⟩ => ⟨d, vs, e0, e, k.H d _ hd n, k.thA d _ hd n, RDs.flatW k _ _ ?_ r⟩⟩
  exact allSnd f
theorem callUse {np : Nat} {F : MF} (hnp : True) : ∀ (σ : L2.St) (w1 : W) (ds S1 : List D) (vs : List V) (Q : VK), Good w1 → RDs X.g w1 ds vs → RS X.g w1 S1 → ds.length = np → PR X.g Wx σ w1 (RD X.g) Q (callF F ds S1) → spF X.g np F vs w1.H Q (WE Wx σ) := fun σ w1 ds S1 vs Q G1 r rs hl p => by
  unfold callF at p
  split at p
  · exact p.elim
  · rename_i ds' ns hb
    obtain ⟨n1, n2, n3, n4⟩ := byRef_ok 0 hb r
    split at p
    · exact p.elim
    · rename_i Sc hm
      obtain ⟨m1, m2⟩ := mapM_some hm
      split at p
      · rename_i hfl
        have hrhA : ∀ (j n : Nat), ns[j]? = some n → (ns.map fun n => w1.rhA.getD n 0)[j]? = w1.rhA[n]? := fun j n hj => by
          have hn := n2 n (List.mem_of_getElem? hj)
          rw [List.getElem?_map, hj, Option.map_some, List.getD_eq_getElem?_getD, List.getElem?_eq_getElem hn]
          rfl
        have r' := n4 (ns.map fun n => w1.rhA.getD n 0) (fun j n hj => by rw [Nat.zero_add]; exact hrhA j n hj)
        have Gc : Good ⟨w1.thA, ns.map fun n => w1.rhA.getD n 0, w1.H⟩ := by
          refine ⟨?_, fun a ha => ?_, G1.al, G1.nt⟩
          · show (ns.map fun n => w1.rhA.getD n 0).Nodup
            refine List.pairwise_map.mpr (List.Pairwise.imp_of_mem (fun {a b} ha hb hab e => hab ?_) n1)
            have b1 := n2 a ha
            have b2 := n2 b hb
            rw [List.getD_eq_getElem?_getD, List.getD_eq_getElem?_getD, List.getElem?_eq_getElem b1, List.getElem?_eq_getElem b2] at e
            exact nd_ix G1.nd (List.getElem?_eq_getElem b1) (by rw [List.getElem?_eq_getElem b2]; exact congrArg some e.symm)
          · obtain ⟨n, hn, rfl⟩ := List.mem_map.mp ha
            have hb := n2 n hn
            apply G1.sub
            rw [List.getD_eq_getElem?_getD, List.getElem?_eq_getElem hb]
            exact List.getElem_mem hb
        have rsc : RS X.g ⟨w1.thA, ns.map fun n => w1.rhA.getD n 0, w1.H⟩ Sc := by
          refine ⟨by rw [m1, List.length_map], fun j d e => ?_⟩
          have hj : j < ns.length := by rw [← m1]; exact (List.getElem?_eq_some_iff.mp e).1
          obtain ⟨y, hy, hy2⟩ := m2 j ns[j] (List.getElem?_eq_getElem hj)
          rw [e] at hy
          cases hy
          obtain ⟨a, h1, h2⟩ := rs.2 ns[j] d hy2
          refine ⟨a, ?_, h2.flatW (weak_take (w := w1) (w' := ⟨w1.thA, ns.map fun n => w1.rhA.getD n 0, w1.H⟩) rfl fun _ z => z) (allFlat hfl e) rfl⟩
          show (ns.map fun n => w1.rhA.getD n 0)[j]? = some a
          rw [hrhA j ns[j] (List.getElem?_eq_getElem hj)]
          exact h1
        refine ⟨⟨w1.thA, ns.map fun n => w1.rhA.getD n 0, w1.H⟩, ds', Sc, rfl, Gc, r', rsc, by rw [n3]; exact hl, ?_⟩
        cases hF : F ds' Sc with
        | bad => rw [hF] at p; exact p.elim
        | exc c fs S' =>
          rw [hF] at p
          simp only at p
          split at p
          · rename_i hh
            intro cls dx wc' x hr G' rx rs'
            obtain ⟨b1, b2, b3⟩ := back_ok (wc := ⟨w1.thA, ns.map fun n => w1.rhA.getD n 0, w1.H⟩) G1 rs n1 n2 rfl rfl (by show (ns.map _).length = _; rw [List.length_map]) hrhA x hr G' rs' hh.1 hh.2.1
            exact p cls dx ⟨wc'.thA, w1.rhA, wc'.H⟩ b1 b2 (RX.flatW (weak_take (w := wc') (w' := ⟨wc'.thA, w1.rhA, wc'.H⟩) rfl fun _ z => z) hh.2.2 rx) b3
          · exact p.elim
        | ok d S' =>
          rw [hF] at p
          simp only at p
          split at p
          · rename_i hh
            intro v wc' x hr G' rd rs'
            obtain ⟨b1, b2, b3⟩ := back_ok (wc := ⟨w1.thA, ns.map fun n => w1.rhA.getD n 0, w1.H⟩) G1 rs n1 n2 rfl rfl (by show (ns.map _).length = _; rw [List.length_map]) hrhA x hr G' rs' hh.2.1 hh.2.2
            exact p v ⟨wc'.thA, w1.rhA, wc'.H⟩ b1 b2 (RD.flatW (weak_take (w := wc') (w' := ⟨wc'.thA, w1.rhA, wc'.H⟩) rfl fun _ z => z) _ _ hh.1 rd) b3
          · exact p.elim
      · exact p.elim
theorem de_call {x : Str} {k j np : Nat} {F : MF} {p : Pos} {e : Expr} {es : List Expr} {mr : MA} (h : Fok X.prog X.w X.g X.base k x np F) (hk : k ≤ j) (hr : Room j X.A) (tk : Takes X Wx) (hg : Gl X x) (hln : (e :: es).length = np) (ha : PA X (e :: es) (TAof X.g Wx mr))
    (hdb : (x == ("__debug__" : Str)) = false := by decide) (he : starEach (e :: es) X.env = (false, eval e X.env) :: starEach es X.env := by rfl) (hpl : (backTo pos (starEach es X.env)).any (·.1) = false := by rfl)
    (hlen : ∀ E S ds S', mr E S = .ok ds S' → ds.length = np) : PE X (.Call (.Name x p) (e :: es) [] pos) (TEof X.g Wx (eArgs (callF F) mr)) := by
  obtain ⟨f, fd, ps, hF, hm, kp, b⟩ := h.ex
  refine peImp (pe_callS hF (hr.mono hk) hg hm kp b (fun σ => passAt tk σ) ha hdb he hpl) fun σ H Q ⟨w, E, S, a, p⟩ => ?_
  refine ⟨w, E, S, a, ?_⟩
  have p' : PR X.g Wx σ w (RD X.g) Q ((mr E S).bind fun xs S1 => callF F xs S1) := p
  cases hm : mr E S with
  | bad => rw [hm] at p'; exact p'.elim
  | exc c fs S1 => rw [hm] at p'; exact p'
  | ok ds S1 =>
    rw [hm] at p'
    intro vs w1 x1 G1 r rs
    have p2 : PR X.g Wx σ w1 (RD X.g) Q (callF F ds S1) := PR.at p' x1
    exact callUse trivial σ w1 ds S1 vs Q G1 r rs (hlen _ _ _ _ hm) p2
theorem alen_nil : ∀ E S ds S', aNil E S = .ok ds S' → ds.length = 0 := fun E S ds S' h => by cases h; rfl
theorem alen_cons {ma : ME} {mr : MA} {n : Nat} (h : ∀ E S ds S', mr E S = .ok ds S' → ds.length = n) : ∀ E S ds S', aCons ma mr E S = .ok ds S' → ds.length = n + 1 := fun E S ds S' q => by
  unfold aCons at q
  cases e : ma E S with
  | bad => rw [e] at q; cases q
  | exc c fs S1 => rw [e] at q; cases q
  | ok d S1 =>
    rw [e] at q
    simp only [bind_ok] at q
    cases e2 : mr E S1 with
    | bad => rw [e2] at q; cases q
    | exc c fs S2 => rw [e2] at q; cases q
    | ok es S2 =>
      rw [e2] at q
      cases q
      simp [h _ _ _ _ e2]
/-! ### defs -/
theorem fz_ok {g : G} {w w1 : W} (G0 : Good w) (G1 : Good w1) (x : Ext w w1) {S : List D} (rs : RS g w1 S) : ∀ (n : Nat) (d d' : D) (v : V), fz w.rhA.length S n d = some d' → RD g w1 d v → RD g ⟨w.thA, w.rhA, w1.H⟩ d' v
  | 0, _, _, _, h, _ => by cases h
  | n + 1, d, d', v, h, r => by
    have kw : Weak w1 ⟨w.thA, w.rhA, w1.H⟩ := weak_take rfl x.th1
    unfold fz at h
    split at h
    · rename_i hf
      cases h
      exact RD.flatW kw _ _ hf r
    · have many : ∀ (ds ds' : List D) (vs : List V), ds.mapM (fz w.rhA.length S n) = some ds' → RDs g w1 ds vs → RDs g ⟨w.thA, w.rhA, w1.H⟩ ds' vs := fun ds => by
        induction ds with
        | nil =>
          intro ds' vs e r
          simp at e
          subst e
          cases r
          rfl
        | cons d0 ds ih =>
          intro ds' vs e r
          obtain ⟨u, us, rfl, r1, r2⟩ := r
          rw [List.mapM_cons] at e
          cases e1 : fz w.rhA.length S n d0 with
          | none => rw [e1] at e; cases e
          | some d1 =>
            rw [e1] at e
            cases e2 : ds.mapM (fz w.rhA.length S n) with
            | none => rw [e2] at e; cases e
            | some ds1 =>
              rw [e2] at e
              cases e
              exact RDs.cons (fz_ok G0 G1 x rs n d0 d1 u e1 r1) (ih ds1 us e2 r2)
      split at h
      · rename_i m _
        split at h
        · cases h
        · rename_i hm
          obtain ⟨a, rfl, ha⟩ := r
          have nthA : ¬ w.thA a := fun z => by
            obtain ⟨τ, e1, f1⟩ := x.rho
            rw [e1, List.getElem?_append_right (by omega)] at ha
            have := f1 a (List.mem_of_getElem? ha)
            exact G0.al a z this
          split at h
          · rename_i ds e
            cases q : ds.mapM (fz w.rhA.length S n) with
            | none => rw [q] at h; cases h
            | some ds1 =>
              rw [q] at h
              cases h
              obtain ⟨vs, h1, h2⟩ := rs.obj ha e
              exact ⟨a, vs, rfl, h1, nthA, many _ _ _ q h2⟩
          · rename_i ks ds e
            cases q : ds.mapM (fz w.rhA.length S n) with
            | none => rw [q] at h; cases h
            | some ds1 =>
              rw [q] at h
              cases h
              obtain ⟨vs, h1, l, h2⟩ := rs.obj ha e
              exact ⟨a, vs, rfl, .inl h1, l, nthA, many _ _ _ q h2⟩
          · rename_i ks ds e
            cases q : ds.mapM (fz w.rhA.length S n) with
            | none => rw [q] at h; cases h
            | some ds1 =>
              rw [q] at h
              cases h
              obtain ⟨vs, h1, l, h2⟩ := rs.obj ha e
              exact ⟨a, vs, rfl, .inl h1, l, nthA, many _ _ _ q h2⟩
          · cases h
      · rename_i ds _
        cases q : ds.mapM (fz w.rhA.length S n) with
        | none => rw [q] at h; cases h
        | some ds1 =>
          rw [q] at h
          cases h
          obtain ⟨a, vs, rfl, t, r2⟩ := r
          exact ⟨a, vs, rfl, kw.tup t, many _ _ _ q r2⟩
      · rename_i ds _
        cases q : ds.mapM (fz w.rhA.length S n) with
        | none => rw [q] at h; cases h
        | some ds1 =>
          rw [q] at h
          cases h
          obtain ⟨a, vs, rfl, t, nn, r2⟩ := r
          exact ⟨a, vs, rfl, t, fun z => nn (x.th1 a z), many _ _ _ q r2⟩
      · cases h
theorem ret_ext {w w1 : W} (x : Ext w w1) : Ext w ⟨w.thA, w.rhA, w1.H⟩ := ⟨⟨[], by simp, by simp⟩, fun _ h => h, fun _ h => .inl h, x.kp, x.al⟩
theorem ret_good {w w1 : W} (G0 : Good w) (G1 : Good w1) (x : Ext w w1) : Good ⟨w.thA, w.rhA, w1.H⟩ := ⟨G0.nd, G0.sub, fun a h => x.al a (G0.al a h), fun a h => G1.nt a (x.th1 a h)⟩
theorem ret_store {g : G} {w w1 : W} {S1 : List D} (x : Ext w w1) (rs : RS g w1 S1) (hn : w.rhA.length ≤ S1.length) (hf : (S1.take w.rhA.length).all D.flat = true) : RS g ⟨w.thA, w.rhA, w1.H⟩ (S1.take w.rhA.length) := by
  obtain ⟨τ, e1, f1⟩ := x.rho
  refine take_store (w := w1) (weak_take rfl x.th1) rfl ?_ hn hf rs
  show w.rhA = w1.rhA.take w.rhA.length
  rw [e1, List.take_append_of_le_length (Nat.le_refl _), List.take_of_length_le (Nat.le_refl _)]
theorem RE.start {g : G} {w : W} {ds : List D} {vs : List V} (r : RDs g w ds vs) (nn : Nat) : RE g w (ds.map some ++ List.replicate (nn - ds.length) none) (vs.map some ++ List.replicate (nn - vs.length) none) := by
  have hl := r.length
  refine ⟨by simp [hl], fun i d e => ?_⟩
  by_cases hi : i < ds.length
  · rw [List.getElem?_append_left (by simpa using hi), List.getElem?_map, List.getElem?_eq_getElem hi] at e
    simp only [Option.map_some, Option.some.injEq] at e
    obtain ⟨v, h1, h2⟩ := r.get (List.getElem?_eq_getElem hi)
    subst e
    refine ⟨v, ?_, h2⟩
    rw [List.getElem?_append_left (by simpa [hl] using hi), List.getElem?_map, h1]
    rfl
  · rw [List.getElem?_append_right (by simpa using hi), List.getElem?_replicate] at e
    split at e <;> cases e
structure Ctx (X : Cx) (Wx : WX) (k : Nat) : Prop where
  tk : Takes X Wx
  po : PassesOwn (model X.prog X.w) X.A X.env X.xe
  calm : X.calm = true
  hr : Room k X.A
theorem Ctx.u1 {X : Cx} {Wx : WX} {k : Nat} (c : Ctx X Wx k) : X.A.units + 1 < cLine := hu_of c.hr
theorem Ctx.u64 {X : Cx} {Wx : WX} {k : Nat} (c : Ctx X Wx k) : X.A.units + 64 < cLine := c.hr.units
theorem Ctx.blk {X : Cx} {Wx : WX} {k : Nat} (c : Ctx X Wx k) (s : Shared) (H : Hp) (scope : Scope) (ce : PySem.Env) (fp : List Addr) : Ctx (X.blk s H scope ce fp) W0 k := ⟨takes0, PassesOwn.never, c.calm, c.hr⟩
abbrev bodyCx (P : Program) (wd : World) (K : PySem.W.Frag) (mg : Str → Option Value) (base : Heap) (N : List Str) (x : Str) (st : Stmt) (f : Addr) (cdv : Value) (A : Around) (outer : List PySem.Env) (s : Shared) (H : Hp) (E : XK) : Cx := cxOf (L2.CX P wd) P wd K mg base N x (defScope st) f cdv A outer s H E
theorem fn_ok {P : Program} {wd : World} {K : PySem.W.Frag} {mg : Str → Option Value} {base : Heap} {x : Str} {st : Stmt} {f : Addr} {fd : FuncData} {N ps : List Str} {k np nn : Nat} {mb : MS} (F : Fun K x x st f fd) (S : FnScope N ps (defScope st))
    (hbody : ∀ (cdv : Value) (A : Around) (outer : List PySem.Env) (s : Shared) (H : Hp) (E : XK), Ctx (bodyCx P wd K mg base N x st f cdv A outer s H E) (fun cls d _ H => E cls d H) k → PSs (bodyCx P wd K mg base N x st f cdv A outer s H E) (defBody st) (TSof ⟨K, mg⟩ (fun cls d _ H => E cls d H) mb))
    (hnp : ps.length = np := by rfl) (hnn : N.length = nn := by rfl) : FnOk P wd K mg base (L2.CX P wd) (k + 1) f fd ps (spF ⟨K, mg⟩ np (fnF np nn mb)) := by
  subst hnp hnn
  refine F.okX S (spF_len rfl) (fun cdv A outer s H vs Q E hr h => ?_)
  obtain ⟨w, ds, S0, rfl, G0, r, rs, hl, p⟩ := h
  refine ⟨_, hbody cdv A outer s w.H E ⟨takes_of rfl rfl rfl rfl, passes_of rfl, rfl, hr⟩, ?_⟩
  have hn : w.rhA.length = S0.length := rs.1.symm
  refine ⟨w, ds.map some ++ List.replicate (N.length - ds.length) none, S0, ⟨rfl, G0, RE.start r N.length, rs⟩, ?_⟩
  unfold fnF at p
  rw [if_pos hl] at p
  rw [hl]
  cases hb : mb (ds.map some ++ List.replicate (N.length - ps.length) none) S0 with
  | bad => rw [hb] at p; exact p.elim
  | bk E S => rw [hb] at p; exact p.elim
  | ct E S => rw [hb] at p; exact p.elim
  | nx E1 S1 =>
    rw [hb] at p
    simp only [retF] at p
    rw [← hn] at p
    split at p
    · rename_i hh
      split at p
      · rename_i d' hd
        intro σ' w1 x G1 re rs1
        exact p .non ⟨w.thA, w.rhA, w1.H⟩ (ret_ext x) rfl (ret_good G0 G1 x) (fz_ok G0 G1 x rs1 8 .non d' .non hd rfl) (ret_store x rs1 hh.1 hh.2)
      · exact p.elim
    · exact p.elim
  | rt d S1 =>
    rw [hb] at p
    simp only [retF] at p
    rw [← hn] at p
    split at p
    · rename_i hh
      split at p
      · rename_i d' hd
        intro v w1 x G1 rd rs1
        exact p v ⟨w.thA, w.rhA, w1.H⟩ (ret_ext x) rfl (ret_good G0 G1 x) (fz_ok G0 G1 x rs1 8 d d' v hd rd) (ret_store x rs1 hh.1 hh.2)
      · exact p.elim
    · exact p.elim
  | exc c fs E1 S1 =>
    rw [hb] at p
    simp only [excF] at p
    rw [← hn] at p
    split at p
    · rename_i hh
      intro cls dx σ' w1 x G1 rx re rs1
      exact p cls dx ⟨w.thA, w.rhA, w1.H⟩ (ret_ext x) rfl (ret_good G0 G1 x) (RX.flatW (weak_take (w := w1) (w' := ⟨w.thA, w.rhA, w1.H⟩) rfl x.th1) hh.2.2 rx) (ret_store x rs1 hh.1 hh.2.1)
    · exact p.elim
theorem fok_of {P : Program} {wd : World} {K : PySem.W.Frag} {mg : Str → Option Value} {base : Heap} {x : Str} {st : Stmt} {f : Addr} {fd : FuncData} {N ps : List Str} {k np nn : Nat} {mb : MS} (F : Fun K x x st f fd) (S : FnScope N ps (defScope st)) (hm : mg x = some (.ref f)) (b : Binds K fd ps [])
    (hbody : ∀ (cdv : Value) (A : Around) (outer : List PySem.Env) (s : Shared) (H : Hp) (E : XK), Ctx (bodyCx P wd K mg base N x st f cdv A outer s H E) (fun cls d _ H => E cls d H) k → PSs (bodyCx P wd K mg base N x st f cdv A outer s H E) (defBody st) (TSof ⟨K, mg⟩ (fun cls d _ H => E cls d H) mb))
    (hnp : ps.length = np := by rfl) (hnn : N.length = nn := by rfl) : Fok P wd ⟨K, mg⟩ base (k + 1) x np (fnF np nn mb) := ⟨f, fd, ps, fn_ok F S hbody hnp hnn, hm, F.kp, b⟩
end
end J
set_option Elab.async false
set_option linter.all false
set_option maxRecDepth 100000
set_option maxHeartbeats 1000000
namespace J
open PySem PySem.Spec PyProof.Rows L2
section
variable {X : Cx} {Wx : WX} {pos : Pos}
theorem kit_all : ∀ t ∈ ["NoneType", "bool", "int", "str", "tuple", "list", "dict"], ∀ n ∈ isiNames, kitB t n = some (isiB t n) := by decide +kernel
def TyW (K : PySem.W.Frag) (H : Hp) (x : V) (t : Value) : Prop := TyX K H x t ∨ ∃ a kvs, x = .ref a ∧ Rd H a (.dK kvs) ∧ t = .type "dict"
theorem kit_w {pins : List (Addr × Obj)} {σ : L2.St} {H : Hp} {s : Shared} {x : V} {u t : Value} (I : Inv X pins σ H s) (rx : RelV x u) (ty : TyW X.K H x t) : ∃ P : Heap → Prop, PySem.W.KitX X.K u t P ∧ P s.heap ∧ u ≠ .builtin "__main__.__loader__#opaque" := by
  rcases ty with ty | ⟨a, kvs, rfl, ea, rfl⟩
  · exact kit_of I rx ty
  · cases (show u = Value.ref a from rx)
    obtain ⟨_, _, vs, _, p⟩ := dk_rd I.hok ea
    obtain ⟨o, es, ep, h1, h2, _⟩ := p
    exact ⟨_, PySem.W.kitx_dict, ⟨o, h1, h2.1⟩, fun z => nomatch z⟩
theorem call_isiW : CallR X (.builtin "isinstance") (fun xs H Q => ∃ (x c : V) (t u : Value) (b : Bool), xs = [x, c] ∧ ClsV c u ∧ TyW X.K H x t ∧ PySem.W.kitOne X.K t u = some b ∧ Q (.bl b) H) := by
  intro pins s σ H xs us Q I r h
  obtain ⟨x, c, t, u, b, rfl, k, ty, e, q⟩ := h
  obtain ⟨u1, u2, rfl, r1, r2⟩ := vals2 r
  have e2 := k.eq r2
  subst e2
  obtain ⟨P, Z, p, hx⟩ := kit_w I r1 ty
  exact PySem.W.kia_one Z I.kIn p e hx fun tk => ⟨.bl b, H, I.tok tk, rfl, q⟩
theorem call_isiTW : CallR X (.builtin "isinstance") (fun xs H Q => ∃ (x : V) (tp : Addr) (cs : List V) (t : Value) (us : List Value) (b : Bool), xs = [x, .ref tp] ∧ H tp = some (.tup cs) ∧ Paired ClsV cs us ∧ TyW X.K H x t ∧ PySem.W.kitAny X.K t us = some b ∧ Q (.bl b) H) := by
  intro pins s σ H xs us Q I r h
  obtain ⟨x, tp, cs, t, ws, b, rfl, hT, k, ty, e, q⟩ := h
  obtain ⟨u1, u2, rfl, r1, r2⟩ := vals2 r
  cases (show u2 = Value.ref tp from r2)
  obtain ⟨P, Z, p, hx⟩ := kit_w I r1 ty
  obtain ⟨_, its, rv, o, h1, h2, n, h3⟩ := (show ObjOk X.prog X.w H s.heap tp (.tup cs) from I.hok tp _ hT)
  have e3 := ClsV.all k rv
  subst e3
  obtain ⟨oc, od, dt, sl⟩ := o
  simp only at h2 h3
  subst h2 h3
  exact PySem.W.kia_tup Z I.kIn p h1 e hx fun tk => ⟨.bl b, H, I.tok tk, rfl, q⟩
theorem tyX_of {g : G} {w : W} {S : List D} {d : D} {v : V} {t : String} (rs : RS g w S) (r : RD g w d v) (h : tyOf S d = some t) : TyW g.K w.H v (.type t) ∧ t ∈ ["NoneType", "bool", "int", "str", "tuple", "list", "dict"] := by
  cases d with
  | non => cases h; cases r; exact ⟨.inl (.base .non), by decide⟩
  | bl b => cases h; cases r; exact ⟨.inl (.base (.bl b)), by decide⟩
  | int b => cases h; cases r; exact ⟨.inl (.base (.int b)), by decide⟩
  | str b => cases h; cases r; exact ⟨.inl (.base (.str b)), by decide⟩
  | ty b => cases h
  | fn b => cases h
  | kn b P => cases h
  | tab b => cases h
  | tup ds =>
    cases h
    obtain ⟨a, vs, rfl, t, r⟩ := r
    exact ⟨.inl (.base (.tup t.1)), by decide⟩
  | lst ds =>
    cases h
    obtain ⟨a, vs, rfl, t, _, r⟩ := r
    exact ⟨.inl (.base (.lst t)), by decide⟩
  | rdl ds =>
    cases h
    obtain ⟨a, vs, rfl, t, r⟩ := r
    rcases t with ⟨t | ⟨o, t⟩, _⟩ | ⟨o, its, n, hk, hc, _⟩
    · exact ⟨.inl (.base (.lst t)), by decide⟩
    · exact ⟨.inl (.base (.frz t)), by decide⟩
    · exact ⟨.inl (.kList hk hc), by decide⟩
  | dct ks ds =>
    cases h
    obtain ⟨a, vs, rfl, t, _, r⟩ := r
    exact ⟨.inr ⟨a, _, rfl, t, rfl⟩, by decide⟩
  | dcT ks ds => cases h
  | tuk ds =>
    cases h
    obtain ⟨a, vs, o, rfl, t, _, _, r⟩ := r
    exact ⟨.inl (.fTuple t), by decide⟩
  | loc n =>
    obtain ⟨a, rfl, ha⟩ := r
    unfold tyOf at h
    simp only at h
    split at h
    · rename_i ds e
      cases h
      obtain ⟨vs, t, _⟩ := rs.obj ha e
      exact ⟨.inl (.base (.lst t)), by decide⟩
    · rename_i ks ds e
      cases h
      obtain ⟨vs, t, _⟩ := rs.obj ha e
      exact ⟨.inl (.base (.dK t)), by decide⟩
    · cases h
theorem jc_isi {n : String} (hn : n ∈ isiNames) {a c : Expr} {ma : ME} {x : Str} {p : Pos} (ha : PE X a (TEof X.g Wx ma)) (hcl : PE X c (tC (.ty n))) (hg : Gl X "isinstance") (hm : X.mg "isinstance" = none)
    (he : starEach [a, c] X.env = (false, eval a X.env) :: starEach [c] X.env := by rfl) (hes : starEach [c] X.env = (false, eval c X.env) :: starEach [] X.env := by rfl) (hpl : (backTo pos (starEach [c] X.env)).any (·.1) = false := by rfl) : PE X (.Call (.Name "isinstance" p) [a, c] [] pos) (TEof X.g Wx (eUn (oIsi [n]) ma)) := by
  refine peImp (pe_callB (call_isiW (X := X)) hg hm (by decide +kernel) (pa_cons ha (pa_cons hcl pa_nil hes) he) (by decide) (by decide) he hpl) fun σ H Q ⟨w, E, S, a, p⟩ => ?_
  refine ⟨w, E, S, a, PR.imp (PR.bind a.good a.env p) fun x H1 ⟨w1, d, S1, a1, x1, r1, p1⟩ => ?_⟩
  unfold oIsi at p1
  split at p1
  · rename_i t e
    obtain ⟨h1, h2⟩ := tyX_of a1.sto r1 e
    have q := putSame p1 a1.good a1.sto rfl
    rw [a1.hp] at q h1
    refine ⟨x, .ty n, .type t, .type n, isiB t n, rfl, .ty n, h1, kit_ty (kit_all t h2 n hn), ?_⟩
    simpa using q
  · exact p1.elim
theorem kitAny_all {K : PySem.W.Frag} {t : String} (ht : t ∈ ["NoneType", "bool", "int", "str", "tuple", "list", "dict"]) : ∀ {ns : List String}, (∀ n ∈ ns, n ∈ isiNames) → PySem.W.kitAny K (.type t) (ns.map Value.type) = some (ns.any (isiB t))
  | [], _ => kitAny_nil
  | n :: ns, h => by
    have h1 := kit_all t ht n (h n List.mem_cons_self)
    have h2 := kitAny_all (K := K) ht (ns := ns) fun m hm => h m (List.mem_cons_of_mem _ hm)
    rw [List.map_cons, List.any_cons]
    cases e : isiB t n with
    | true =>
      rw [e] at h1
      exact kitAny_cons (kit_ty h1) (fun z => by cases z) fun _ => rfl
    | false =>
      rw [e] at h1
      exact kitAny_cons (kit_ty h1) (fun _ => h2) fun z => by cases z
theorem clsV_all : ∀ ns : List String, Paired ClsV (ns.map V.ty) (ns.map Value.type)
  | [] => .nil
  | n :: ns => .cons (.ty n) (clsV_all ns)
theorem jc_isi2 {n m : String} (hn : n ∈ isiNames) (hmm : m ∈ isiNames) {a c d : Expr} {ma : ME} {p p2 : Pos} {k : Nat} (ha : PE X a (TEof X.g Wx ma)) (hc : PE X c (tC (.ty n))) (hd : PE X d (tC (.ty m))) (hg : Gl X "isinstance") (hm : X.mg "isinstance" = none)
    (he : starEach [a, .Tuple [c, d] k p2] X.env = (false, eval a X.env) :: starEach [.Tuple [c, d] k p2] X.env := by rfl) (hes : starEach [.Tuple [c, d] k p2] X.env = (false, eval (.Tuple [c, d] k p2) X.env) :: starEach [] X.env := by rfl)
    (h1 : starEach [c, d] X.env = (false, eval c X.env) :: starEach [d] X.env := by rfl) (h2 : starEach [d] X.env = (false, eval d X.env) :: starEach [] X.env := by rfl)
    (hpl : (backTo pos (starEach [.Tuple [c, d] k p2] X.env)).any (·.1) = false := by rfl) : PE X (.Call (.Name "isinstance" p) [a, .Tuple [c, d] k p2] [] pos) (TEof X.g Wx (eUn (oIsi [n, m]) ma)) := by
  refine peImp (pe_callB (call_isiTW (X := X)) hg hm (by decide +kernel) (pa_cons ha (pa_cons (pe_tup (pa_cons hc (pa_cons hd pa_nil h2) h1)) pa_nil hes) he) (by decide) (by decide) he hpl) fun σ H Q ⟨w, E, S, a, p⟩ => ?_
  refine ⟨w, E, S, a, PR.imp (PR.bind a.good a.env p) fun x H1 ⟨w1, dd, S1, a1, x1, r1, p1⟩ => ?_⟩
  unfold oIsi at p1
  split at p1
  · rename_i t e
    refine ⟨by show 2 ≤ sizeLine; decide, fun q hq => ?_⟩
    rw [← a1.hp] at hq ⊢
    have x2 := put_ext (o := .tup [V.ty n, V.ty m]) hq
    have G2 := put_good (p := q) (o := .tup [V.ty n, V.ty m]) a1.good hq
    have rs2 := put_store (o := .tup [V.ty n, V.ty m]) a1.good hq a1.sto
    obtain ⟨t1, t2⟩ := tyX_of rs2 (RD.mono a1.good x2 _ _ r1) e
    refine ⟨x, q, [V.ty n, V.ty m], .type t, [.type n, .type m], [n, m].any (isiB t), rfl, upd_same, clsV_all [n, m], t1, kitAny_all t2 (ns := [n, m]) (fun z hz => ?_), ?_⟩
    · rcases List.mem_cons.mp hz with rfl | hz
      · exact hn
      · rw [List.mem_singleton.mp hz]; exact hmm
    · exact p1 _ (w1.put q (.tup [V.ty n, V.ty m])) x2 G2 rfl rs2
  · exact p1.elim
/-! a new dict -/
theorem de_dctL : PE X (.Dict [] [] pos) (TEof X.g Wx eDctL) := by
  refine peImp pe_dnewK fun σ H Q ⟨w, E, S, a, p⟩ => fun q hq => ?_
  rw [← a.hp] at hq ⊢
  exact p (.ref q) (w.add q (.dK [])) (add_ext hq) (add_good a.good hq) ⟨q, rfl, by rw [a.sto.1]; simp⟩ (add_store a.good hq a.sto ⟨[], upd_same, rfl, rfl⟩)
/-! three names at once -/
end
end J
set_option Elab.async false
set_option linter.all false
set_option maxRecDepth 100000
set_option maxHeartbeats 1000000
namespace J
open PySem PySem.Spec PyProof.Rows L2
theorem Ctx.u65 {X : Cx} {Wx : WX} {k : Nat} (c : Ctx X Wx k) : X.A.units + 65 < cLine := by have := c.hr.un; omega
section
variable {X : Cx} {Wx : WX} {pos : Pos}
theorem dt_isN {a : Expr} {ma : ME} {j : Nat} {pos' : Pos} (ha : PE X a (TEof X.g Wx ma)) : PT X (.Compare a [.Is] [.Constant .none j pos'] pos) (TTof X.g Wx (tV (eUn oIsN ma))) := by
  refine ptImp (pt_cmp (pc_isN ha) rfl) fun σ H Q hh => ?_
  obtain ⟨w, E, S, a, p⟩ := tvUse hh
  refine ⟨w, E, S, a, PR.imp (PR.bind a.good a.env p) fun x H1 ⟨w1, d, S1, a1, x1, r1, p1⟩ => ?_⟩
  have q := putSame p1 a1.good a1.sto rfl
  rw [a1.hp] at q
  rw [isNon_of r1]
  exact q
theorem dt_notN {a : Expr} {ma : ME} {j : Nat} {pos' : Pos} (ha : PE X a (TEof X.g Wx ma)) : PT X (.Compare a [.IsNot] [.Constant .none j pos'] pos) (TTof X.g Wx (tV (eUn oNotN ma))) := by
  refine ptImp (pt_cmp (pc_notN ha) rfl) fun σ H Q hh => ?_
  obtain ⟨w, E, S, a, p⟩ := tvUse hh
  refine ⟨w, E, S, a, PR.imp (PR.bind a.good a.env p) fun x H1 ⟨w1, d, S1, a1, x1, r1, p1⟩ => ?_⟩
  have q := putSame p1 a1.good a1.sto rfl
  rw [a1.hp] at q
  rw [isNon_of r1]
  exact q
end
end J
set_option Elab.async false
set_option linter.all false
set_option maxRecDepth 100000
set_option maxHeartbeats 1000000
namespace J
open PySem PySem.Spec PyProof.Rows L2
section
variable {X : Cx} {Wx : WX} {pos : Pos}
theorem dss_never {sts : List Stmt} : PSs X sts (TSof X.g Wx sNever) := pssImp pss_never fun D σ H ⟨w, E, S, a, p⟩ => p
/-! max and min of ints -/
theorem foldMax_mem : ∀ (ns : List Int) (n : Int), ns.foldl (fun a y => if a < y then y else a) n ∈ n :: ns
  | [], n => by simp
  | m :: ns, n => by
    rw [List.foldl_cons]
    have := foldMax_mem ns (if n < m then m else n)
    rcases List.mem_cons.mp this with h | h
    · rw [h]; split <;> simp
    · exact List.mem_cons_of_mem _ (List.mem_cons_of_mem _ h)
theorem foldMax_ge : ∀ (ns : List Int) (n : Int) (y : Int), y ∈ n :: ns → y ≤ ns.foldl (fun a y => if a < y then y else a) n
  | [], n, y, h => by simp at h; subst h; exact Int.le_refl _
  | m :: ns, n, y, h => by
    rw [List.foldl_cons]
    rcases List.mem_cons.mp h with rfl | h
    · refine Int.le_trans ?_ (foldMax_ge ns _ _ List.mem_cons_self)
      split <;> omega
    · rcases List.mem_cons.mp h with rfl | h
      · refine Int.le_trans ?_ (foldMax_ge ns _ _ List.mem_cons_self)
        split <;> omega
      · exact foldMax_ge ns _ _ (List.mem_cons_of_mem _ h)
theorem foldMin_mem : ∀ (ns : List Int) (n : Int), ns.foldl (fun a y => if y < a then y else a) n ∈ n :: ns
  | [], n => by simp
  | m :: ns, n => by
    rw [List.foldl_cons]
    have := foldMin_mem ns (if m < n then m else n)
    rcases List.mem_cons.mp this with h | h
    · rw [h]; split <;> simp
    · exact List.mem_cons_of_mem _ (List.mem_cons_of_mem _ h)
theorem foldMin_le : ∀ (ns : List Int) (n : Int) (y : Int), y ∈ n :: ns → ns.foldl (fun a y => if y < a then y else a) n ≤ y
  | [], n, y, h => by simp at h; subst h; exact Int.le_refl _
  | m :: ns, n, y, h => by
    rw [List.foldl_cons]
    rcases List.mem_cons.mp h with rfl | h
    · refine Int.le_trans (foldMin_le ns _ _ List.mem_cons_self) ?_
      split <;> omega
    · rcases List.mem_cons.mp h with rfl | h
      · refine Int.le_trans (foldMin_le ns _ _ List.mem_cons_self) ?_
        split <;> omega
      · exact foldMin_le ns _ _ (List.mem_cons_of_mem _ h)
theorem hold_ints {h : Heap} : ∀ {ns : List Int} {us : List Value}, Vals (ns.map V.int) us → PySem.W.HoldAll h us ns
  | [], _, .nil => PySem.W.HoldAll.nil
  | n :: ns, _, .cons r rs => by
    obtain ⟨t, rfl⟩ := r
    exact PySem.W.HoldAll.cons (PySem.W.holds_int n t) (hold_ints rs)
theorem crT_max (hc : X.calm = true) (hu : X.A.units + 1 < cLine) : CallR X (.builtin "max") (fun vs H Q => ∃ (a : Addr) (n : Int) (ns : List Int), vs = [V.ref a] ∧ SqT X.K H a ((n :: ns).map V.int) ∧ Q (.int (ns.foldl (fun a y => if a < y then y else a) n)) H) := by
  intro pins s σ H vs us Q I r h
  obtain ⟨a, n, ns, rfl, hs, q⟩ := h
  obtain ⟨its, rv, pl, hz⟩ := I.tuple hs
  rw [Vals.ref1 r]
  refine PySem.W.max_tuple_datum (α := Int) (x := n) (xs := ns) (I.ok.hd hc) pl (hold_ints rv) (by simpa [PySem.W.Datum.depth] using hu) fun i v h' tk hi hv hk => ?_
  obtain ⟨t, rfl⟩ := PySem.W.int_of_holds hv
  refine ⟨.int _, H, I.kept hk, ⟨t, rfl⟩, ?_⟩
  have e : PySem.W.maxOf n ns = ns.foldl (fun a y => if a < y then y else a) n := by
    unfold PySem.W.maxOf
    congr 1
    funext a y
    show (if decide (a < y) = true then y else a) = _
    by_cases h : a < y <;> simp [h]
  rw [e]
  exact q
theorem crT_min (hc : X.calm = true) (hu : X.A.units + 1 < cLine) : CallR X (.builtin "min") (fun vs H Q => ∃ (a : Addr) (n : Int) (ns : List Int), vs = [V.ref a] ∧ SqT X.K H a ((n :: ns).map V.int) ∧ Q (.int (ns.foldl (fun a y => if y < a then y else a) n)) H) := by
  intro pins s σ H vs us Q I r h
  obtain ⟨a, n, ns, rfl, hs, q⟩ := h
  obtain ⟨its, rv, pl, hz⟩ := I.tuple hs
  rw [Vals.ref1 r]
  refine PySem.W.min_tuple_datum (α := Int) (x := n) (xs := ns) (I.ok.hd hc) pl (hold_ints rv) (by simpa [PySem.W.Datum.depth] using hu) fun i v h' tk hi hv hk => ?_
  obtain ⟨t, rfl⟩ := PySem.W.int_of_holds hv
  refine ⟨.int _, H, I.kept hk, ⟨t, rfl⟩, ?_⟩
  have e : PySem.W.minOf n ns = ns.foldl (fun a y => if y < a then y else a) n := by
    unfold PySem.W.minOf
    congr 1
    funext a y
    show (if decide (y < a) = true then y else a) = _
    by_cases h : y < a <;> simp [h]
  rw [e]
  exact q
theorem jc_max1 (hc : X.calm = true) (hu : X.A.units + 1 < cLine) : CallR X (.builtin "max") (argOf X.g bMax1) := by
  intro pins s σ H xs us Q I r ⟨Wx, σ', w, S, ds, hH, G, rs, r1, p⟩
  subst hH
  unfold bMax1 at p
  split at p
  · obtain ⟨v, rfl, r2⟩ := r1.one'
    split at p
    · rename_i xs e
      split at p
      · rename_i n ns e2
        obtain ⟨a, vs, rfl, t, r3⟩ := r2.seq rs e
        have := ints_vals r3 e2
        subst this
        rcases t with t | t
        · refine cr_max hc pins s σ _ _ us Q I r ⟨a, n :: ns, rfl, t, by simp, fun m h1 h2 => ?_⟩
          have e3 : m = ns.foldl (fun a y => if a < y then y else a) n := Int.le_antisymm (foldMax_ge ns n m h1) (h2 _ (foldMax_mem ns n))
          subst e3
          exact putSame p G rs rfl
        · exact crT_max hc hu pins s σ _ _ us Q I r ⟨a, n, ns, rfl, t, putSame p G rs rfl⟩
      · exact p.elim
    · exact p.elim
  · exact p.elim
theorem jc_min1 (hc : X.calm = true) (hu : X.A.units + 1 < cLine) : CallR X (.builtin "min") (argOf X.g bMin1) := by
  intro pins s σ H xs us Q I r ⟨Wx, σ', w, S, ds, hH, G, rs, r1, p⟩
  subst hH
  unfold bMin1 at p
  split at p
  · obtain ⟨v, rfl, r2⟩ := r1.one'
    split at p
    · rename_i xs e
      split at p
      · rename_i n ns e2
        obtain ⟨a, vs, rfl, t, r3⟩ := r2.seq rs e
        have := ints_vals r3 e2
        subst this
        rcases t with t | t
        · refine cr_min hc pins s σ _ _ us Q I r ⟨a, n :: ns, rfl, t, by simp, fun m h1 h2 => ?_⟩
          have e3 : m = ns.foldl (fun a y => if y < a then y else a) n := Int.le_antisymm (h2 _ (foldMin_mem ns n)) (foldMin_le ns n m h1)
          subst e3
          exact putSame p G rs rfl
        · exact crT_min hc hu pins s σ _ _ us Q I r ⟨a, n, ns, rfl, t, putSame p G rs rfl⟩
      · exact p.elim
    · exact p.elim
  · exact p.elim
/-! list(range(n)) -/
theorem ints_rg {g : G} {w : W} : ∀ (n : Nat) (f : Nat → Int), RDs g w ((List.range n).map fun i => D.int (f i)) ((List.range n).map fun i => V.int (f i)) := by
  intro n
  induction n with
  | zero => intro f; rfl
  | succ n ih =>
    intro f
    rw [List.range_succ, List.map_append, List.map_append]
    exact (ih f).append (RDs.one rfl)
theorem de_lstRgL {a : Expr} {ma : ME} {p p2 pos2 : Pos} (hc : X.calm = true) (hg : Gl X "list") (hm : X.mg "list" = none) (hg2 : Gl X "range") (hm2 : X.mg "range" = none) (ha : PE X a (TEof X.g Wx ma))
    (na : starEach [a] X.env = (false, eval a X.env) :: starEach [] X.env := by rfl) (na2 : starEach [.Call (.Name "range" p2) [a] [] pos2] X.env = (false, eval (.Call (.Name "range" p2) [a] [] pos2) X.env) :: starEach [] X.env := by rfl) :
    PE X (.Call (.Name "list" p) [.Call (.Name "range" p2) [a] [] pos2] [] pos) (TEof X.g Wx (eLstRgL ma)) := by
  refine peImp (pe_listRg hc hg hm (prg_1 hg2 hm2 ha na) na2) fun σ H Q ⟨w, E, S, a, p⟩ => ?_
  refine ⟨w, E, S, a, PR.imp (PR.bind a.good a.env p) fun x H1 ⟨w1, d, S1, a1, x1, r1, p1⟩ => ?_⟩
  split at p1
  · rename_i n
    split at p1
    · rename_i hn
      cases r1
      refine ⟨n, rfl, ⟨by omega, by omega, by omega, ?_, ?_⟩, fun q hq => ?_⟩
      · have := hn.2; unfold SL at this; omega
      · have := hn.2; unfold SL at this; omega
      · rw [← a1.hp] at hq ⊢
        refine new_loc p1 a1.good a1.sto ?_ q hq
        have := ints_rg (g := X.g) (w := w1) n.toNat fun i => 0 + (i : Int)
        unfold rgV
        rw [Int.sub_zero]
        simpa using this
    · exact p1.elim
  · exact p1.elim
end
end J
set_option Elab.async false
set_option linter.all false
set_option maxRecDepth 100000
set_option maxHeartbeats 1000000
namespace J
open PySem PySem.Spec PyProof.Rows L2
section
variable {X : Cx} {Wx : WX} {pos : Pos}
/-! any and all -/
theorem scals_len : ∀ {ds : List D} {bs : List Bool}, scals ds = some bs → bs.length = ds.length
  | [], bs, h => by cases h; rfl
  | d :: ds, bs, h => by
    simp only [scals, Option.bind_eq_some_iff, Option.map_eq_some_iff] at h
    obtain ⟨b, _, bs', h2, rfl⟩ := h
    simp [scals_len h2]
theorem scals_get {g : G} {w : W} : ∀ {ds : List D} {vs : List V} {us : List Value} {bs : List Bool}, RDs g w ds vs → Vals vs us → scals ds = some bs → ∀ (i : Nat) (u : Value), us[i]? = some u → ∃ b, bs[i]? = some b ∧ ((u = .bool b) ∨ ∃ n t, u = .int n t ∧ b = (n != 0))
  | [], _, us, bs, r, rv, h, i, u, e => by
    cases r
    cases rv
    simp at e
  | d :: ds, vs, us, bs, r, rv, h, i, u, e => by
    obtain ⟨v, vs', rfl, r1, r2⟩ := r
    cases rv with
    | cons q qs =>
      simp only [scals, Option.bind_eq_some_iff, Option.map_eq_some_iff] at h
      obtain ⟨b, h1, bs', h2, rfl⟩ := h
      cases i with
      | zero =>
        simp at e
        subst e
        refine ⟨b, rfl, ?_⟩
        cases d with
        | bl c => cases r1; cases h1; cases q; exact .inl rfl
        | int n =>
          cases r1
          cases h1
          obtain ⟨t, rfl⟩ := q
          exact .inr ⟨n, t, rfl, rfl⟩
        | _ => simp [scal] at h1
      | succ i =>
        obtain ⟨c, h3, h4⟩ := scals_get r2 qs h2 i u (by simpa using e)
        exact ⟨c, by simpa using h3, h4⟩
theorem truth_scals {prog : Program} {w : World} {A : Around} {bs : List Bool} {its : List Value} (e : ∀ (i : Nat) (u : Value), its[i]? = some u → ∃ b, bs[i]? = some b ∧ ((u = .bool b) ∨ ∃ n t, u = .int n t ∧ b = (n != 0))) :
    TruthOf prog w A (fun i v => its.toArray[i]? = some v) (fun i => bs.getD i false) := fun i v s Q E hv hq => by
  have hv' : its[i]? = some v := by simpa using hv
  obtain ⟨b, hb, h⟩ := e i v hv'
  have hg : bs.getD i false = b := by rw [List.getD_eq_getElem?_getD, hb] <;> rfl
  have hq' : Q (bs.getD i false) s := hq
  rw [hg] at hq'
  rcases h with rfl | ⟨n, t, rfl, rfl⟩
  · exact wpAny_truthy_bool hq'
  · exact PySem.P.truthy_int hq'
theorem keyOf_kV {g : G} {w : W} {d : D} {v : V} {k : Ky} (r : RD g w d v) (h : keyOf d = some k) : v = kV k := by
  cases d with
  | int i => cases r; cases h; rfl
  | str x => cases r; cases h; rfl
  | _ => simp [keyOf] at h
theorem jc_any (hc : X.calm = true) : CallR X (.builtin "any") (argOf X.g bAny) := by
  intro pins s σ H xs us Q I r ⟨Wx, σ', w, S, ds, hH, G, rs, r1, p⟩
  subst hH
  unfold bAny at p
  split at p
  · obtain ⟨v, rfl, r2⟩ := r1.one'
    split at p
    · rename_i xs e
      split at p
      · rename_i bs e2
        obtain ⟨a, vs, rfl, t, r3⟩ := r2.lstAt rs e
        obtain ⟨its, rv, hl, _⟩ := I.list (SqL.of t)
        rw [Vals.ref1 r]
        have hlen : its.length = bs.length := by rw [← rv.length, r3.length, scals_len e2]
        refine call_any_walk (iter_any hl.isList fun s₂ e2' st hne => ?_)
        subst e2'
        refine ⟨_, _, _, _, _, _, _, rfl, Walks.list (A := X.A.in1) (I.ok.hd hc) _ a hne its.toArray, st, truth_scals (scals_get r3 rv e2), fun h' tk hk => ?_⟩
        refine ⟨.bl (bs.any id), w.H, I.kept fun b o eo => hk b o (fun hmem => ?_) (Heap.get?_push_of_some _ eo), ?_, putSame p G rs rfl⟩
        · rcases List.mem_cons.mp hmem with e1 | hmem
          · exact absurd (e1 ▸ Heap.lt_size eo) (Nat.lt_irrefl _)
          · cases hmem
        · show Value.bool _ = Value.bool _
          rw [← L2.any_range, List.size_toArray, hlen]
      · exact p.elim
    · exact p.elim
  · exact p.elim
theorem jc_all (hc : X.calm = true) : CallR X (.builtin "all") (argOf X.g bAll) := by
  intro pins s σ H xs us Q I r ⟨Wx, σ', w, S, ds, hH, G, rs, r1, p⟩
  subst hH
  unfold bAll at p
  split at p
  · obtain ⟨v, rfl, r2⟩ := r1.one'
    split at p
    · rename_i xs e
      split at p
      · rename_i bs e2
        obtain ⟨a, vs, rfl, t, r3⟩ := r2.lstAt rs e
        obtain ⟨its, rv, hl, _⟩ := I.list (SqL.of t)
        rw [Vals.ref1 r]
        have hlen : its.length = bs.length := by rw [← rv.length, r3.length, scals_len e2]
        refine call_all_walk (iter_any hl.isList fun s₂ e2' st hne => ?_)
        subst e2'
        refine ⟨_, _, _, _, _, _, _, rfl, Walks.list (A := X.A.in1) (I.ok.hd hc) _ a hne its.toArray, st, truth_scals (scals_get r3 rv e2), fun h' tk hk => ?_⟩
        refine ⟨.bl (bs.all id), w.H, I.kept fun b o eo => hk b o (fun hmem => ?_) (Heap.get?_push_of_some _ eo), ?_, putSame p G rs rfl⟩
        · rcases List.mem_cons.mp hmem with e1 | hmem
          · exact absurd (e1 ▸ Heap.lt_size eo) (Nat.lt_irrefl _)
          · cases hmem
        · show Value.bool _ = Value.bool _
          rw [← L2.all_range, List.size_toArray, hlen]
      · exact p.elim
    · exact p.elim
  · exact p.elim
/-! {k: v} -/
theorem de_disp1L {k v : Expr} {mk mv : ME} (hk : PE X k (TEof X.g Wx mk)) (hv : PE X v (TEof X.g Wx mv)) : PE X (.Dict [some k] [v] pos) (TEof X.g Wx (eDisp1L mk mv)) := by
  refine peImp (pe_disp (pps_cons hk (pos := pos) hv pps_nil) rfl rfl (by simp) (by simp)) fun σ H Q ⟨w, E, S, a, p⟩ => ?_
  intro q hq
  have hq' : w.H q = none := by rw [a.hp]; exact hq
  have x0 := hide_ext (o := .dK []) hq'
  have G0 := hide_good (o := .dK []) a.good hq'
  have nD : q ∉ w.rhA := fun z => a.good.al q (a.good.sub q z) hq'
  have a0 : At X.g (w.hide q (.dK [])) E σ (upd H q (.dK [])) S := ⟨by rw [← a.hp], G0, a.env.mono a.good x0, a.sto.keep a.good x0 rfl (fun b hb => upd_ne fun e => nD (by rw [← e]; exact hb))⟩
  have p0 : PR X.g Wx σ w (RD X.g) Q ((mk E S).bind fun x S1 => (mv E S1).bind fun y S2 => kDisp1 x y S2) := p
  refine ⟨w.hide q (.dK []), E, S, a0, ?_⟩
  cases hmk : mk E S with
  | bad => rw [hmk] at p0; exact p0.elim
  | exc c fs S1 => rw [hmk] at p0; exact PR.at p0 x0
  | ok d S1 =>
    rw [hmk] at p0
    intro x w1 x1 G1 r1 rs1
    have a1 : At X.g w1 E σ w1.H S1 := ⟨rfl, G1, a0.env.mono G0 x1, rs1⟩
    refine ⟨w1, E, S1, a1, ?_⟩
    simp only [bind_ok] at p0
    cases hmv : mv E S1 with
    | bad => rw [hmv] at p0; exact p0.elim
    | exc c fs S2 => rw [hmv] at p0; exact PR.at p0 (x0.trans x1)
    | ok d2 S2 =>
      rw [hmv] at p0
      intro y w2 x2 G2 r2 rs2
      simp only [bind_ok, kDisp1] at p0
      split at p0
      · rename_i ky hky
        have x12 := x1.trans x2
        have x := x0.trans x12
        have hq2 : w2.H q = some (.dK []) := x12.kpT upd_same nD (.inr rfl)
        have hth : w2.thA q := x12.th1 q (.inr rfl)
        have nD2 : q ∉ w2.rhA := fun z => by
          obtain ⟨τ, e5, f5⟩ := x12.rho
          rw [e5] at z
          rcases List.mem_append.mp z with z | z
          · exact nD z
          · have := f5 q z
            rw [show (w.hide q (.dK [])).H q = some (.dK []) from upd_same] at this
            cases this
        refine ⟨hq2, [(ky, y)], ?_, by simp, ?_⟩
        · have : _ = kV ky := keyOf_kV r1 hky
          rw [this]
          rfl
        · have hm : mergeK [] [(ky, y)] = [(ky, y)] := rfl
          rw [hm]
          have kw : Weak w2 { w2 with H := upd w2.H q (.dK [(ky, y)]) } := weak_upd hth
          have rs2' : RS X.g { w2 with H := upd w2.H q (.dK [(ky, y)]) } S2 := rs2.weakW kw rfl (fun b hb => upd_ne fun e => nD2 (by rw [← e]; exact hb))
          have r2' : RD X.g { w2 with H := upd w2.H q (.dK [(ky, y)]) } d2 y := RD.weakW kw (fun _ _ h => h) _ _ r2
          have k3 : Weak { w2 with H := upd w2.H q (.dK [(ky, y)]) } ⟨w2.thA, w2.rhA ++ [q], upd w2.H q (.dK [(ky, y)])⟩ := weak_take rfl fun _ z => z
          have kr : ∀ (n : Nat) a, w2.rhA[n]? = some a → (w2.rhA ++ [q])[n]? = some a := fun n a h => by
            rw [List.getElem?_append_left (List.getElem?_eq_some_iff.mp h).1]; exact h
          obtain ⟨τ, eτ, fτ⟩ := x.rho
          refine p0 (.ref q) ⟨w2.thA, w2.rhA ++ [q], upd w2.H q (.dK [(ky, y)])⟩ ⟨⟨τ ++ [q], by show w2.rhA ++ [q] = _; rw [eτ, List.append_assoc], fun a h => (List.mem_append.mp h).elim (fτ a) fun h => by rw [List.mem_singleton.mp h]; exact hq'⟩, x.th1, x.th2, fun b o hb nb => ?_, fun b hb => ?_⟩
            ⟨?_, fun b h => ?_, fun b hb => ?_, fun b hb xs => by
              show upd w2.H q _ b ≠ some (.tup xs)
              by_cases e : b = q
              · rw [e, upd_same]; intro z; cases z
              · rw [upd_ne e]; exact G2.nt b hb xs⟩ ⟨q, rfl, by show (w2.rhA ++ [q])[S2.length]? = some q; rw [rs2.1]; simp⟩ ⟨by show (S2 ++ [_]).length = (w2.rhA ++ [q]).length; simp [rs2.1], fun n d e => ?_⟩
          · have hne : b ≠ q := fun e => by rw [e, hq'] at hb; cases hb
            rcases x.kp b o hb nb with q' | ⟨nt, od, kvs, eo, q'⟩
            · exact .inl ((upd_ne hne).trans q')
            · exact .inr ⟨nt, od, kvs, eo, (upd_ne hne).trans q'⟩
          · show upd w2.H q _ b ≠ none
            by_cases e : b = q
            · rw [e, upd_same]; simp
            · rw [upd_ne e]; exact x.al b hb
          · show (w2.rhA ++ [q]).Nodup
            rw [List.nodup_append]
            refine ⟨G2.nd, by simp, fun a ha b hb e => ?_⟩
            rw [List.mem_singleton.mp hb] at e
            exact nD2 (by rw [← e]; exact ha)
          · rcases List.mem_append.mp h with h | h
            · exact G2.sub b h
            · rw [List.mem_singleton.mp h]; exact hth
          · show upd w2.H q _ b ≠ none
            by_cases e : b = q
            · rw [e, upd_same]; simp
            · rw [upd_ne e]; exact G2.al b hb
          · by_cases hn : n < S2.length
            · rw [List.getElem?_append_left hn] at e
              obtain ⟨a, h1, h2⟩ := rs2'.2 n d e
              exact ⟨a, kr n a h1, h2.weakW k3 kr rfl⟩
            · have hl : n = S2.length := by
                have := (List.getElem?_eq_some_iff.mp e).1
                simp at this
                omega
              subst hl
              simp at e
              subst e
              exact ⟨q, by show (w2.rhA ++ [q])[S2.length]? = some q; rw [rs2.1]; simp, [y], upd_same, rfl, RDs.one (RD.weakW k3 kr _ _ r2')⟩
      · exact p0.elim
/-! try: .. (no exception comes), x, o[i] = e -/
theorem Ctx.nox {X : Cx} {Wx : WX} {k : Nat} (c : Ctx X Wx k) : Ctx X.nox W0 k := ⟨takes0, PassesOwn.never, c.calm, c.hr⟩
end
end J
set_option Elab.async false
set_option linter.all false
set_option maxRecDepth 100000
set_option maxHeartbeats 1000000
namespace J
open PySem PySem.Spec PyProof.Rows L2
/-! xs[::-1] of a list or tuple -/
section
variable {prog : Program} {w : World} {A : Around} {E : Value → Shared → Prop} {s : Shared}
theorem rev_adj (n : Nat) : Builtin.Slice.sliceAdjust none none (-1) (n : Int) = ((n : Int) - 1, -1) := by
  unfold Builtin.Slice.sliceAdjust
  simp
theorem rev_places (n : Nat) : Builtin.Slice.slicePlaces ((n : Int) - 1) (-1) (-1) = n := by
  unfold Builtin.Slice.slicePlaces
  have h1 : ¬ ((-1 : Int) > 0) := by decide
  rw [if_neg h1]
  by_cases h : (n : Int) - 1 > -1
  · rw [if_pos h, show (- -1 : Int) = 1 by decide, Int.ediv_one]
    omega
  · rw [if_neg h]
    omega
theorem fm_congr {α β : Type} {f g : α → Option β} : ∀ (l : List α), (∀ a ∈ l, f a = g a) → l.filterMap f = l.filterMap g
  | [], _ => rfl
  | a :: l, h => by
    rw [List.filterMap_cons, List.filterMap_cons, h a List.mem_cons_self, fm_congr l fun b hb => h b (List.mem_cons_of_mem _ hb)]
theorem rev_pick (xs : Array Value) : ((List.range xs.size).filterMap fun (k : Nat) => xs[((xs.size : Int) - 1 + (k : Int) * (-1)).toNat]?).toArray = xs.toList.reverse.toArray := by
  congr 1
  have e : ∀ k ∈ List.range xs.size, xs[((xs.size : Int) - 1 + (k : Int) * (-1)).toNat]? = xs.toList.reverse[k]? := by
    intro k hk
    have hk' := List.mem_range.mp hk
    have hx : ((xs.size : Int) - 1 + (k : Int) * (-1)).toNat = xs.size - 1 - k := by omega
    rw [hx]
    rw [List.getElem?_reverse (by simpa using hk')]
    simp only [Array.length_toList, Array.getElem?_toList]
  rw [fm_congr _ e]
  have : ∀ (ys : List Value), (List.range ys.length).filterMap (fun k => ys[k]?) = ys := by
    intro ys
    induction ys with
    | nil => rfl
    | cons y ys ih =>
      rw [List.length_cons, List.range_succ_eq_map, List.filterMap_cons]
      simp only [List.getElem?_cons_zero]
      rw [List.filterMap_map]
      simpa [Function.comp_def] using ih
  have h2 := this xs.toList.reverse
  rw [List.length_reverse, Array.length_toList] at h2
  exact h2
theorem getItem_tuple_rev {t sl : Addr} {items : Array Value} {vl vu vs : Value} {Q : Value → Shared → Prop} (ht : IsTup s.heap t items) (hs : s.heap.IsSliceOf sl vl vu vs) (pl : IsPart vl none) (pu : IsPart vu none) (ps : IsPart vs (some (-1)))
    (h : Q (.ref s.heap.objs.size) { s with heap := s.heap.push { cls := .type "tuple", data := .seq items.toList.reverse.toArray } })
    (hsz : items.size ≤ sizeLine) : wpAny (model prog w) A (getItem (.ref t) (.ref sl)) Q E s := by
  have htake : sizeOk (.seq items.toList.reverse.toArray) := by
    show items.toList.reverse.toArray.size ≤ sizeLine
    rw [List.size_toArray, List.length_reverse, Array.length_toList]
    exact hsz
  obtain ⟨os, hos, hcs, hds⟩ := id hs
  have hTs : s.TypeIs (.ref sl) "slice" := ⟨os, hos, hcs⟩
  unfold getItem
  try with_reducible refine wpAny_holding ?_
  first | refine wpAny_bind (wpAny_pure ?_) | skip
  refine wpAny_bind (wpAny_sequenceKey ht.typeIs (by decide) ?_)
  refine wpAny_bind (wpAny_callSpecial?_slot (name := Str.ofString "__getitem__") ht.typeIs PyProof.Rows.slot_tuple_getitem
    (wpAny_call_entry PyProof.Rows.slot_tuple_getitem ht.typeIs entry_tuple_getitem ?_ (args_tuple_getitem _ _)))
  show wpAny _ _ (Builtin.Tuple.tupleItemsOf (.ref t) >>= _) _ _ s
  refine wpAny_bind (tupleItemsOf_ ht ?_)
  refine wpAny_bind (wpAny_typeOf hTs ?_)
  rw [if_pos (by decide)]
  refine wpAny_bind ?_
  unfold Builtin.Slice.sliceApplied Builtin.Slice.sliceFields
  refine wpAny_bind (wpAny_bind (wpAny_field hos hds (x := vl) rfl (wpAny_bind (wpAny_field hos hds (x := vu) rfl (wpAny_bind (wpAny_field hos hds (x := vs) rfl (wpAny_pure ?_)))))))
  refine wpAny_bind (HT.slicePart_ ps ?_)
  show wpAny _ _ (if ((-1 : Int) == 0) = true then _ else _) _ _ s
  rw [if_neg (by decide)]
  refine wpAny_bind (HT.slicePart_ pl (wpAny_bind (HT.slicePart_ pu (wpAny_bind (wpAny_pure ?_)))))
  show wpAny _ _ (match Builtin.Slice.sliceAdjust none none (-1) ((items.size : Nat) : Int) with | (lo, hi) => pure (lo, (-1 : Int), Builtin.Slice.slicePlaces lo hi (-1))) _ _ s
  rw [rev_adj]
  show wpAny _ _ (pure (((items.size : Nat) : Int) - 1, (-1 : Int), Builtin.Slice.slicePlaces (((items.size : Nat) : Int) - 1) (-1) (-1))) _ _ s
  rw [rev_places]
  refine wpAny_pure ?_
  show wpAny _ _ (if ((((items.size : Nat) : Int) - 1) == 0 && (-1 : Int) == 1 && items.size == items.size) = true then _ else _) _ _ s
  rw [if_neg (by simp), rev_pick]
  first
    | exact wpAny_bind (m := Builtin.Tuple.tupleExact _) (wpAny_newObj_type (wpAny_pure ⟨_, rfl, wpAny_pure h⟩) htake)
    | exact wpAny_bind (m := Builtin.Tuple.tupleExact _) (wpAny_newObj_type (wpAny_bind (wpAny_pure (wpAny_pure ⟨_, rfl, wpAny_pure h⟩))) htake)
    | exact wpAny_bind (wpAny_bind (m := Builtin.Tuple.tupleExact _) (wpAny_newObj_type (wpAny_pure (wpAny_pure ⟨_, rfl, wpAny_pure h⟩)) htake))
    | exact wpAny_bind (wpAny_bind (m := Builtin.Tuple.tupleExact _) (wpAny_newObj_type (wpAny_pure ⟨_, rfl, wpAny_pure h⟩) htake))
end
section
variable {X : Cx} {Wx : WX} {pos : Pos}
def tRevA (K : PySem.W.Frag) (te : TE) : TE := fun σ H Q => te σ H fun x H1 => ∃ a xs, x = .ref a ∧ ((SqL K H1 a xs ∧ ∀ p, H1 p = none → Q (.ref p) (upd H1 p (.lst xs.reverse))) ∨ (SqT K H1 a xs ∧ ∀ p, H1 p = none → Q (.ref p) (upd H1 p (.tup xs.reverse))))
theorem pe_revA {e : Expr} {te : TE} {k : Nat} {p1 p2 p3 pos : Pos} (he : PE X e te) : PE X (.Subscript e (.Slice none none (some (.UnaryOp .USub (.Constant (.int 1) k p1) p2)) p3) pos) (tRevA X.K te) := by
  refine ⟨fun pins s σ H Q I h => ?_⟩
  refine Subscript_ (thn (he.run pins s σ H _ I h) fun v s1 ⟨x, H1, I1, r1, q1⟩ => ?_)
  obtain ⟨a, xs, ex, q⟩ := q1
  subst ex
  cases r1
  have hst : PO X (some (.UnaryOp .USub (.Constant (.int 1) k p1) p2)) (tPart (tUn (rU fun i => .int (-i)) (tC (.int 1)))) := po_some (pe_un un_neg pe_int)
  refine wpAny_Slice (thn (po_none.run pins s1 σ H1 (fun o H2 => o = none ∧ H2 = H1) I1 ⟨rfl, rfl⟩) fun vl s2 ⟨l, H2, I2, pl, el, e2⟩ => ?_)
  subst el e2
  refine thn (po_none.run pins s2 σ H2 (fun o H3 => o = none ∧ H3 = H2) I2 ⟨rfl, rfl⟩) fun vu s3 ⟨u, H3, I3, pu, eu, e3⟩ => ?_
  subst eu e3
  refine thn (hst.run pins s3 σ H3 (fun o H4 => o = some (-1) ∧ H4 = H3) I3 ⟨1, rfl, -1, rfl, rfl, rfl⟩) fun vs s4 ⟨o, H4, I4, ps, eo, e4⟩ => ?_
  subst eo e4
  have I5 : Inv X pins σ H4 { s4 with heap := s4.heap.push { cls := .type "slice", data := .fields #[vl, vu, vs] } } := I4.kept (t' := s4.toks) fun b ob q => Heap.get?_push_of_some _ q
  show wpAny (model X.prog X.w) X.A (subscriptTail e (.Slice none none (some (.UnaryOp .USub (.Constant (.int 1) k p1) p2)) p3) (.ref a) (.ref s4.heap.objs.size)) (EP X pins σ Q) X.xe { s4 with heap := s4.heap.push { cls := .type "slice", data := .fields #[vl, vu, vs] } }
  rcases q with ⟨hx, q⟩ | ⟨hx, q⟩
  · obtain ⟨its, r, ht, hz⟩ := I5.list hx
    have hlen := r.length
    refine tail_any (ops := [.ref a, .ref s4.heap.objs.size]) ht.isList.typeIs (PySem.slot_list_getitem.lookup) ?_ (by with_unfolding_all rfl)
    refine wpAny_getItem_list_slice ht.isList (Heap.IsSliceOf.new _ vl vu vs) pl pu ps (by decide) ?_ (by rw [List.size_toArray]; omega)
    rw [PySem.W.krv_pick]
    refine ⟨.ref _, _, I5.laid (t' := s4.toks) (o := .lst xs.reverse) (fun b ob q => Heap.get?_push_of_some _ q) (Nat.le_refl _) ?_, rfl, q _ (I5.hok.fresh (Nat.le_refl _))⟩
    exact ⟨by rw [List.length_reverse]; exact hz, _, 0, r.reverse, Heap.get?_push_size _ rfl⟩
  · obtain ⟨its, r, ht, hz⟩ := I5.tuple hx
    have hlen := r.length
    refine tail_any (ops := [.ref a, .ref s4.heap.objs.size]) ht.typeIs (PyProof.Rows.slot_tuple_getitem.lookup) ?_ (by with_unfolding_all rfl)
    refine getItem_tuple_rev ht (Heap.IsSliceOf.new _ vl vu vs) pl pu ps ?_ (by rw [List.size_toArray]; omega)
    refine ⟨.ref _, _, I5.laid (t' := s4.toks) (o := .tup xs.reverse) (fun b ob q => Heap.get?_push_of_some _ q) (Nat.le_refl _) ?_, rfl, q _ (I5.hok.fresh (Nat.le_refl _))⟩
    exact ⟨by rw [List.length_reverse]; exact hz, _, r.reverse, IsTup.new _ _⟩
theorem RDs.rev {g : G} {w : W} : ∀ {ds : List D} {vs : List V}, RDs g w ds vs → RDs g w ds.reverse vs.reverse
  | [], vs, r => by
    cases r
    exact rfl
  | d :: ds, vs, r => by
    obtain ⟨v, vs', rfl, r1, r2⟩ := r
    rw [List.reverse_cons, List.reverse_cons]
    exact r2.rev.append (RDs.one r1)
theorem de_rev {e : Expr} {ma : ME} {k : Nat} {p1 p2 p3 pos : Pos} (he : PE X e (TEof X.g Wx ma)) : PE X (.Subscript e (.Slice none none (some (.UnaryOp .USub (.Constant (.int 1) k p1) p2)) p3) pos) (TEof X.g Wx (eRev ma)) := by
  refine peImp (pe_revA he) fun σ H Q ⟨w, E, S, a, p⟩ => ?_
  refine ⟨w, E, S, a, PR.imp (PR.bind a.good a.env p) fun x H1 ⟨w1, d, S1, a1, x1, r1, p1⟩ => ?_⟩
  unfold oRev at p1
  rw [← a1.hp]
  split at p1
  · obtain ⟨q, vs, rfl, t, r⟩ := r1
    exact ⟨q, vs, rfl, .inr ⟨t.sq, fun z hz => new_tup p1 a1.good a1.sto r.rev z hz⟩⟩
  · split at p1
    · rename_i ds e2
      obtain ⟨q, vs, rfl, t, r⟩ := r1.lstAt a1.sto e2
      exact ⟨q, vs, rfl, .inl ⟨SqL.of t, fun z hz => new_lst p1 a1.good a1.sto r.rev z hz⟩⟩
    · exact p1.elim
/-! sorted of ints, of a tuple too -/
end
section
variable {prog : Program} {w : World} {A : Around} {E : Value → Shared → Prop} {s : Shared}
open SrtO in
end
section
variable {X : Cx} {Wx : WX} {pos : Pos}
/-! bool(x) -/
/-! t.count(k), ints -/
/-! t * 0 -/
end
end J
set_option Elab.async false
set_option linter.all false
set_option maxRecDepth 100000
set_option maxHeartbeats 1000000
namespace J
open PySem PySem.Spec PyProof.Rows L2
section
variable {X : Cx} {Wx : WX} {pos : Pos}
theorem putKs_len {ks : List Ky} {k : Ky} : (putKs ks k).length ≤ ks.length + 1 := by
  unfold putKs
  split
  · omega
  · simp
theorem put_zip {g : G} {w : W} {ks : List Ky} {ds : List D} {vs : List V} {k : Ky} {d : D} {v : V} (l : ks.length = vs.length) (r : RDs g w ds vs) (rd : RD g w d v) :
    ∃ us, L2.putK (ks.zip vs) k v = (putKs ks k).zip us ∧ (putKs ks k).length = us.length ∧ RDs g w (putDs ks ds k d) us := by
  have ea : ((ks.zip vs).any fun kv => decide (kv.1 = k)) = keyIn ks k := by rw [valV_any, valV_some k l]
  unfold L2.putK putKs putDs
  rw [ea]
  cases hk : keyIn ks k with
  | true =>
    rw [if_pos rfl, if_pos rfl, if_pos rfl, zip_map (ks := ks) k v l]
    exact ⟨_, rfl, by simp [l], RDs.zipSet k rd r⟩
  | false =>
    rw [if_neg Bool.false_ne_true, if_neg Bool.false_ne_true, if_neg Bool.false_ne_true]
    refine ⟨vs ++ [v], by rw [List.zip_append l]; rfl, by simp [l], r.append (RDs.one rd)⟩
theorem dcUse {own : List Nat} {mi : MI} {t : Tg} {mc : MT} {mk mv : ME} (hsl : ∀ i, i ∈ t.slots → i ∈ own) :
    ∀ (σ : L2.St) H Q, TEof X.g Wx (eDc own t mi mc mk mv) σ H Q → tDc (TIof X.g Wx mi) (TGof X.g t) (TTof X.g W0 mc) (TEof X.g W0 mk) (TEof X.g W0 mv) own σ H Q := fun σ H Q ⟨w, E, S, a, p⟩ => by
  refine ⟨w, E, S, a, ?_⟩
  unfold eDc at p
  cases hmi : mi E S with
  | bad => rw [hmi] at p; exact p.elim
  | exc c fs S1 => rw [hmi] at p; exact p
  | ok src S1 =>
    rw [hmi] at p
    simp only at p
    split at p
    · rename_i hsz
      intro J0 w1 x1 G1 it rs1 Dd hD
      have p1 := PR.at p x1
      have re1 := a.env.mono a.good x1
      have nD : Dd ∉ w1.rhA := fun z => G1.al Dd (G1.sub Dd z) hD
      refine ⟨fun i k H => ∃ w2 ks ds vs S2, w2.H = H ∧ Good w2 ∧ RS X.g w2 S2 ∧ Ext w1 w2 ∧ Dd ∉ w2.rhA ∧ S1.length ≤ S2.length ∧ w2.thA Dd ∧ H Dd = some (.dK (ks.zip vs)) ∧ ks.length = vs.length ∧ RDs X.g w2 ds vs ∧ ks.length ≤ i ∧ i + k = src.len ∧ PR X.g Wx σ w1 (RD X.g) Q (dcGo src t mc mk mv (wipeE E own) S1.length k i ks ds S2),
        ⟨src.len, w1.hide Dd (.dK []), [], [], [], S1, rfl, hide_good G1 hD, rs1.keep G1 (hide_ext hD) rfl (fun b hb => upd_ne fun e => nD (by rw [← e]; exact hb)), hide_ext hD, nD, Nat.le_refl _, .inr rfl, upd_same, rfl, rfl, Nat.zero_le _, by omega, p1⟩, ?_⟩
      rintro i k H ⟨w2, ks, ds, vs, S2, rfl, G2, rs2, x2, hr2, hl2, hthA2, hD2, hkv, r2, hai, hik, p2⟩
      cases k with
      | zero =>
        simp only [dcGo] at p2
        split at p2
        · rename_i al
          have hi : i = src.len := by omega
          subst hi
          refine .inl ⟨it.stop w2 S2 x2 rs2 al, ?_⟩
          have k : Weak w2 ⟨fun a => w2.thA a ∧ a ≠ Dd, w2.rhA, w2.H⟩ := weak_take rfl fun _ z => z.1
          exact p2 (.ref Dd) ⟨fun a => w2.thA a ∧ a ≠ Dd, w2.rhA, w2.H⟩ ⟨x2.rho, fun a h => ⟨x2.th1 a h, fun z => G1.al a h (by rw [z]; exact hD)⟩, fun a h => x2.th2 a h.1, x2.kp, x2.al⟩
            ⟨G2.nd, fun a h => ⟨G2.sub a h, fun z => hr2 (by rw [← z]; exact h)⟩, fun a h => G2.al a h.1, fun a h => G2.nt a h.1⟩ ⟨Dd, vs, rfl, .inl hD2, hkv, fun z => z.2 rfl, RDs.weakW k (fun _ _ h => h) _ _ r2⟩ (rs2.weakW k rfl fun _ _ => rfl)
        · exact p2.elim
      | succ k =>
        simp only [dcGo] at p2
        split at p2
        · rename_i al
          split at p2
          · exact p2.elim
          · rename_i d hd
            split at p2
            · exact p2.elim
            · rename_i E1 hE
              have hlt : i < src.len := by omega
              refine .inr ⟨it.go i w2 S2 d x2 rs2 al hd hlt, fun H' => ∃ w2 ks ds vs S2, w2.H = H' ∧ Good w2 ∧ RS X.g w2 S2 ∧ Ext w1 w2 ∧ Dd ∉ w2.rhA ∧ S1.length ≤ S2.length ∧ w2.thA Dd ∧ H' Dd = some (.dK (ks.zip vs)) ∧ ks.length = vs.length ∧ RDs X.g w2 ds vs ∧ ks.length ≤ i + 1 ∧ (i + 1) + k = src.len ∧ PR X.g Wx σ w1 (RD X.g) Q (dcGo src t mc mk mv (wipeE E own) S1.length k (i + 1) ks ds S2), fun H' hN => ⟨k, Nat.lt_succ_self k, hN⟩, fun x H' hy => ?_⟩
              obtain ⟨w3, rfl, x3, G3, hr3, hthA3, r3, rs3⟩ := it.yld i w2 S2 d x H' x2 G2 rs2 al hd hlt hy
              have nD2 : Dd ∉ w2.rhA := hr2
              have nD3 : Dd ∉ w3.rhA := by rw [hr3]; exact nD2
              have hthAD3 : w3.thA Dd := x3.th1 Dd hthA2
              have hD3 : w3.H Dd = some (.dK (ks.zip vs)) := x3.kpT hD2 nD2 hthA2
              have rw3 : RE X.g w3 (wipeE E own) (L2.wipe σ own) := ((re1.mono G1 x2).mono G2 x3).wipe own
              refine ⟨w3, wipeE E own, S2, d, E1, ⟨rfl, G3, rw3, rs3⟩, r3, hE, fun σ' re hk hl => ⟨wipe_eq hsl hk hl, w3, E1, S2, ⟨rfl, G3, re, rs3⟩, ?_⟩⟩
              cases hc : mc E1 S2 with
              | bad => rw [hc] at p2; exact p2.elim
              | exc c fs S3 => rw [hc] at p2; exact p2.elim
              | ok b S3 =>
                rw [hc] at p2
                simp only at p2
                intro b' w4 x4 G4 rb rs4
                obtain rfl : b = b' := rb
                have rho : ∀ (w5 : W), Ext w3 w5 → Dd ∉ w5.rhA := fun w5 x5 z => by
                  obtain ⟨τ, e5, f5⟩ := x5.rho
                  rw [e5] at z
                  rcases List.mem_append.mp z with z | z
                  · exact nD3 z
                  · have := f5 Dd z
                    rw [hD3] at this
                    cases this
                cases b with
                | false =>
                  rw [if_neg Bool.false_ne_true] at p2 ⊢
                  split at p2
                  · rename_i l3
                    exact ⟨w4, ks, ds, vs, S3, rfl, G4, rs4, x2.trans (x3.trans x4), rho w4 x4, l3, x4.th1 Dd hthAD3, x4.kpT hD3 nD3 hthAD3, hkv, (r2.mono G2 (x3.trans x4)), by omega, by omega, p2⟩
                  · exact p2.elim
                | true =>
                  rw [if_pos rfl] at p2 ⊢
                  refine ⟨w4, E1, S3, ⟨rfl, G4, re.mono G3 x4, rs4⟩, ?_⟩
                  cases he : mk E1 S3 with
                  | bad => rw [he] at p2; exact p2.elim
                  | exc c fs S3 => rw [he] at p2; exact p2.elim
                  | ok z S4 =>
                    rw [he] at p2
                    simp only at p2
                    split at p2
                    · exact p2.elim
                    · rename_i q hq
                      intro y w5 x5 G5 rz rs5
                      obtain rfl : y = kV q := keyOf_kV rz hq
                      refine ⟨w5, E1, S4, ⟨rfl, G5, (re.mono G3 x4).mono G4 x5, rs5⟩, ?_⟩
                      cases hv : mv E1 S4 with
                      | bad => rw [hv] at p2; exact p2.elim
                      | exc c fs S3 => rw [hv] at p2; exact p2.elim
                      | ok zz S5 =>
                        rw [hv] at p2
                        simp only at p2
                        split at p2
                        · rename_i l4
                          intro u w6 x6 G6 ru rs6
                          have x36 := x4.trans (x5.trans x6)
                          have hr6 := rho w6 x36
                          have hthAD6 : w6.thA Dd := x36.th1 Dd hthAD3
                          have hD6 : w6.H Dd = some (.dK (ks.zip vs)) := x36.kpT hD3 nD3 hthAD3
                          have r6 : RDs X.g w6 ds vs := r2.mono G2 (x3.trans x36)
                          obtain ⟨us, ez, lz, rz6⟩ := put_zip (k := q) hkv r6 ru
                          refine ⟨ks.zip vs, q, rfl, hD6, by rw [List.length_zip, ← hkv, Nat.min_self, ← sl_eq]; omega, ?_⟩
                          rw [ez]
                          have kw : Weak w6 { w6 with H := upd w6.H Dd (.dK ((putKs ks q).zip us)) } := weak_upd hthAD6
                          have x16 := x2.trans (x3.trans x36)
                          refine ⟨{ w6 with H := upd w6.H Dd (.dK ((putKs ks q).zip us)) }, putKs ks q, putDs ks ds q zz, us, S5, rfl, put_upd G6, rs6.weakW kw rfl (fun b hb => upd_ne fun e => hr6 (by rw [← e]; exact hb)), ⟨x16.rho, x16.th1, x16.th2, fun b o hb nb => ?_, fun b hb => ?_⟩, hr6, l4, hthAD6, upd_same, lz, RDs.weakW kw (fun _ _ h => h) _ _ rz6, by have := putKs_len (ks := ks) (k := q); omega, by omega, p2⟩
                          · have hne : b ≠ Dd := fun e => by rw [e, hD] at hb; cases hb
                            rcases x16.kp b o hb nb with q | ⟨nt, od, kvs, eo, q⟩
                            · exact .inl ((upd_ne hne).trans q)
                            · exact .inr ⟨nt, od, kvs, eo, (upd_ne hne).trans q⟩
                          · show upd w6.H Dd _ b ≠ none
                            by_cases e : b = Dd
                            · rw [e, upd_same]; simp
                            · rw [upd_ne e]; exact x16.al b hb
                        · exact p2.elim
        · exact p2.elim
    · exact p.elim
theorem ps_setDc {i : Nat} {y : Str} {py : Pos} {kx vx tg iter : Expr} {ifs : List Expr} {scope : Scope} {own : List (Str × Nat)} {pos spos : Pos} {wi : TI} {g : TG} {tt : TT} {tk tv : TE} (hc : X.calm = true) (hN : X.N.Nodup) (hy : X.N[i]? = some y) (hyl : X.env.scope.names.lookup y = some .local)
    (hsw : swapsWith (.DictComp kx vx [⟨tg, iter, ifs, 0⟩] scope pos) (some (.Name y py)) spos.line X.env = pure true) (hi : PI X tg iter wi) (ok : BlkOk X.N X.env.scope scope own)
    (hg : ∀ (s : Shared) (H : Hp) (C : Addr) (cl : List (Str × Addr)) (fp : List Addr), PG (X.blk s H scope (compEnvC scope cl C X.env) fp) tg g) (ht : ∀ (s : Shared) (H : Hp) (C : Addr) (cl : List (Str × Addr)) (fp : List Addr), PTs (X.blk s H scope (compEnvC scope cl C X.env) fp) ifs tt)
    (hk : ∀ (s : Shared) (H : Hp) (C : Addr) (cl : List (Str × Addr)) (fp : List Addr), PE (X.blk s H scope (compEnvC scope cl C X.env) fp) kx tk)
    (he : ∀ (s : Shared) (H : Hp) (C : Addr) (cl : List (Str × Addr)) (fp : List Addr), PE (X.blk s H scope (compEnvC scope cl C X.env) fp) vx tv) (hs : ∀ x, foldedSetIterable iter X.env x = pure x := by intro _; rfl) :
    PS X (.Assign [.Name y py] (.DictComp kx vx [⟨tg, iter, ifs, 0⟩] scope pos) spos) (tAsg (tDc wi g tt tk tv (own.map (·.2))) (gName i)) := by
  refine ⟨fun pins s σ H D I h => ?_⟩
  rw [exec_Assign_Name_used _ _ _ _ hsw]
  refine wpAny_bind (wpAny_standAt (wpAny_bind ?_))
  show wpAny _ X.A (do let _ ← comprehension (.DictComp kx vx [⟨tg, iter, ifs, 0⟩] scope pos) scope X.env (firstIterPos [⟨tg, iter, ifs, 0⟩] pos) newDict false (eval iter X.env) (some (assign (.Name y py) X.env))) _ _ s
  have h : tDc wi g tt tk tv (own.map (·.2)) σ H (fun x H1 => gName i x σ H1 D.nx) := h
  refine wpAny_bind (thn (dc_core (Qf := fun _ s' => SP X pins D .next s') hc hN I hi ok hg ht hk he hs h fun L C s' m H' I' q hn f => ?_) fun _ s' hq => wpAny_pure (wpAny_pure hq))
  show wpAny _ _ (assign (.Name y py) X.env (.ref L)) _ _ _
  refine wpAny_assign_Name (store_ok2 (v := V.ref L) I' hN hy (.inl hyl) rfl (fun s2 I2 ⟨a, sb, ha⟩ => ?_) (.inr hyl))
  obtain ⟨f0, f1, f2, f3, f4, f5⟩ := f
  have haC : C ≠ a := by
    rcases ha with z | z
    · rw [z]; exact f1
    · exact fun e => f4 y a z e.symm
  refine ⟨m, hn.sameBut sb haC, fun h3 sb3 => ?_⟩
  exact ⟨_, H', I2.turned (t' := s2.toks) (fun b o hb e => (sb3.2 b hb).trans e) f0 f1 f3 f4 f5, q⟩
theorem sw_trueD {kx vx : Expr} {gs : List Comprehension} {scope : Scope} {pos py : Pos} {y : Str} {l : Nat} {env : PySem.Env} (hk : env.scope.kind = .function) (hy : env.scope.names.lookup y = some .local) (hl : (py.line == pos.line) = true)
    (ha : (scope.names.any fun (n, k) => n == y && (k == .local || k == .cell)) = false) : swapsWith (.DictComp kx vx gs scope pos) (some (.Name y py)) l env = pure true := by
  have ky : env.kindOf y = some .local := hy
  have hb : env.blockKind = .function := by unfold Env.blockKind; rw [hk]; rfl
  unfold swapsWith
  simp only [hb, ky, ha, Expr.pos, hl]
  rfl
/-! min(d) -/
/-! d.get(k, x) -/
/-! is True -/
/-! tuple(range(n)) -/
end
end J
set_option Elab.async false
set_option linter.all false
set_option maxRecDepth 100000
set_option maxHeartbeats 1000000
namespace J
open PySem PySem.Spec PyProof.Rows L2
/-! for .. in d.items() -/
theorem kD_rd {g : G} {w : W} (k : Ky) : RD g w (kD k) (kV k) := by
  cases k <;> rfl
section
variable {X : Cx} {Wx : WX}
def tFz (te : TE) : TE := fun σ H Q => te σ H fun x H1 => ∃ d kvs, x = .ref d ∧ Rd H1 d (.dK kvs) ∧ (∀ o, H1 d = some (.dK kvs) → Q x (upd H1 d (.frz o (.dK kvs)))) ∧ ∀ o, H1 d = some (.frz o (.dK kvs)) → Q x H1
theorem pe_fz {e : Expr} {te : TE} (he : PE X e te) : PE X e (tFz te) := by
  refine ⟨fun pins s σ H Q I h => ?_⟩
  refine thn (he.run pins s σ H _ I h) fun v s1 ⟨x, H1, I1, rx, d, kvs, ex, hd, q1, q2⟩ => ?_
  rcases hd with hd | ⟨o, hd⟩
  · obtain ⟨od, I2⟩ := I1.lock hd True.intro
    exact ⟨x, _, I2, rx, q1 od hd⟩
  · exact ⟨x, H1, I1, rx, q2 o hd⟩
theorem its_items {g : G} {w : W} {a : Addr} {o : Obj} {ks : List Ky} {ds : List D} {vs : List V} (G0 : Good w) (h : w.H a = some (.frz o (.dK (ks.zip vs)))) (n : ¬ w.thA a) (l : ks.length = vs.length) (r : RDs g w ds vs) :
    ItOk g w (Iti a o (ks.zip vs)) (Src.its (itemsS ks ds)) := by
  have na : a ∉ w.rhA := fun z => n (G0.sub a z)
  have hl := r.length
  have hlen : (itemsS ks ds).length = (ks.zip vs).length := by simp [itemsS]; omega
  have kp : ∀ w', Ext w w' → w'.H a = some (.frz o (.dK (ks.zip vs))) := fun w' x => x.kpN h na dkt_frz
  refine ⟨fun i w' S d x rs al e hi => ⟨kp w' x, ?_⟩, fun w' S x rs al => ⟨kp w' x, ?_⟩, fun i w' S d x H' ex G rs al e hi y => ?_⟩
  · have : i < (itemsS ks ds).length := hi
    omega
  · show (ks.zip vs).length ≤ (itemsS ks ds).length
    omega
  · obtain ⟨T, k, v, hk, rfl, hT, rfl⟩ := y
    have e' : (itemsS ks ds)[i]? = some d := e
    unfold itemsS at e'
    rw [List.getElem?_zipWith] at e'
    have hki : ks[i]? = some k ∧ vs[i]? = some v := by
      rw [List.getElem?_zip_eq_some] at hk
      exact hk
    rw [hki.1] at e'
    cases hd : ds[i]? with
    | none => rw [hd] at e'; simp at e'
    | some d0 =>
      rw [hd] at e'
      simp at e'
      subst e'
      obtain ⟨v', hv', rd⟩ := (r.mono G0 ex).get hd
      rw [hki.2] at hv'
      cases hv'
      exact pairNew G rs hT (kD_rd k) rd
theorem di_items {e : Expr} {ma : ME} {elts : List Expr} {kk : Nat} {tpos apos cpos : Pos} (he : PE X e (TEof X.g Wx ma)) (hbase : attributeBase e "items" X.env (eval e X.env) = eval e X.env := by rfl) (hline : (apos.endLine == cpos.line) = true := by rfl) :
    PI X (.Tuple elts kk tpos) (.Call (.Attribute e "items" apos) [] [] cpos) (TIof X.g Wx (iItemsJ ma)) := by
  refine piImp (pi_items (pe_fz he) hbase hline) fun σ H Q ⟨w, E, S, a, p⟩ => ?_
  refine ⟨w, E, S, a, ?_⟩
  have p1 : PR X.g Wx σ w (fun w' s J => ItOk X.g w' J s) Q ((ma E S).bind fun x S1 => match x with
    | .dct ks ds => .ok (Src.its (itemsS ks ds)) S1
    | _ => .bad) := p
  cases hm : ma E S with
  | bad => rw [hm] at p1; exact p1.elim
  | exc c fs S1 => rw [hm] at p1; exact p1
  | ok x S1 =>
    rw [hm] at p1
    cases x with
    | dct ks ds =>
      have p2 : PR X.g Wx σ w (fun w' s J => ItOk X.g w' J s) Q (.ok (Src.its (itemsS ks ds)) S1) := p1
      intro v w1 x1 G1 r1 rs1
      obtain ⟨b, vs, rfl, t, l, n, r3⟩ := r1
      refine ⟨b, _, rfl, t, fun o h => ?_, fun o h => ?_⟩
      · have na : b ∉ w1.rhA := fun z => n (G1.sub b z)
        have x2 : Ext w1 { w1 with H := upd w1.H b (.frz o (.dK (ks.zip vs))) } := by
          refine ⟨⟨[], by simp, by simp⟩, fun _ z => z, fun _ z => .inl z, fun c u hc hn => ?_, fun c hc => ?_⟩
          · by_cases ec : c = b
            · subst ec
              rw [h] at hc
              cases hc
              exact .inr ⟨n, o, .inl _, rfl, upd_same⟩
            · exact .inl ((upd_ne ec).trans hc)
          · show upd w1.H b _ c ≠ none
            by_cases ec : c = b
            · rw [ec, upd_same]; simp
            · rw [upd_ne ec]; exact hc
        have G2 : Good { w1 with H := upd w1.H b (.frz o (.dK (ks.zip vs))) } := put_upd G1
        have rs2 := rs1.keep G1 x2 rfl fun c hc => upd_ne fun ec => na (by rw [← ec]; exact hc)
        exact ⟨b, o, _, rfl, upd_same, p2 _ _ (x1.trans x2) G2 (its_items G2 upd_same n l (r3.mono G1 x2)) rs2⟩
      · exact ⟨b, o, _, rfl, h, p2 _ _ x1 G1 (its_items G1 h n l r3) rs1⟩
    | _ => exact p1.elim
/-! x *= y -/
theorem ji_mul : PIp X .Mult (opOf X.g iMul) := by
  intro pins s σ H x y v u Q I rx ry ⟨Wx, σ', w, S, d, e, hH, G, rs, r1, r2, p⟩
  subst hH
  unfold iMul at p
  split at p
  · split at p
    · rename_i h
      cases r1
      cases r2
      exact iop_mul pins s σ _ _ _ v u Q I rx ry ⟨_, _, rfl, rfl, h.imp smallI_iff.mp smallI_iff.mp, putSame p G rs rfl⟩
    · exact p.elim
  · exact p.elim
/-! gcd, lcm -/
theorem jc_gcd : CallR X (.builtin "math.gcd") (argOf X.g bGcd) := by
  intro pins s σ H xs us Q I r ⟨Wx, σ', w, S, ds, hH, G, rs, r1, p⟩
  subst hH
  unfold bGcd at p
  split at p
  · obtain ⟨v, u, rfl, r2, r3⟩ := r1.two'
    cases r2
    cases r3
    exact cr_gcd pins s σ _ _ us Q I r ⟨_, _, rfl, putSame p G rs rfl⟩
  · exact p.elim
theorem lcm_bits {a b : Nat} (ha : a < 18446744073709551616) (hb : b < 18446744073709551616) : (((a.lcm b : Nat) : Int)).natAbs.log2 < bitsLine := by
  have h1 : a.lcm b ≤ a * b := Nat.div_le_self _ _
  have h2 : a * b ≤ 18446744073709551616 * 18446744073709551616 := Nat.mul_le_mul (by omega) (by omega)
  have h3 : a.lcm b < 2 ^ 129 := by omega
  rw [Int.natAbs_natCast]
  by_cases h0 : a.lcm b = 0
  · rw [h0]; decide
  · have := (Nat.log2_lt h0).mpr h3
    have hb : 129 ≤ bitsLine := by decide
    omega
theorem jc_lcm : CallR X (.builtin "math.lcm") (argOf X.g bLcm) := by
  intro pins s σ H xs us Q I r ⟨Wx, σ', w, S, ds, hH, G, rs, r1, p⟩
  subst hH
  unfold bLcm at p
  split at p
  · split at p
    · rename_i h
      obtain ⟨v, u, rfl, r2, r3⟩ := r1.two'
      cases r2
      cases r3
      obtain ⟨t, u, rfl⟩ := Vals.int2 r
      have e1 : ∀ n : Nat, Nat.lcm 1 n = n := fun n => by simp [Nat.lcm]
      refine PySem.W.mg_lcm (by have := h.1; omega) (by have := h.2; omega) (by rw [e1]; exact lcm_bits h.1 h.2) ?_
      rw [e1]
      exact ⟨.int _, _, I.tok _, ⟨_, rfl⟩, putSame p G rs rfl⟩
    · exact p.elim
  · exact p.elim
theorem de_callBf {x : Str} {id : String} {b : List D → List D → R D} {e : Expr} {es : List Expr} {ma : MA} {p pos : Pos} (hc : CallR X (.builtin id) (argOf X.g b)) (hg : Gl X x) (hm : X.mg x = some (.builtin id)) (ha : PA X (e :: es) (TAof X.g Wx ma)) (hdb : (x == ("__debug__" : Str)) = false := by decide +kernel)
    (he : starEach (e :: es) X.env = (false, eval e X.env) :: starEach es X.env := by rfl) (hpl : (backTo pos (starEach es X.env)).any (·.1) = false := by rfl) : PE X (.Call (.Name x p) (e :: es) [] pos) (TEof X.g Wx (eArgs b ma)) :=
  peImp (pe_callBfun hc hg hm ha hdb he hpl) (args fun _ _ _ h => h)
end
end J
set_option Elab.async false
set_option linter.all false
set_option maxRecDepth 100000
set_option maxHeartbeats 1000000
namespace J
open PySem PySem.Spec PyProof.Rows L2
section
variable {X : Cx} {Wx : WX} {pos : Pos}
/-! is not True -/
/-! min(xs, default=None) -/
/-! any(xs), of a tuple too -/
end
end J
set_option Elab.async false
set_option linter.all false
set_option maxRecDepth 100000
set_option maxHeartbeats 1000000
namespace J
open PySem PySem.Spec PyProof.Rows L2
/-! dicts whose keys are tuples -/
theorem dctT_some {S : List D} {d : D} {ks : List (List Ky)} {xs : List D} (h : dctT S d = some (ks, xs)) : d = .dcT ks xs ∨ ∃ n, d = .loc n ∧ S[n]? = some (.dcT ks xs) := by
  unfold dctT at h
  split at h
  · cases h
    exact .inl rfl
  · split at h
    · rename_i n _ _ _ e
      cases h
      exact .inr ⟨_, rfl, e⟩
    · cases h
  · cases h
theorem RD.dctTAt {g : G} {w : W} {S : List D} {d : D} {v : V} {ks : List (List Ky)} {xs : List D} (rs : RS g w S) (r : RD g w d v) (h : dctT S d = some (ks, xs)) : ∃ p vs, v = .ref p ∧ Rd w.H p (.dT (ks.zip vs)) ∧ ks.length = vs.length ∧ RDs g w xs vs := by
  rcases dctT_some h with rfl | ⟨n, rfl, e⟩
  · obtain ⟨p, vs, rfl, t, l, _, r⟩ := r
    exact ⟨p, vs, rfl, t, l, r⟩
  · obtain ⟨p, rfl, hp⟩ := r
    obtain ⟨vs, h1, l, h2⟩ := rs.obj hp e
    exact ⟨p, vs, rfl, .inl h1, l, h2⟩
theorem valT_zip {g : G} {w : W} : ∀ {ks : List (List Ky)} {ds : List D} {vs : List V} (k : List Ky), ks.length = vs.length → RDs g w ds vs →
    (∀ d, getT ks ds k = some d → ∃ v, valV (ks.zip vs) k = some v ∧ RD g w d v) ∧ (getT ks ds k = none → valV (ks.zip vs) k = none)
  | [], ds, vs, k, l, r => ⟨fun d h => by simp [getT] at h, fun h => rfl⟩
  | q :: ks, [], vs, k, l, r => by
    have := r.length
    rw [← l] at this
    simp at this
  | q :: ks, e :: ds, _, k, l, r => by
    obtain ⟨v, vs, rfl, r1, r2⟩ := r
    have ih := valT_zip (ks := ks) (ds := ds) (vs := vs) k (by simpa using l) r2
    simp only [getT]
    rw [List.zip_cons_cons]
    by_cases hq : q = k
    · rw [if_pos hq]
      exact ⟨fun d h => by cases h; exact ⟨v, valV_pos hq, r1⟩, fun h => by cases h⟩
    · rw [if_neg hq, valV_neg hq]
      exact ih
section
variable {X : Cx} {Wx : WX} {pos : Pos}
theorem de_dctTL : PE X (.Dict [] [] pos) (TEof X.g Wx eDctTL) := by
  refine peImp pe_dnewT fun σ H Q ⟨w, E, S, a, p⟩ => fun q hq => ?_
  rw [← a.hp] at hq ⊢
  exact p (.ref q) (w.add q (.dT [])) (add_ext hq) (add_good a.good hq) ⟨q, rfl, by rw [a.sto.1]; simp⟩ (add_store a.good hq a.sto ⟨[], upd_same, rfl, rfl⟩)
/-! {k: v} -/
def tDispT (tk tv : TE) : TE := fun σ H Q => ∀ p, H p = none → tk σ (upd H p (.dT [])) fun x H1 => tv σ H1 fun y H2 => H2 p = some (.dT []) ∧ ∃ (k : List Key) (b : Addr), x = .ref b ∧ H2 b = some (.tup (k.map kV)) ∧ Q (.ref p) (upd H2 p (.dT [(k, y)]))
/-! d.get(k, x) -/
end
/-! for k, v in d.items() -/
def ItiT (d : Addr) (o : Obj) (kvs : List (List Key × V)) : It :=
  ⟨fun i H => H d = some (.frz o (.dT kvs)) ∧ i < kvs.length, fun i H x H' => ∃ T k v q, kvs[i]? = some (k, v) ∧ x = .ref T ∧ H q = some (.tup (k.map kV)) ∧ H T = none ∧ H' = upd H T (.tup [.ref q, v]), fun i H => H d = some (.frz o (.dT kvs)) ∧ kvs.length ≤ i⟩
def iItemsT' (td : TE) : TI := fun σ H R => td σ H fun x H1 => ∃ d o kvs, x = .ref d ∧ H1 d = some (.frz o (.dT kvs)) ∧ R (ItiT d o kvs) H1
def tFzT (te : TE) : TE := fun σ H Q => te σ H fun x H1 => ∃ d kvs, x = .ref d ∧ Rd H1 d (.dT kvs) ∧ (∀ o, H1 d = some (.dT kvs) → Q x (upd H1 d (.frz o (.dT kvs)))) ∧ ∀ o, H1 d = some (.frz o (.dT kvs)) → Q x H1
theorem pe_fzT {X : Cx} {e : Expr} {te : TE} (he : PE X e te) : PE X e (tFzT te) := by
  refine ⟨fun pins s σ H Q I h => ?_⟩
  refine thn (he.run pins s σ H _ I h) fun v s1 ⟨x, H1, I1, rx, d, kvs, ex, hd, q1, q2⟩ => ?_
  rcases hd with hd | ⟨o, hd⟩
  · obtain ⟨od, I2⟩ := I1.lock hd True.intro
    exact ⟨x, _, I2, rx, q1 od hd⟩
  · exact ⟨x, H1, I1, rx, q2 o hd⟩
theorem kDs_rd {g : G} {w : W} : ∀ ks : List Ky, RDs g w (ks.map kD) (ks.map kV)
  | [] => rfl
  | k :: ks => ⟨_, _, rfl, kD_rd k, kDs_rd ks⟩
section
variable {X : Cx} {Wx : WX} {pos : Pos}
end
end J
set_option Elab.async false
set_option linter.all false
set_option maxRecDepth 100000
set_option maxHeartbeats 1000000
namespace J
open PySem PySem.Spec PyProof.Rows L2
structure ExN (g : G) (c : Str) : Prop where
  ex : ∃ C : Addr, g.mg c = some (.ref C) ∧ PySem.W.excIn g.K C [.type "ValueError", .type "Exception", .type "BaseException", .type "object"] "ValueError.__new__" = true ∧ PySem.W.keepIn g.K (.ref C) = true ∧
    PySem.W.subIn g.K (.ref C) (.type "BaseException") = some true ∧ PySem.W.typeIn g.K (.ref C) = some (.type "type")
section
variable {X : Cx} {Wx : WX} {k : Nat}
structure ExT (g : G) (xB xC : Str) (kt : Str → Option Bool) : Prop where
  ex : ∃ B C : Addr, g.mg xB = some (.ref B) ∧ g.mg xC = some (.ref C) ∧ ∀ c b, kt c = some b → ∃ D, g.mg c = some (.ref D) ∧ ExcC g.K D ∧ PySem.W.kitOne g.K (.ref D) (.ref C) = some b ∧ PySem.W.exmOne g.K (.ref D) (.ref B) = some true
end
end J
set_option Elab.async false
set_option linter.all false
set_option maxRecDepth 100000
set_option maxHeartbeats 1000000
namespace J
open PySem PySem.Spec PyProof.Rows L2
section
variable {X : Cx} {Wx : WX} {pos : Pos}
def tBK (r : V → List V → Hp → VK → Prop) (to : TE) (t : TA) : TE := fun σ H Q => to σ H fun x H1 => (∃ a o ys, x = .ref a ∧ H1 a = some (.frz o (.tup ys)) ∧ o.dict = none) ∧ t σ H1 fun xs H2 => r x xs H2 Q
end
end J
set_option Elab.async false
set_option linter.all false
set_option maxRecDepth 100000
set_option maxHeartbeats 1000000
namespace J
open PySem PySem.Spec PyProof.Rows L2
section
variable {X : Cx} {Wx : WX} {pos : Pos}
theorem lc2Use {own own1 : List Nat} {mi mi1 : MI} {t t1 : Tg} {mc mc1 : MT} {me m : ME} (hsl : ∀ i, i ∈ t.slots → i ∈ own) (hsl1 : ∀ i, i ∈ t1.slots → i ∈ own1)
    (hm : (m = eLc2 own t mi mc own1 mi1 t1 mc1 me) ∨ (m = eLc2L own t mi mc own1 mi1 t1 mc1 me)) : ∀ (σ : L2.St) H Q, TEof X.g Wx m σ H Q → tLc2 (TIof X.g Wx mi) (TGof X.g t) (TTof X.g W0 mc) (TIof X.g W0 mi1) (TGof X.g t1) (TTof X.g W0 mc1) (TEof X.g W0 me) own own1 σ H Q := fun σ H Q ⟨w, E, S, a, p⟩ => by
  have p0 : ∃ fin : List D → List D → R D, PR X.g Wx σ w (RD X.g) Q ((lcRun2 own t mi mc own1 mi1 t1 mc1 me E S).bind fin) ∧ ∀ (w1 : W) (acc S2 : List D) (vs : List V) (w2 : W) (Dd : Addr), w1.H Dd = none → Good w1 → Good w2 → Ext w1 w2 → Dd ∉ w2.rhA → RS X.g w2 S2 → w2.thA Dd → w2.H Dd = some (.lst vs) → RDs X.g w2 acc vs → PR X.g Wx σ w1 (RD X.g) Q (fin acc S2) → Q (.ref Dd) w2.H := by
    rcases hm with rfl | rfl
    · refine ⟨fun (acc S1 : List D) => (R.ok (D.lst acc) S1 : R D), p, fun w1 acc S2 vs w2 Dd hD G1 G2 x nD rs hthA hDd r q => ?_⟩
      have k : Weak w2 ⟨fun a => w2.thA a ∧ a ≠ Dd, w2.rhA, w2.H⟩ := weak_take rfl fun _ z => z.1
      exact q (.ref Dd) ⟨fun a => w2.thA a ∧ a ≠ Dd, w2.rhA, w2.H⟩ ⟨x.rho, fun a h => ⟨x.th1 a h, fun z => G1.al a h (by rw [z]; exact hD)⟩, fun a h => x.th2 a h.1, x.kp, x.al⟩
        ⟨G2.nd, fun a h => ⟨G2.sub a h, fun z => nD (by rw [← z]; exact h)⟩, fun a h => G2.al a h.1, fun a h => G2.nt a h.1⟩ ⟨Dd, vs, rfl, hDd, fun z => z.2 rfl, RDs.weakW k (fun _ _ h => h) _ _ r⟩ (rs.weakW k rfl fun _ _ => rfl)
    · refine ⟨fun (acc S1 : List D) => (R.ok (D.loc S1.length) (S1 ++ [D.lst acc]) : R D), p, fun w1 acc S2 vs w2 Dd hD G1 G2 x nD rs hthA hDd r q => ?_⟩
      have k : Weak w2 ⟨w2.thA, w2.rhA ++ [Dd], w2.H⟩ := weak_take rfl fun _ z => z
      have kr : ∀ (n : Nat) a, w2.rhA[n]? = some a → (w2.rhA ++ [Dd])[n]? = some a := fun n a h => by
        rw [List.getElem?_append_left (List.getElem?_eq_some_iff.mp h).1]; exact h
      obtain ⟨τ, eτ, fτ⟩ := x.rho
      refine q (.ref Dd) ⟨w2.thA, w2.rhA ++ [Dd], w2.H⟩ ⟨⟨τ ++ [Dd], by show w2.rhA ++ [Dd] = _; rw [eτ, List.append_assoc], fun a h => (List.mem_append.mp h).elim (fτ a) fun h => by rw [List.mem_singleton.mp h]; exact hD⟩, x.th1, x.th2, x.kp, x.al⟩
        ⟨?_, fun a h => ?_, G2.al, G2.nt⟩ ⟨Dd, rfl, by show (w2.rhA ++ [Dd])[S2.length]? = some Dd; rw [rs.1]; simp⟩ ⟨by show (S2 ++ [_]).length = (w2.rhA ++ [Dd]).length; simp [rs.1], fun n d e => ?_⟩
      · show (w2.rhA ++ [Dd]).Nodup
        rw [List.nodup_append]
        refine ⟨G2.nd, by simp, fun a ha b hb e => ?_⟩
        rw [List.mem_singleton.mp hb] at e
        exact nD (by rw [← e]; exact ha)
      · rcases List.mem_append.mp h with h | h
        · exact G2.sub a h
        · rw [List.mem_singleton.mp h]; exact hthA
      · by_cases hn : n < S2.length
        · rw [List.getElem?_append_left hn] at e
          obtain ⟨a, h1, h2⟩ := rs.2 n d e
          exact ⟨a, kr n a h1, h2.weakW k kr rfl⟩
        · have hl : n = S2.length := by
            have := (List.getElem?_eq_some_iff.mp e).1
            simp at this
            omega
          subst hl
          simp at e
          subst e
          exact ⟨Dd, by show (w2.rhA ++ [Dd])[S2.length]? = some Dd; rw [rs.1]; simp, vs, hDd, RDs.weakW k kr _ _ r⟩
  obtain ⟨fin, p, hfin⟩ := p0
  refine ⟨w, E, S, a, ?_⟩
  unfold lcRun2 at p
  cases hmi : mi E S with
  | bad => rw [hmi] at p; exact p.elim
  | exc c fs S1 => rw [hmi] at p; exact p
  | ok src S1 =>
    rw [hmi] at p
    simp only at p
    intro J0 w1 x1 G1 it rs1 Dd hD
    have p1 := PR.at p x1
    have re1 := a.env.mono a.good x1
    have nD : Dd ∉ w1.rhA := fun z => G1.al Dd (G1.sub Dd z) hD
    refine ⟨fun i k H => ∃ w2 acc vs S2, w2.H = H ∧ Good w2 ∧ RS X.g w2 S2 ∧ Ext w1 w2 ∧ Dd ∉ w2.rhA ∧ w2.thA Dd ∧ H Dd = some (.lst vs) ∧ RDs X.g w2 acc vs ∧ i + k = src.len ∧ PR X.g Wx σ w1 (RD X.g) Q ((lcGo2 src t mc own1 mi1 t1 mc1 me (wipeE E own) k i acc S2).bind fin),
      ⟨src.len, w1.hide Dd (.lst []), [], [], S1, rfl, hide_good G1 hD, rs1.keep G1 (hide_ext hD) rfl (fun b hb => upd_ne fun e => nD (by rw [← e]; exact hb)), hide_ext hD, nD, .inr rfl, upd_same, rfl, by omega, p1⟩, ?_⟩
    rintro i k H ⟨w2, acc, vs, S2, rfl, G2, rs2, x2, hr2, hthA2, hD2, r2, hik, p2⟩
    cases k with
    | zero =>
      simp only [lcGo2] at p2
      split at p2
      · rename_i al
        have hi : i = src.len := by omega
        subst hi
        exact .inl ⟨it.stop w2 S2 x2 rs2 al, hfin w1 acc S2 vs w2 Dd hD G1 G2 x2 hr2 rs2 hthA2 hD2 r2 p2⟩
      · exact p2.elim
    | succ k =>
      simp only [lcGo2] at p2
      split at p2
      · rename_i al
        split at p2
        · exact p2.elim
        · rename_i d hd
          split at p2
          · exact p2.elim
          · rename_i E1 hE
            have hlt : i < src.len := by omega
            refine .inr ⟨it.go i w2 S2 d x2 rs2 al hd hlt, fun H' => ∃ w2 acc vs S2, w2.H = H' ∧ Good w2 ∧ RS X.g w2 S2 ∧ Ext w1 w2 ∧ Dd ∉ w2.rhA ∧ w2.thA Dd ∧ H' Dd = some (.lst vs) ∧ RDs X.g w2 acc vs ∧ (i + 1) + k = src.len ∧ PR X.g Wx σ w1 (RD X.g) Q ((lcGo2 src t mc own1 mi1 t1 mc1 me (wipeE E own) k (i + 1) acc S2).bind fin), fun H' hN => ⟨k, Nat.lt_succ_self k, hN⟩, fun x H' hy => ?_⟩
            obtain ⟨w3, rfl, x3, G3, hr3, hthA3, r3, rs3⟩ := it.yld i w2 S2 d x H' x2 G2 rs2 al hd hlt hy
            have nD3 : Dd ∉ w3.rhA := by rw [hr3]; exact hr2
            have hthAD3 : w3.thA Dd := x3.th1 Dd hthA2
            have hD3 : w3.H Dd = some (.lst vs) := x3.kpT hD2 hr2 hthA2
            have rw3 : RE X.g w3 (wipeE E own) (L2.wipe σ own) := ((re1.mono G1 x2).mono G2 x3).wipe own
            refine ⟨w3, wipeE E own, S2, d, E1, ⟨rfl, G3, rw3, rs3⟩, r3, hE, fun σ' re hk hl => ⟨wipe_eq hsl hk hl, w3, E1, S2, ⟨rfl, G3, re, rs3⟩, ?_⟩⟩
            cases hc : mc E1 S2 with
            | bad => rw [hc] at p2; exact p2.elim
            | exc c fs S3 => rw [hc] at p2; exact p2.elim
            | ok b S3 =>
              rw [hc] at p2
              simp only at p2
              intro b' w4 x4 G4 rb rs4
              obtain rfl : b = b' := rb
              have nD4 : Dd ∉ w4.rhA := fun z => by
                obtain ⟨τ, e5, f5⟩ := x4.rho
                rw [e5] at z
                rcases List.mem_append.mp z with z | z
                · exact nD3 z
                · have := f5 Dd z
                  rw [hD3] at this
                  cases this
              have hthAD4 : w4.thA Dd := x4.th1 Dd hthAD3
              have hD4 : w4.H Dd = some (.lst vs) := x4.kpT hD3 nD3 hthAD3
              have x14 : Ext w1 w4 := x2.trans (x3.trans x4)
              cases b with
              | false =>
                rw [if_neg Bool.false_ne_true] at p2 ⊢
                exact ⟨w4, acc, vs, S3, rfl, G4, rs4, x14, nD4, hthAD4, hD4, r2.mono G2 (x3.trans x4), by omega, p2⟩
              | true =>
                rw [if_pos rfl] at p2 ⊢
                have k5 : Weak w4 ⟨w4.thA, w4.rhA ++ [Dd], w4.H⟩ := weak_take rfl fun _ z => z
                have kr5 : ∀ (n : Nat) a, w4.rhA[n]? = some a → (w4.rhA ++ [Dd])[n]? = some a := fun n a h => by
                  rw [List.getElem?_append_left (List.getElem?_eq_some_iff.mp h).1]; exact h
                have hg5 : (w4.rhA ++ [Dd])[S3.length]? = some Dd := by rw [rs4.1]; simp
                have G5 : Good ⟨w4.thA, w4.rhA ++ [Dd], w4.H⟩ := ⟨by
                  show (w4.rhA ++ [Dd]).Nodup
                  rw [List.nodup_append]
                  refine ⟨G4.nd, by simp, fun a ha b hb e => ?_⟩
                  rw [List.mem_singleton.mp hb] at e
                  exact nD4 (by rw [← e]; exact ha), fun a h => by
                  rcases List.mem_append.mp h with h | h
                  · exact G4.sub a h
                  · rw [List.mem_singleton.mp h]; exact hthAD4, G4.al, G4.nt⟩
                have x15 : Ext w1 ⟨w4.thA, w4.rhA ++ [Dd], w4.H⟩ := by
                  obtain ⟨τ, eτ, fτ⟩ := x14.rho
                  exact ⟨⟨τ ++ [Dd], by show w4.rhA ++ [Dd] = _; rw [eτ, List.append_assoc], fun a h => (List.mem_append.mp h).elim (fτ a) fun h => by rw [List.mem_singleton.mp h]; exact hD⟩, x14.th1, x14.th2, x14.kp, x14.al⟩
                have rs5 : RS X.g ⟨w4.thA, w4.rhA ++ [Dd], w4.H⟩ (S3 ++ [.lst acc]) := by
                  refine ⟨by show (S3 ++ [_]).length = (w4.rhA ++ [Dd]).length; simp [rs4.1], fun n d e => ?_⟩
                  by_cases hn : n < S3.length
                  · rw [List.getElem?_append_left hn] at e
                    obtain ⟨a, h1, h2⟩ := rs4.2 n d e
                    exact ⟨a, kr5 n a h1, h2.weakW k5 kr5 rfl⟩
                  · have hl : n = S3.length := by
                      have := (List.getElem?_eq_some_iff.mp e).1
                      simp at this
                      omega
                    subst hl
                    simp at e
                    subst e
                    exact ⟨Dd, hg5, vs, hD4, RDs.weakW k5 kr5 _ _ (r2.mono G2 (x3.trans x4))⟩
                have re4 := re.mono G3 x4
                have re5 : RE X.g ⟨w4.thA, w4.rhA ++ [Dd], w4.H⟩ E1 σ' := ⟨re4.1, fun i d e => by
                  obtain ⟨v, h1, h2⟩ := re4.2 i d e
                  exact ⟨v, h1, RD.weakW k5 kr5 _ _ h2⟩⟩
                refine ⟨⟨w4.thA, w4.rhA ++ [Dd], w4.H⟩, E1, S3 ++ [.lst acc], ⟨rfl, G5, re5, rs5⟩, ?_⟩
                cases hm1 : mi1 E1 (S3 ++ [.lst acc]) with
                | bad => rw [hm1] at p2; exact p2.elim
                | exc c fs S4 => rw [hm1] at p2; exact p2.elim
                | ok src1 S4 =>
                  rw [hm1] at p2
                  simp only at p2
                  cases hin : lcIn src1 t1 mc1 me (wipeE E1 own1) S3.length src1.len 0 S4 with
                  | none => rw [hin] at p2; exact p2.elim
                  | some S5 =>
                    rw [hin] at p2
                    simp only at p2
                    split at p2
                    · rename_i hh
                      obtain ⟨hl4, hl5, hfl⟩ := hh
                      split at p2
                      · rename_i acc5 hS5
                        intro J1 w6 x6 G6 it6 rs6
                        refine ⟨fun j k H => ∃ w7 S7, w7.H = H ∧ Good w7 ∧ RS X.g w7 S7 ∧ Ext w6 w7 ∧ S7.length = S3.length + 1 ∧ j + k = src1.len ∧ lcIn src1 t1 mc1 me (wipeE E1 own1) S3.length k j S7 = some S5,
                          ⟨src1.len, w6, S4, rfl, G6, rs6, Ext.refl _, hl4, by omega, hin⟩, ?_⟩
                        rintro j m1 H ⟨w7, S7, rfl, G7, rs7, x7, hl7, hjk, hgo⟩
                        have x57 := x6.trans x7
                        have hD7 : w7.rhA[S3.length]? = some Dd := x57.get hg5
                        cases m1 with
                        | zero =>
                          simp only [lcIn] at hgo
                          split at hgo
                          · rename_i al1
                            have e75 : S7 = S5 := Option.some.inj hgo
                            subst e75
                            have hj : j = src1.len := by omega
                            subst hj
                            refine .inl ⟨it6.stop w7 S7 x7 rs7 al1, ?_⟩
                            have hrho : w7.rhA = w4.rhA ++ [Dd] := by
                              obtain ⟨τ, eτ, _⟩ := x57.rho
                              have hlen := rs7.1
                              rw [eτ] at hlen
                              simp only [List.length_append, List.length_singleton] at hlen
                              have h41 := rs4.1
                              have : τ = [] := List.eq_nil_of_length_eq_zero (by omega)
                              rw [eτ, this, List.append_nil]
                            obtain ⟨b, hb1, vs5, hb2, hb3⟩ := rs7.2 _ _ hS5
                            rw [hD7] at hb1
                            cases hb1
                            have kw : Weak w7 ⟨w7.thA, w4.rhA, w7.H⟩ := weak_take rfl fun _ z => z
                            have hf5 : D.flats acc5 = true := by
                              have := List.all_eq_true.mp hfl _ (List.mem_of_getElem? hS5)
                              simpa only [D.flat] using this
                            have x17 := x15.trans x57
                            refine ⟨⟨w7.thA, w4.rhA, w7.H⟩, acc5, vs5, S7.take S3.length, rfl, ⟨G4.nd, fun a h => G7.sub a (by rw [hrho]; exact List.mem_append_left _ h), G7.al, G7.nt⟩, ⟨by show (S7.take S3.length).length = w4.rhA.length; rw [List.length_take, hl7, ← rs4.1]; omega, fun n d e => ?_⟩, ⟨x14.rho, x17.th1, x17.th2, x17.kp, x17.al⟩, nD4, x57.th1 Dd hthAD4, hb2, RDs.flatW kw _ _ hf5 hb3, by omega, p2⟩
                            have hn : n < S3.length := by
                              have := (List.getElem?_eq_some_iff.mp e).1
                              rw [List.length_take] at this
                              omega
                            rw [List.getElem?_take_of_lt hn] at e
                            obtain ⟨a, h1, h2⟩ := rs7.2 n d e
                            rw [hrho, List.getElem?_append_left (by rw [← rs4.1]; exact hn)] at h1
                            exact ⟨a, h1, h2.flatW kw (List.all_eq_true.mp hfl _ (List.mem_of_getElem? e)) rfl⟩
                          · cases hgo
                        | succ m1 =>
                          simp only [lcIn] at hgo
                          split at hgo
                          · rename_i al1
                            split at hgo
                            · cases hgo
                            · rename_i d1 hd1
                              split at hgo
                              · cases hgo
                              · rename_i E2 hE2
                                have hlt1 : j < src1.len := by omega
                                refine .inr ⟨it6.go j w7 S7 d1 x7 rs7 al1 hd1 hlt1, fun H => ∃ w7 S7, w7.H = H ∧ Good w7 ∧ RS X.g w7 S7 ∧ Ext w6 w7 ∧ S7.length = S3.length + 1 ∧ (j + 1) + m1 = src1.len ∧ lcIn src1 t1 mc1 me (wipeE E1 own1) S3.length m1 (j + 1) S7 = some S5, fun H' hN => ⟨m1, Nat.lt_succ_self m1, hN⟩, fun x1' H' hy1 => ?_⟩
                                obtain ⟨w9, rfl, x9, G9, hr9, hth9, r9, rs9⟩ := it6.yld j w7 S7 d1 x1' H' x7 G7 rs7 al1 hd1 hlt1 hy1
                                have rw9 : RE X.g w9 (wipeE E1 own1) (L2.wipe σ' own1) := (((re5.mono G5 x6).mono G6 x7).mono G7 x9).wipe own1
                                refine ⟨w9, wipeE E1 own1, S7, d1, E2, ⟨rfl, G9, rw9, rs9⟩, r9, hE2, fun σ3 re3 hk3 hl3 => ⟨wipe_eq hsl1 hk3 hl3, w9, E2, S7, ⟨rfl, G9, re3, rs9⟩, ?_⟩⟩
                                cases hc1 : mc1 E2 S7 with
                                | bad => rw [hc1] at hgo; cases hgo
                                | exc c fs S8 => rw [hc1] at hgo; cases hgo
                                | ok b1 S8 =>
                                  rw [hc1] at hgo
                                  simp only at hgo
                                  intro b' w10 x10 G10 rb rs10
                                  obtain rfl : b1 = b' := rb
                                  cases b1 with
                                  | false =>
                                    rw [if_neg Bool.false_ne_true] at hgo ⊢
                                    split at hgo
                                    · rename_i hl8
                                      exact ⟨w10, S8, rfl, G10, rs10, x7.trans (x9.trans x10), hl8, by omega, hgo⟩
                                    · cases hgo
                                  | true =>
                                    rw [if_pos rfl] at hgo ⊢
                                    refine ⟨w10, E2, S8, ⟨rfl, G10, re3.mono G9 x10, rs10⟩, ?_⟩
                                    cases he : me E2 S8 with
                                    | bad => rw [he] at hgo; cases hgo
                                    | exc c fs S9 => rw [he] at hgo; cases hgo
                                    | ok z S9 =>
                                      rw [he] at hgo
                                      simp only at hgo
                                      split at hgo
                                      · rename_i acc9 hS9
                                        split at hgo
                                        · rename_i hh9
                                          intro y w11 x11 G11 rz rs11
                                          have x711 := x9.trans (x10.trans x11)
                                          have hD11 : w11.rhA[S3.length]? = some Dd := x711.get hD7
                                          obtain ⟨b, hb1, vs9, hb2, hb3⟩ := rs11.2 _ _ hS9
                                          rw [hD11] at hb1
                                          cases hb1
                                          have mem := List.mem_of_getElem? hD11
                                          have hlen := hb3.length
                                          refine ⟨vs9, hb2, by rw [hlen, ← sl_eq]; exact hh9.2, { w11 with H := upd w11.H Dd (.lst (vs9 ++ [y])) }, S9.set S3.length (.lst (acc9 ++ [z])), rfl, put_upd G11, upd_store G11 rs11 hD11 ⟨vs9 ++ [y], upd_same, RDs.mono G11 (upd_ext mem) _ _ (hb3.append (RDs.one rz))⟩, x7.trans (x711.trans (upd_ext mem)), by rw [List.length_set]; exact hh9.1, by omega, hgo⟩
                                        · cases hgo
                                      · cases hgo
                          · cases hgo
                      · exact p2.elim
                    · exact p2.elim
      · exact p2.elim
theorem de_lc2 {elt tg iter tg1 iter1 : Expr} {ifs ifs1 : List Expr} {scope : Scope} {own own1 : List (Str × Nat)} {mi mi1 : MI} {t t1 : Tg} {mc mc1 : MT} {me m : ME} (hsl : ∀ i, i ∈ t.slots → i ∈ own.map (·.2)) (hsl1 : ∀ i, i ∈ t1.slots → i ∈ own1.map (·.2))
    (hm : (m = eLc2 (own.map (·.2)) t mi mc (own1.map (·.2)) mi1 t1 mc1 me) ∨ (m = eLc2L (own.map (·.2)) t mi mc (own1.map (·.2)) mi1 t1 mc1 me))
    (h : PE X (.ListComp elt [⟨tg, iter, ifs, 0⟩, ⟨tg1, iter1, ifs1, 0⟩] scope pos) (tLc2 (TIof X.g Wx mi) (TGof X.g t) (TTof X.g W0 mc) (TIof X.g W0 mi1) (TGof X.g t1) (TTof X.g W0 mc1) (TEof X.g W0 me) (own.map (·.2)) (own1.map (·.2)))) : PE X (.ListComp elt [⟨tg, iter, ifs, 0⟩, ⟨tg1, iter1, ifs1, 0⟩] scope pos) (TEof X.g Wx m) := peImp h (lc2Use hsl hsl1 hm)
end
end J
set_option Elab.async false
set_option linter.all false
set_option maxRecDepth 100000
set_option maxHeartbeats 1000000
namespace J
open PySem PySem.Spec PyProof.Rows L2
open PySem.W (alike alikeAll dataLt keyToks keyToksAll dataLe EachIs)
mutual
def D.ordB : D → Bool
  | .int _ => true
  | .tup ds => D.ordBs ds
  | _ => false
def D.ordBs : List D → Bool
  | [] => true
  | d :: ds => d.ordB && D.ordBs ds
end
mutual
theorem toks_inj : ∀ (d e : D) (r r' : List (Int ⊕ List Nat)), d.ordB = true → e.ordB = true → alike d.py e.py = true → keyToks d.py ++ r = keyToks e.py ++ r' → d = e ∧ r = r'
  | .int a, e, r, r', _, h, k, q => by
    cases e <;> simp only [D.ordB, Bool.false_eq_true] at h
    · simp only [D.py, keyToks, List.cons_append, List.nil_append, List.cons.injEq, Sum.inl.injEq] at q
      exact ⟨by rw [q.1], q.2⟩
    · simp only [D.py, alike, Bool.false_eq_true] at k
  | .tup xs, e, r, r', g, h, k, q => by
    cases e <;> simp only [D.ordB, Bool.false_eq_true] at h
    · simp only [D.py, alike, Bool.false_eq_true] at k
    · simp only [D.ordB] at g
      simp only [D.py, alike] at k
      simp only [D.py, keyToks] at q
      obtain ⟨e1, e2⟩ := toks_injs xs _ r r' g h k q
      exact ⟨by rw [e1], e2⟩
theorem toks_injs : ∀ (ds es : List D) (r r' : List (Int ⊕ List Nat)), D.ordBs ds = true → D.ordBs es = true → alikeAll (D.pys ds) (D.pys es) = true → keyToksAll (D.pys ds) ++ r = keyToksAll (D.pys es) ++ r' → ds = es ∧ r = r'
  | [], [], r, r', _, _, _, q => by
    simp only [D.pys, keyToksAll, List.cons_append, List.nil_append, List.cons.injEq] at q
    exact ⟨rfl, q.2⟩
  | [], e :: es, r, r', _, _, _, q => by
    simp [D.pys, keyToksAll] at q
  | d :: ds, [], r, r', _, _, _, q => by
    simp [D.pys, keyToksAll] at q
  | d :: ds, e :: es, r, r', g, h, k, q => by
    simp only [D.ordBs, Bool.and_eq_true] at g h
    simp only [D.pys, alikeAll, Bool.and_eq_true] at k
    simp only [D.pys, keyToksAll, List.cons_append, List.append_assoc, List.cons.injEq] at q
    obtain ⟨e1, e2⟩ := toks_inj d e _ _ g.1 h.1 k.1 q.2
    obtain ⟨e3, e4⟩ := toks_injs ds es _ _ g.2 h.2 k.2 e2
    exact ⟨by rw [e1, e3], e4⟩
end
mutual
theorem lt_py : ∀ d e : D, d.ordB = true → e.ordB = true → d.cmpb = true → e.cmpb = true → alike d.py e.py = true → d.lt e = dataLt d.py e.py
  | .int a, e, _, h, _, _, k => by
    cases e <;> simp only [D.ordB, Bool.false_eq_true] at h
    · exact (PySem.W.dataLt_int _ _).symm
    · simp only [D.py, alike, Bool.false_eq_true] at k
  | .tup xs, e, g, h, c, c', k => by
    cases e <;> simp only [D.ordB, Bool.false_eq_true] at h
    · simp only [D.py, alike, Bool.false_eq_true] at k
    · simp only [D.ordB] at g
      simp only [D.py, alike] at k
      show D.lts xs _ = dataLt (.tuple (D.pys xs)) (.tuple (D.pys _))
      rw [PySem.W.dataLt_tuple]
      exact lts_py xs _ g h c c' k
theorem lts_py : ∀ ds es : List D, D.ordBs ds = true → D.ordBs es = true → D.cmpbs ds = true → D.cmpbs es = true → alikeAll (D.pys ds) (D.pys es) = true → D.lts ds es = PyProof.Rows.lexLt itemOrd (keyToksAll (D.pys ds)) (keyToksAll (D.pys es))
  | [], [], _, _, _, _, _ => (lex_irrefl (O := itemOrd) _).symm
  | [], e :: es, _, _, _, _, _ => by
    simp only [D.lts, D.pys, keyToksAll]
    rw [PyProof.Rows.lex_diff (O := itemOrd) (by simp)]
    rfl
  | d :: ds, [], _, _, _, _, _ => by
    simp only [D.lts, D.pys, keyToksAll]
    rw [PyProof.Rows.lex_diff (O := itemOrd) (by simp)]
    rfl
  | d :: ds, e :: es, g, h, c, c', k => by
    simp only [D.ordBs, Bool.and_eq_true] at g h
    simp only [D.cmpbs, Bool.and_eq_true] at c c'
    simp only [D.pys, alikeAll, Bool.and_eq_true] at k
    simp only [D.lts, D.pys]
    rw [PySem.W.dataLt_cons k.1, py_eqv d e c.1 c'.1, lt_py d e g.1 h.1 c.1 c'.1 k.1, lts_py ds es g.2 h.2 c.2 c'.2 k.2]
end
mutual
theorem shp_ord : ∀ d e : D, d.shp e = true → d.ordB = true ∧ e.ordB = true
  | .int _, e, h => by cases e <;> simp only [D.shp, Bool.false_eq_true] at h; exact ⟨rfl, rfl⟩
  | .tup xs, e, h => by
    cases e <;> simp only [D.shp, Bool.false_eq_true] at h
    exact shps_ord xs _ h
  | .non, e, h => by cases e <;> simp [D.shp] at h
  | .bl _, e, h => by cases e <;> simp [D.shp] at h
  | .str _, e, h => by cases e <;> simp [D.shp] at h
  | .ty _, e, h => by cases e <;> simp [D.shp] at h
  | .lst _, e, h => by cases e <;> simp [D.shp] at h
  | .rdl _, e, h => by cases e <;> simp [D.shp] at h
  | .dct _ _, e, h => by cases e <;> simp [D.shp] at h
  | .dcT _ _, e, h => by cases e <;> simp [D.shp] at h
  | .tuk _, e, h => by cases e <;> simp [D.shp] at h
  | .loc _, e, h => by cases e <;> simp [D.shp] at h
theorem shps_ord : ∀ ds es : List D, D.shps ds es = true → D.ordBs ds = true ∧ D.ordBs es = true
  | [], [], _ => ⟨rfl, rfl⟩
  | [], _ :: _, h => by simp [D.shps] at h
  | _ :: _, [], h => by simp [D.shps] at h
  | d :: ds, e :: es, h => by
    simp only [D.shps, Bool.and_eq_true] at h
    obtain ⟨a, b⟩ := shp_ord d e h.1
    obtain ⟨c, f⟩ := shps_ord ds es h.2
    simp only [D.ordBs, Bool.and_eq_true]
    exact ⟨⟨a, c⟩, b, f⟩
end
mutual
theorem shp_alike : ∀ x d e : D, x.shp d = true → x.shp e = true → alike d.py e.py = true
  | .int _, d, e, h, k => by
    cases d <;> simp only [D.shp, Bool.false_eq_true] at h
    cases e <;> simp only [D.shp, Bool.false_eq_true] at k
    rfl
  | .tup xs, d, e, h, k => by
    cases d <;> simp only [D.shp, Bool.false_eq_true] at h
    cases e <;> simp only [D.shp, Bool.false_eq_true] at k
    simp only [D.py, alike]
    exact shps_alike xs _ _ h k
  | .non, d, _, h, _ => by cases d <;> simp [D.shp] at h
  | .bl _, d, _, h, _ => by cases d <;> simp [D.shp] at h
  | .str _, d, _, h, _ => by cases d <;> simp [D.shp] at h
  | .ty _, d, _, h, _ => by cases d <;> simp [D.shp] at h
  | .lst _, d, _, h, _ => by cases d <;> simp [D.shp] at h
  | .rdl _, d, _, h, _ => by cases d <;> simp [D.shp] at h
  | .dct _ _, d, _, h, _ => by cases d <;> simp [D.shp] at h
  | .dcT _ _, d, _, h, _ => by cases d <;> simp [D.shp] at h
  | .tuk _, d, _, h, _ => by cases d <;> simp [D.shp] at h
  | .loc _, d, _, h, _ => by cases d <;> simp [D.shp] at h
theorem shps_alike : ∀ xs ds es : List D, D.shps xs ds = true → D.shps xs es = true → alikeAll (D.pys ds) (D.pys es) = true
  | [], [], [], _, _ => by simp [D.pys, alikeAll]
  | [], _ :: _, _, h, _ => by simp [D.shps] at h
  | [], [], _ :: _, _, k => by simp [D.shps] at k
  | _ :: _, [], _, h, _ => by simp [D.shps] at h
  | _ :: _, _ :: _, [], _, k => by simp [D.shps] at k
  | x :: xs, d :: ds, e :: es, h, k => by
    simp only [D.shps, Bool.and_eq_true] at h k
    simp only [D.pys, alikeAll, Bool.and_eq_true]
    exact ⟨shp_alike x d e h.1 k.1, shps_alike xs ds es h.2 k.2⟩
end
theorem ints_ord : ∀ ds : List D, allInt ds = true → D.ordBs ds = true
  | [], _ => rfl
  | .int _ :: r, h => by
    simp only [D.ordBs, D.ordB, Bool.true_and]
    exact ints_ord r h
theorem ints_alike : ∀ ds es : List D, allInt ds = true → allInt es = true → alikeAll (D.pys ds) (D.pys es) = true
  | [], _, _, _ => by simp [D.pys, alikeAll]
  | _ :: _, [], _, _ => by simp [D.pys, alikeAll]
  | .int _ :: r, .int _ :: r', h, k => by
    simp only [D.pys, D.py, alikeAll, alike, Bool.true_and]
    exact ints_alike r r' h k
structure SOk (xs : List D) : Prop where
  ord : ∀ d ∈ xs, d.ordB = true
  cmp : ∀ d ∈ xs, d.cmpb = true
  dep : ∀ d ∈ xs, d.depth ≤ 60
  alk : ∀ d ∈ xs, ∀ e ∈ xs, alike d.py e.py = true
  srt : PySem.W.Sortable (xs.map D.py)
theorem okSort_two {x y : D} {zs : List D} (h : okSort (x :: y :: zs) = true) : SOk (x :: y :: zs) := by
  unfold okSort at h
  simp only [Bool.and_eq_true, Bool.or_eq_true, List.all_eq_true] at h
  obtain ⟨h1, h2⟩ := h
  have hc : ∀ d ∈ x :: y :: zs, d.cmpb = true ∧ d.depth ≤ 60 := fun d hd => by
    have := h1 d hd
    unfold ordOk at this
    simp only [Bool.and_eq_true, decide_eq_true_eq] at this
    exact this
  rcases h2 with h2 | ⟨h3, h2⟩
  · have hi : ∀ d ∈ x :: y :: zs, ∃ z r, d = .tup (z :: r) ∧ allInt (z :: r) = true := fun d hd => by
      have := h2 d hd
      unfold intTup at this
      split at this
      · exact ⟨_, _, rfl, this⟩
      · cases this
    refine ⟨fun d hd => ?_, fun d hd => (hc d hd).1, fun d hd => (hc d hd).2, fun d hd e he => ?_, .inl fun d hd => ?_⟩
    · obtain ⟨z, r, rfl, q⟩ := hi d hd
      exact ints_ord _ q
    · obtain ⟨z, r, rfl, q⟩ := hi d hd
      obtain ⟨z', r', rfl, q'⟩ := hi e he
      simp only [D.py, alike]
      exact ints_alike _ _ q q'
    · obtain ⟨b, hb, rfl⟩ := List.mem_map.mp hd
      obtain ⟨z, r, rfl, q⟩ := hi b hb
      exact ⟨z.py, D.pys r, rfl⟩
  · refine ⟨fun d hd => (shp_ord _ _ (h2 d hd)).2, fun d hd => (hc d hd).1, fun d hd => (hc d hd).2, fun d hd e he => shp_alike _ _ _ (h2 d hd) (h2 e he), ?_⟩
    cases x with
    | int i =>
      refine .inr fun d hd => ?_
      obtain ⟨b, hb, rfl⟩ := List.mem_map.mp hd
      have := h2 b hb
      cases b <;> simp only [D.shp, Bool.false_eq_true] at this
      exact ⟨by simp [D.py], by simp [D.py]⟩
    | tup ds =>
      refine .inl fun d hd => ?_
      obtain ⟨b, hb, rfl⟩ := List.mem_map.mp hd
      have := h2 b hb
      cases b <;> simp only [D.shp, Bool.false_eq_true] at this
      rename_i es
      cases ds with
      | nil => simp [sortHd] at h3
      | cons z r =>
        cases es with
        | nil => simp [D.shps] at this
        | cons z' r' => exact ⟨z'.py, D.pys r', rfl⟩
    | _ => simp [sortHd] at h3
/-! the order -/
abbrev leP (a b : D) : Bool := dataLe false D.py a b
theorem leP_eq (a b : D) : leP a b = !dataLt b.py a.py := rfl
theorem leP_tot : PySem.W.TotalLe leP := PySem.W.sortLe_total _ _ _
theorem leP_anti {xs : List D} (s : SOk xs) {a b : D} (ha : a ∈ xs) (hb : b ∈ xs) (h1 : leP a b = true) (h2 : leP b a = true) : a = b := by
  rw [leP_eq, Bool.not_eq_true'] at h1 h2
  have := lex_total (O := itemOrd) _ _ h2 h1
  have q := toks_inj a b [] [] (s.ord a ha) (s.ord b hb) (s.alk a ha b hb) (by rw [List.append_nil, List.append_nil]; exact this)
  exact q.1
theorem perm_uniq {le : D → D → Bool} : ∀ {as bs : List D}, (∀ a ∈ as, ∀ b ∈ as, le a b = true → le b a = true → a = b) → as.Perm bs → as.Pairwise (fun a b => le a b = true) → bs.Pairwise (fun a b => le a b = true) → as = bs
  | [], bs, _, p, _, _ => by simpa using p.symm
  | a :: as, [], _, p, _, _ => by simpa using p
  | a :: as, b :: bs, anti, p, h1, h2 => by
    have h1' := List.pairwise_cons.mp h1
    have h2' := List.pairwise_cons.mp h2
    have e : a = b := by
      have m1 : a ∈ b :: bs := p.mem_iff.mp List.mem_cons_self
      have m2 : b ∈ a :: as := p.mem_iff.mpr List.mem_cons_self
      rcases List.mem_cons.mp m1 with e | m1
      · exact e
      · rcases List.mem_cons.mp m2 with e | m2
        · exact e.symm
        · exact anti a List.mem_cons_self b (List.mem_cons_of_mem _ m2) (h1'.1 b m2) (h2'.1 a m1)
    subst e
    rw [perm_uniq (fun x hx y hy => anti x (List.mem_cons_of_mem _ hx) y (List.mem_cons_of_mem _ hy)) ((List.perm_cons a).mp p) h1'.2 h2'.2]
theorem insD_perm (n : D) : ∀ l : List D, (insD n l).Perm (n :: l)
  | [] => List.Perm.refl _
  | m :: ms => by
    unfold insD
    split
    · exact ((insD_perm n ms).cons m).trans (List.Perm.swap n m ms)
    · exact List.Perm.refl _
theorem sortD_perm : ∀ l : List D, (sortD l).Perm l
  | [] => List.Perm.refl _
  | n :: ns => (insD_perm n (sortD ns)).trans ((sortD_perm ns).cons n)
theorem leP_trans {a b c : D} (h1 : leP a b = true) (h2 : leP b c = true) : leP a c = true := leP_tot.trans a b c h1 h2
theorem insD_srt {xs : List D} (s : SOk xs) {n : D} (hn : n ∈ xs) : ∀ l : List D, (∀ d ∈ l, d ∈ xs) → l.Pairwise (fun a b => leP a b = true) → (insD n l).Pairwise (fun a b => leP a b = true)
  | [], _, _ => by simp [insD]
  | m :: ms, hl, h => by
    have hm := hl m List.mem_cons_self
    have h' := List.pairwise_cons.mp h
    have e : D.lt m n = dataLt m.py n.py := lt_py m n (s.ord m hm) (s.ord n hn) (s.cmp m hm) (s.cmp n hn) (s.alk m hm n hn)
    unfold insD
    by_cases q : D.lt m n = true
    · rw [if_pos q]
      have le1 : leP m n = true := by
        rw [e] at q
        rw [leP_eq, Bool.not_eq_true']
        cases z : dataLt n.py m.py with
        | false => rfl
        | true =>
          have := lex_trans (O := itemOrd) _ _ _ q z
          rw [lex_irrefl] at this
          cases this
      refine List.pairwise_cons.mpr ⟨fun d hd => ?_, insD_srt s hn ms (fun d hd => hl d (List.mem_cons_of_mem _ hd)) h'.2⟩
      rcases List.mem_cons.mp ((insD_perm n ms).mem_iff.mp hd) with rfl | hd
      · exact le1
      · exact h'.1 d hd
    · rw [if_neg q]
      have le1 : leP n m = true := by
        rw [e] at q
        rw [leP_eq, Bool.not_eq_true']
        simpa using q
      refine List.pairwise_cons.mpr ⟨fun d hd => ?_, h⟩
      rcases List.mem_cons.mp hd with rfl | hd
      · exact le1
      · exact leP_trans le1 (h'.1 d hd)
theorem sortD_srt {xs : List D} (s : SOk xs) : ∀ l : List D, (∀ d ∈ l, d ∈ xs) → (sortD l).Pairwise (fun a b => leP a b = true)
  | [], _ => List.Pairwise.nil
  | n :: ns, hl => insD_srt s (hl n List.mem_cons_self) _ (fun d hd => hl d (List.mem_cons_of_mem _ ((sortD_perm ns).mem_iff.mp hd))) (sortD_srt s ns fun d hd => hl d (List.mem_cons_of_mem _ hd))
theorem merge_eq {xs : List D} (s : SOk xs) : xs.mergeSort (dataLe false D.py) = sortD xs := by
  refine perm_uniq (le := leP) (fun a ha b hb => leP_anti s ((List.mergeSort_perm _ _).mem_iff.mp ha) ((List.mergeSort_perm _ _).mem_iff.mp hb)) ((List.mergeSort_perm _ _).trans (sortD_perm xs).symm) ?_ (sortD_srt s xs fun d h => h)
  exact List.pairwise_mergeSort leP_tot.trans (fun a b => by rw [Bool.or_eq_true]; exact leP_tot.total a b) _
section
variable {X : Cx} {Wx : WX} {pos : Pos}
theorem lstAny_lst {g : G} {w : W} {S : List D} {d : D} {v : V} {xs : List D} (rs : RS g w S) (r : RD g w d v) (h : lstAny S d = some xs) : ∃ p vs, v = .ref p ∧ SqL g.K w.H p vs ∧ RDs g w xs vs := by
  unfold lstAny at h
  split at h
  · cases h
    obtain ⟨p, vs, rfl, t, _, r⟩ := r
    exact ⟨p, vs, rfl, .inl (.inl t), r⟩
  · cases h
    obtain ⟨p, vs, rfl, t, r⟩ := r
    exact ⟨p, vs, rfl, t.sq, r⟩
  · rename_i n
    split at h
    · rename_i ds e
      cases h
      obtain ⟨a, rfl, ha⟩ := r
      obtain ⟨vs, h1, h2⟩ := rs.obj ha e
      exact ⟨a, vs, rfl, .inl (.inl h1), h2⟩
    · cases h
  · cases h
def Std (g : G) (w : W) (u : Value) (d : D) : Prop := ∃ x, RD g w d x ∧ RelV x u
theorem std_each {g : G} {w : W} : ∀ {ds : List D} {vs : List V} {us : List Value}, RDs g w ds vs → Vals vs us → EachIs (Std g w) us ds
  | [], _, _, h, k => by cases h; cases k; exact .nil
  | d :: ds, _, _, h, k => by
    obtain ⟨v, r, rfl, h1, h2⟩ := h
    cases k with
    | cons k1 k2 => exact .cons ⟨v, h1, k1⟩ (std_each h2 k2)
theorem each_std {g : G} {w : W} : ∀ {ds : List D} {us : List Value}, EachIs (Std g w) us ds → ∃ vs, RDs g w ds vs ∧ Vals vs us
  | _, _, .nil => ⟨[], rfl, .nil⟩
  | _, _, .cons ⟨v, h1, k1⟩ t => by
    obtain ⟨vs, h2, k2⟩ := each_std t
    exact ⟨v :: vs, RDs.cons h1 h2, .cons k1 k2⟩
theorem std_reads {g : G} {w : W} {X : Cx} {pins : List (Addr × Obj)} {σ : L2.St} {s : Shared} (hg : X.g = g) (I : Inv X pins σ w.H s) : ∀ {ds : List D} {us : List Value}, (∀ d ∈ ds, d.cmpb = true) → EachIs (Std g w) us ds → EachIs (fun v d => ∃ as, Reads s.heap v (D.py d) as) us ds
  | _, _, _, .nil => .nil
  | _, _, hc, .cons ⟨v, h1, k1⟩ t => by
    refine .cons ?_ (std_reads hg I (fun d hd => hc d (List.mem_cons_of_mem _ hd)) t)
    subst hg
    exact Dp.reads I _ _ _ (py_dp _ _ (hc _ List.mem_cons_self) h1) k1
theorem short_out {out vs : List Value} (h : vs.length < 2) (p : out.Perm vs) : out = vs := by
  match vs, h with
  | [], _ => exact List.Perm.eq_nil p
  | [v], _ => exact List.perm_singleton.mp p
  | _ :: _ :: _, h => simp at h; omega
theorem jc_sortedD (hu : X.A.units + 64 < cLine) : CallR X (.builtin "sorted") (argOf X.g bSortedD) := by
  intro pins s σ H xs us Q I r ⟨Wx, σ', w, S, ds, hH, G, rs, r1, p⟩
  subst hH
  unfold bSortedD at p
  split at p
  · obtain ⟨v, rfl, r2⟩ := r1.one'
    split at p
    · rename_i xs e
      split at p
      · rename_i ok
        obtain ⟨a, vs, rfl, t, r3⟩ := lstAny_lst rs r2 e
        obtain ⟨its, rv, hl, hz⟩ := I.list t
        obtain ⟨u, rfl, ru⟩ := vals1 r
        obtain rfl : u = Value.ref a := ru
        have hlen : its.length = xs.length := by rw [← rv.length, r3.length]
        have hz' : its.length ≤ sizeLine := by rw [← rv.length]; exact hz
        have fin : ∀ (h' : Heap) (d : Addr) (out : List Value) (ys : List V), RDs X.g w (sortD xs) ys → Vals ys out → (∀ b o, s.heap.get? b = some o → h'.get? b = some o) → s.heap.objs.size ≤ d → (∃ n, h'.get? d = some (seqObj "list" out.toArray n)) → ∃ v H2, Inv X pins σ H2 { s with heap := h' } ∧ RelV v (Value.ref d) ∧ Q v H2 := fun h' d out ys r4 v4 kp hd ⟨n, hn⟩ => by
          have hf := I.hok.fresh hd
          refine ⟨.ref d, upd w.H d (.lst ys), I.laid (t' := s.toks) kp hd ⟨?_, out, n, v4, hn⟩, rfl, new_lst p G rs r4 d hf⟩
          rw [r4.length, (sortD_perm xs).length_eq, ← r3.length, rv.length]
          exact hz'
        by_cases h2 : its.length < 2
        · refine SrtO.sorted_ord (ltv := fun _ _ => false) ⟨fun _ _ h => (by cases h), fun _ _ _ _ _ => rfl⟩ (hl.isList) hz' (fun h => by omega) fun out hs hb => ?_
          have eo : out = its := short_out h2 hb.perm
          rw [eo]
          have es : sortD xs = xs := by
            match xs, hlen with
            | [], _ => rfl
            | [x], _ => rfl
            | _ :: _ :: _, h => simp at h; omega
          exact fin _ _ its vs (by rw [es]; exact r3) rv (fun b o e => sortedAll_old e) (Nat.le_succ _) (sortedAll_at s.heap its its.toArray)
        · have so : SOk xs := by
            match xs, hlen, ok with
            | [], h, _ => have : its.length = 0 := h; omega
            | [x], h, _ => have : its.length = 1 := h; omega
            | x :: y :: zs, _, ok => exact okSort_two ok
          have es := std_each r3 rv
          refine PySem.W.sorted_data (enc := D.py) (bs := xs) (R := Std X.g w) hl.isList es (std_reads rfl I so.cmp es) (fun d hd d' hd' => ?_) so.srt (by rw [← hlen]; exact hz') (fun b hb => ?_) fun out ho eo => ?_
          · obtain ⟨b, hb, rfl⟩ := List.mem_map.mp hd
            obtain ⟨b', hb', rfl⟩ := List.mem_map.mp hd'
            exact so.alk b hb b' hb'
          · rw [py_depth b (so.cmp b hb)]
            have := so.dep b hb
            omega
          · rw [merge_eq so] at eo
            obtain ⟨ys, r4, v4⟩ := each_std eo
            exact fin _ _ out ys r4 v4 (fun b o e => sortedAll_old e) (Nat.le_succ _) (sortedAll_at s.heap its out.toArray)
      · exact p.elim
    · exact p.elim
  · exact p.elim
theorem RE.drop {g : G} {w : W} {E : Env} {σ : L2.St} (h : RE g w E σ) (ids : List Nat) : RE g w (wipeE E ids) σ := by
  refine ⟨by rw [wipeE_length]; exact h.1, fun i d e => ?_⟩
  rw [wipeE_get] at e
  by_cases hi : i ∈ ids
  · rw [if_pos hi] at e
    cases q : E[i]? <;> (rw [q] at e; cases e)
  · rw [if_neg hi] at e
    exact h.2 i d e
theorem ds_drop {st : Stmt} {m : MS} (ids : List Nat) (h : PS X st (TSof X.g Wx m)) : PS X st (TSof X.g Wx (sDrop ids m)) := psImp h fun D σ H ⟨w, E, S, a, p⟩ => ⟨w, E, S, a, by
  unfold sDrop at p
  cases hm : m E S with
  | nx E1 S1 =>
    rw [hm] at p
    exact fun σ' w' x G r rs => p σ' w' x G (r.drop ids) rs
  | rt d S1 => rw [hm] at p; exact p.elim
  | bk E1 S1 => rw [hm] at p; exact p.elim
  | ct E1 S1 => rw [hm] at p; exact p.elim
  | exc c fs E1 S1 => rw [hm] at p; exact p.elim
  | bad => rw [hm] at p; exact p.elim⟩
end
end J
set_option Elab.async false
set_option linter.all false
set_option maxRecDepth 100000
set_option maxHeartbeats 1000000
namespace J
open PySem PySem.Spec PyProof.Rows L2
section
variable {X : Cx} {Wx : WX} {k : Nat}
end
abbrev tTx (t : Str) (i : Nat) : TE := fun σ H Q => tJs [tC (.str t), tFmt (tVar i)] Str.empty σ H fun out H1 => Q (.str out) H1
abbrev tIni (K : PySem.W.Frag) (f t : Str) : TS := tSeq (tDrop (tVeI K (tCons (tVar 0) (tCons (tTx t 1) tNil)))) (tOst K f (tVar 0) (tVar 1))
def spInit (K : PySem.W.Frag) (C : Addr) (f : Str) : Sp := fun vs H Q _ => ∃ (a : Addr) (i : Int), vs = [.ref a, .int i] ∧ i.natAbs.log2 < 1920 ∧ OexC K C ∧ PySem.W.findIn K (.ref C) f = some none ∧ H a = some (exo a C none) ∧
  ∀ dx, H dx = none → dx ≠ a → Q .non (upd (upd H dx (exd dx [(f, .int i)])) a (exo a C (some dx)))
structure XIn (P : Program) (wd : World) (g : G) (base : Heap) (k : Nat) (c f : Str) : Prop where
  ex : ∃ (C fI : Addr) (fd : FuncData), g.mg c = some (.ref C) ∧ OexC g.K C ∧ PySem.W.findIn g.K (.ref C) "__init__" = some (some (.ref fI)) ∧ PySem.W.typeIn g.K (.ref fI) = some (.type "function") ∧ PySem.W.findIn g.K (.ref C) f = some none ∧
    FnOk P wd g.K g.mg base CX0 k fI fd ["self", f] (spInit g.K C f) ∧ Binds g.K fd ["self", f] []
section
variable {X : Cx} {Wx : WX} {k : Nat}
def rIsE2 (K : PySem.W.Frag) (D a : Addr) (d : Option Addr) : List V → Hp → VK → Prop := fun xs H Q => ∃ (c : V) (cv : Value) (b : Bool), xs = [.ref a, c] ∧ (∀ u, RelV c u → u = cv) ∧ PySem.W.kitOne K (.ref D) cv = some b ∧ (∀ dd, d = some dd → ∃ fs, H dd = some (.xd fs)) ∧ Q (.bl b) H
structure ExTF (g : G) (xB xC f : Str) (kt : Str → Option Bool) : Prop where
  ex : ∃ B C : Addr, g.mg xB = some (.ref B) ∧ g.mg xC = some (.ref C) ∧ ∀ c b, kt c = some b → ∃ D, g.mg c = some (.ref D) ∧ ExcC g.K D ∧ PySem.W.findIn g.K (.ref D) f = some none ∧ PySem.W.kitOne g.K (.ref D) (.ref C) = some b ∧ PySem.W.exmOne g.K (.ref D) (.ref B) = some true
end
end J
set_option Elab.async false
set_option linter.all false
set_option maxRecDepth 100000
set_option maxHeartbeats 1000000
namespace J
open PySem PySem.Spec PyProof.Rows L2
section
variable {X : Cx} {Wx : WX} {pos : Pos}
end
end J
set_option Elab.async false
set_option linter.all false
set_option maxRecDepth 100000
set_option maxHeartbeats 1000000
namespace J
open PySem PySem.Spec PyProof.Rows L2
section
variable {X : Cx} {Wx : WX} {pos : Pos}
theorem jm_extend : MtR X "list.extend" (mtOf X.g mExtend) := by
  intro pins s σ H x xs v us Q I rx rs' ⟨Wx, σ', w, S, d, ds, hH, G, rs, r1, r2, p⟩
  subst hH
  unfold mExtend at p
  split at p
  · rename_i n y
    obtain ⟨z, rfl, r3⟩ := r2.one'
    split at p
    · rename_i ys e
      split at p
      · rename_i zs e2
        split at p
        · rename_i hl
          obtain ⟨a, vs, rfl, hp, t, r4⟩ := locUse rs r1 e
          obtain ⟨b, vz, rfl, tb, r5⟩ := r3.lstAt rs e2
          exact mt_extend pins s σ _ _ _ v us Q I rx rs' ⟨a, b, vs, vz, rfl, rfl, t, tb, by rw [r4.length, r5.length, ← sl_eq]; exact hl, putLst (d := .non) (v := .non) G rs hp (r4.append r5) rfl p⟩
        · exact p.elim
      · exact p.elim
    · exact p.elim
  · exact p.elim
end
end J
set_option Elab.async false
set_option linter.all false
set_option maxRecDepth 100000
set_option maxHeartbeats 1000000
namespace J
open PySem PySem.Spec PyProof.Rows L2
open PySem.W (alike alikeAll dataLt keyToks keyToksAll dataLe EachIs)
section
variable {X : Cx} {Wx : WX} {pos : Pos}
end
end J
set_option Elab.async false
set_option linter.all false
set_option maxRecDepth 100000
set_option maxHeartbeats 1000000
namespace J
open PySem PySem.Spec PyProof.Rows L2
section
variable {X : Cx} {Wx : WX} {k : Nat}
end
end J
set_option Elab.async false
set_option linter.all false
set_option maxRecDepth 100000
set_option maxHeartbeats 1000000
namespace J
open PySem PySem.Spec PyProof.Rows L2
/-! range down -/
section
variable {X : Cx} {Wx : WX} {tg a b c : Expr} {ma mb mc : ME} {pos : Pos}
end
/-! d.setdefault(k, x), k a tuple -/
section
variable {X : Cx} {pins : List (Addr × Obj)} {σ : L2.St} {H : Hp} {s : Shared} {a b : Addr} {r : Value} {d : V} {k : List Key} {A : Around} {E : Value → Shared → Prop}
end
def tSetd2 (td ty tx : TE) : TE := fun σ H Q => td σ H fun x H1 => ∃ a, x = .ref a ∧ IsD H1 a ∧ ty σ H1 fun y H2 => tx σ H2 fun z H3 =>
  (∃ (kvs : List (Key × V)) (k : Key), H3 a = some (.dK kvs) ∧ y = kV k ∧ kvs.length < sizeLine ∧ (∀ v, valV kvs k = some v → Q v H3) ∧ (valV kvs k = none → Q z (upd H3 a (.dK (L2.putK kvs k z))))) ∨
  ∃ (kvs : List (List Key × V)) (k : List Key) (b : Addr), H3 a = some (.dT kvs) ∧ y = .ref b ∧ H3 b = some (.tup (k.map kV)) ∧ kvs.length < sizeLine ∧ (∀ v, valV kvs k = some v → Q v H3) ∧ (valV kvs k = none → Q z (upd H3 a (.dT (L2.putK kvs k z))))
section
variable {X : Cx} {o e f : Expr} {td ty tx : TE} {apos cpos : Pos}
end
section
variable {X : Cx} {Wx : WX}
end
section
variable {X : Cx} {Wx : WX} {pos : Pos}
theorem ds_forN {tg iter : Expr} {body : List Stmt} {mi : MI} {t : Tg} {mb : MS} (hp : PassesOwn (model X.prog X.w) X.A X.env X.xe) (hc : X.calm = true) (hi : PI X tg iter (TIof X.g Wx mi)) (hg : PG X tg (TGof X.g t)) (hb : PSs X body (TSof X.g Wx mb))
    (hs : ∀ x, foldedSetIterable iter X.env x = pure x := by intro _; rfl) : PS X (.For tg iter body [] pos) (TSof X.g Wx (sForN t mi mb)) := by
  refine psImp (ps_for hp hc hi hg hb hs) fun D σ H ⟨w, E, S, a, p⟩ => ⟨w, E, S, a, ?_⟩
  unfold sForN at p
  cases hm : mi E S with
  | bad => rw [hm] at p; exact p.elim
  | exc c fs S1 =>
    rw [hm] at p
    exact fun cls dx w' x G' rx rs => p cls dx σ w' x G' rx (a.env.mono a.good x) rs
  | ok src S1 =>
    rw [hm] at p
    intro J0 w1 x1 G1 it rs1
    have p1 : PO_ X.g Wx D w1 (forGoN src t mb src.len 0 E S1) := p.at x1
    refine ⟨fun i k σ H => ∃ w2 E2 S2, At X.g w2 E2 σ H S2 ∧ Ext w1 w2 ∧ i + k = src.len ∧ PO_ X.g Wx D w2 (forGoN src t mb k i E2 S2),
      ⟨src.len, w1, E, S1, ⟨rfl, G1, a.env.mono a.good x1, rs1⟩, Ext.refl _, by omega, p1⟩, ?_⟩
    rintro i k σ H ⟨w2, E2, S2, a2, x2, hik, p2⟩
    cases k with
    | zero =>
      simp only [forGoN] at p2
      split at p2
      · rename_i al
        have hi : i = src.len := by omega
        subst hi
        refine .inl ⟨?_, ?_⟩
        · rw [← a2.hp]
          exact it.stop w2 S2 x2 a2.sto al
        · have := p2 σ w2 (Ext.refl _) a2.good a2.env a2.sto
          rw [a2.hp] at this
          exact this
      · exact p2.elim
    | succ k =>
      simp only [forGoN] at p2
      split at p2
      · rename_i al
        split at p2
        · exact p2.elim
        · rename_i d hd
          split at p2
          · exact p2.elim
          · rename_i E1 hE
            have hlt : i < src.len := by omega
            refine .inr ⟨by rw [← a2.hp]; exact it.go i w2 S2 d x2 a2.sto al hd hlt, fun σ' H' => ∃ w2 E2 S2, At X.g w2 E2 σ' H' S2 ∧ Ext w1 w2 ∧ (i + 1) + k = src.len ∧ PO_ X.g Wx D w2 (forGoN src t mb k (i + 1) E2 S2), fun σ' H' hN => ⟨k, Nat.lt_succ_self k, hN⟩, fun x H' hy => ?_⟩
            rw [← a2.hp] at hy
            obtain ⟨w3, eH, x3, G3, _, _, r3, rs3⟩ := it.yld i w2 S2 d x H' x2 a2.good a2.sto al hd hlt hy
            refine ⟨w3, E2, S2, d, E1, ⟨eH, G3, a2.env.mono a2.good x3, rs3⟩, r3, hE, fun σ' re _ _ => ⟨w3, E1, S2, ⟨eH, G3, re, rs3⟩, ?_⟩⟩
            have p3 := p2.at x3
            have again : ∀ {E3 : Env} {S3 : List J.D}, PO_ X.g Wx D w3 (forGoN src t mb k (i + 1) E3 S3) → ∀ σ' w4, Ext w3 w4 → Good w4 → RE X.g w4 E3 σ' → RS X.g w4 S3 →
                ∃ w2 E2 S2, At X.g w2 E2 σ' w4.H S2 ∧ Ext w1 w2 ∧ (i + 1) + k = src.len ∧ PO_ X.g Wx D w2 (forGoN src t mb k (i + 1) E2 S2) := fun {E3 S3} q σ' w4 x4 G4 re4 rs4 =>
              ⟨w4, E3, S3, ⟨rfl, G4, re4, rs4⟩, x2.trans (x3.trans x4), by omega, q.at x4⟩
            cases hbd : mb E1 S2 with
            | nx E3 S3 => rw [hbd] at p3; exact again p3
            | ct E3 S3 => rw [hbd] at p3; exact again p3
            | bk E3 S3 => rw [hbd] at p3; exact p3
            | rt d S3 => rw [hbd] at p3; exact p3
            | exc c fs E3 S3 => rw [hbd] at p3; exact p3
            | bad => rw [hbd] at p3; exact p3
      · exact p2.elim
end
/-! an int times a tuple, a list -/
theorem int_mul_tuple (a : Int) (t : Tok) (l : Addr) (items : Array Value) (n : Nat) (dd : Option Addr) (sl : Array (Option Value)) :
    Meets (Builtin.«int.__mul__» ⟨[.int a t, .ref l], []⟩) (fun _ R s => s.heap.get? l = some { cls := .type "tuple", dict := dd, data := .seq items n, slots := sl } ∧ R (.ok (.ret Value.notImplemented)) s) :=
  .of_wp fun prog w A R s h => by
    obtain ⟨hp, g, d, tk, os⟩ := s
    obtain ⟨hl, h⟩ := h
    wp_walk using wpAny_loadPart' hl
    exact ⟨_, rfl, h⟩
section
variable {X : Cx}
theorem op_repR : OpR X (binaryOp .Mult) (fun x y H Q => ∃ l k xs, x = .int k ∧ y = .ref l ∧ H l = some (.lst xs) ∧ -(2 ^ 63) ≤ k ∧ k < 2 ^ 63 ∧ xs.length * k.toNat ≤ sizeLine ∧ ∀ p, H p = none → Q (.ref p) (upd H p (.lst (List.replicate k.toNat xs).flatten))) := by
  intro pins s σ H x y v u Q I rx ry h
  obtain ⟨l, k, xs, rfl, rfl, hH, h1, h2, hz, q⟩ := h
  cases ry
  obtain ⟨t, rfl⟩ := rx
  obtain ⟨z, its, n, r, hl, e⟩ := I.lstM hH
  have hlen : its.toArray.size * k.toNat ≤ sizeLine := by rw [List.size_toArray, ← hl]; exact hz
  have hcap : ¬ its.toArray.size * k.toNat > (2 ^ 63 - 1) / 8 := by
    have : (sizeLine : Nat) ≤ (2 ^ 63 - 1) / 8 := by decide
    omega
  have hfit : ¬ (!Builtin.List.listFitsIndex k) = true := by
    rw [fitsIndex_both h1 h2]
    exact Bool.false_ne_true
  have hlong : ¬ Builtin.List.listTooLong (its.toArray.size * k.toNat) = true := by
    rw [notLongL hlen]
    exact Bool.false_ne_true
  have hnew : List.foldl (fun x1 x2 => x1 ++ x2) #[] (List.replicate (if its.toArray.isEmpty = true then 0 else k.toNat) its.toArray) = (List.replicate k.toNat its).flatten.toArray := by
    rw [L2.size_rep]
    cases its with
    | nil => simp
    | cons a r' => rw [if_neg (by simp)]
  refine lm_binaryOp_repeat_right (T := "list") (U := "int") (by decide) (fun s' => typeIs_int s' k t) ⟨_, e, rfl⟩ F.fills_int_mul noFill_list_mul F.slot_int_mul lm_noRepeat_int repeat_list F.slot_int_index.lookup
    (call_meets F.slot_int_mul (typeIs_int s k t) F.entry_int_mul (F.args_int_mul_2 _ _) (int___mul___int_list k t l its.toArray n)
      ⟨e, rfl, ⟨_, e, rfl⟩, call_meets F.slot_list_mul ⟨_, e, rfl⟩ F.entry_list_mul (F.args_list_mul_2 _ _) (AutoListH.list___mul___list_int_3 l its.toArray n k t hfit hcap hlong) ⟨e, ?_⟩⟩)
  rw [hnew]
  exact ⟨.ref _, _, I.lnew (t' := s.toks) (r.rep k.toNat) (by rw [PyProof.Rows.lm_len_rep_flat, Nat.mul_comm]; exact hz), rfl, q _ I.fresh⟩
theorem op_repTR : OpR X (binaryOp .Mult) (fun x y H Q => ∃ l k xs, x = .int k ∧ y = .ref l ∧ SqT X.K H l xs ∧ xs ≠ [] ∧ 2 ≤ k ∧ k ≤ 1000 ∧ xs.length ≤ 1000 ∧ ∀ p, H p = none → Q (.ref p) (upd H p (.tup (List.replicate k.toNat xs).flatten))) := by
  intro pins s σ H x y v u Q I rx ry h
  obtain ⟨l, k, xs, rfl, rfl, hT, hne, h1, h2, hz, q⟩ := h
  cases ry
  obtain ⟨t, rfl⟩ := rx
  obtain ⟨its, r, ⟨⟨cls, dd, data, sl⟩, ho, hc, n, hd⟩, hs⟩ := I.tuple hT
  simp only at hc hd
  subst hc hd
  have hle : its.length = xs.length := r.length.symm
  have hi : its.toArray.isEmpty = false := by
    cases its with
    | nil => exact absurd (List.eq_nil_of_length_eq_zero hle.symm) hne
    | cons a b => rfl
  have hsz0 : its.toArray.size = xs.length := by rw [List.size_toArray, hle]
  have hm : ((its.toArray.size : Nat) : Int) * k ≤ 1000000 := by
    rw [hsz0]
    have a1 : ((xs.length : Nat) : Int) * k ≤ 1000 * k := Int.mul_le_mul_of_nonneg_right (by omega) (by omega)
    omega
  have hmul : k.toNat * xs.length ≤ 1000 * 1000 := Nat.mul_le_mul (by omega) hz
  have flen : (List.replicate k.toNat its).flatten.length ≤ sizeLine := by
    rw [PyProof.Rows.lm_len_rep_flat, hle, sizeLine_eq]
    omega
  have c0 : (decide (k < -(2 ^ 63)) || decide (k ≥ 2 ^ 63)) = false := by
    rw [decide_eq_false (by omega), decide_eq_false (by omega)] <;> rfl
  have c1 : (its.toArray.isEmpty || k == 1) = false := by
    rw [hi, Bool.false_or]
    exact beq_eq_false_iff_ne.mpr (by omega)
  have c2 : (decide (k ≤ 0) || its.toArray.isEmpty) = false := by
    rw [hi, Bool.or_false]
    exact decide_eq_false (by omega)
  have c4 : Builtin.Tuple.tupleTooMany (((its.toArray.size : Nat) : Int) * k) = false := by
    unfold Builtin.Tuple.tupleTooMany
    rw [sizeLine_eq]
    exact decide_eq_false (by omega)
  refine lm_binaryOp_repeat_right (T := "tuple") (U := "int") (by decide) (fun s' => typeIs_int s' k t) ⟨_, ho, rfl⟩ F.fills_int_mul noFill_tuple_mul F.slot_int_mul lm_noRepeat_int repeat_tuple F.slot_int_index.lookup
    (call_meets F.slot_int_mul (typeIs_int s k t) F.entry_int_mul (F.args_int_mul_2 _ _) (int_mul_tuple k t l its.toArray n dd sl)
      ⟨ho, rfl, ⟨_, ho, rfl⟩, call_meets F.slot_tuple_mul ⟨_, ho, rfl⟩ F.entry_tuple_mul (F.args_tuple_mul_2 _ _) (tuple_mulW l its.toArray n dd sl k t c0 c1 c2 (by omega) c4 (by rw [L2.size_rep, List.size_toArray]; exact flen)) ⟨ho, ?_⟩⟩)
  rw [L2.size_rep]
  refine ⟨.ref s.heap.objs.size, _, I.laid (t' := s.toks) (o := .tup (List.replicate k.toNat xs).flatten) (fun b ob q => Heap.get?_push_of_some _ q) (Nat.le_refl _) ?_, rfl, q _ (I.hok.fresh (Nat.le_refl _))⟩
  exact ⟨by rw [PyProof.Rows.lm_len_rep_flat, sizeLine_eq]; omega, _, r.rep k.toNat, IsTup.new _ _⟩
theorem jo_mulR : OpR X (binaryOp .Mult) (opOf X.g oMulR) := by
  intro pins s σ H x y v u Q I rx ry ⟨Wx, σ', w, S, d, e, hH, G, rs, r1, r2, p⟩
  subst hH
  unfold oMulR at p
  split at p
  · split at p
    · rename_i k xs h
      obtain ⟨h1, h2, h3, h4⟩ := h
      cases r1
      obtain ⟨a, vs, rfl, ta, ra⟩ := id r2
      refine op_repTR pins s σ _ _ _ v u Q I rx ry ⟨a, _, vs, rfl, rfl, ta.sq, ?_, h2, h3, by rw [ra.length]; exact h4, new_tup p G rs (ra.rep _)⟩
      intro z
      apply h1
      have := ra.length
      rw [z] at this
      exact List.eq_nil_of_length_eq_zero this.symm
    · exact p.elim
  · split at p
    · rename_i xs e1
      split at p
      · rename_i h
        cases r1
        obtain ⟨a, vs, rfl, ta, ra⟩ := r2.lstAt rs e1
        exact op_repR pins s σ _ _ _ v u Q I rx ry ⟨a, _, vs, rfl, rfl, ta, h.1, h.2.1, by rw [ra.length, ← sl_eq]; exact h.2.2, new_lst p G rs (ra.rep _)⟩
      · exact p.elim
    · exact p.elim
  · exact p.elim
end
section
variable {X : Cx} {Wx : WX} {pos : Pos}
end
/-! list(d) -/
end J
set_option Elab.async false
set_option linter.all false
set_option maxRecDepth 100000
set_option maxHeartbeats 1000000
namespace J
open PySem PySem.Spec PyProof.Rows L2
section
variable {X : Cx} {Wx : WX} {pos : Pos}
end
end J
set_option Elab.async false
set_option linter.all false
set_option maxRecDepth 100000
set_option maxHeartbeats 1000000
namespace J
open PySem PySem.Spec PyProof.Rows L2
section
variable {X : Cx} {Wx : WX} {pos : Pos}
theorem jo_inT (hu : X.A.units + 65 < cLine) : OpR X (compareOp .In) (opOf X.g oInT) := by
  intro pins s σ H x y v u Q I rx ry ⟨Wx, σ', w, S, d, e, hH, G, rs, r1, r2, p⟩
  subst hH
  unfold oInT at p
  split at p
  · rename_i ks ds e1
    split at p
    · rename_i k e2
      obtain ⟨a, us, rfl, t, l, r3⟩ := r2.dctTAt rs e1
      cases ry
      obtain ⟨b, rfl, tb, _⟩ := kyT_of r1 e2
      have q := putSame p G rs rfl
      refine d_in (by omega) I (.inr ⟨_, k, b, t, rfl, tb, rfl⟩) rx fun s' I' => ⟨.bl _, _, I', rfl, ?_⟩
      rw [valV_someG k l]
      exact q
    · exact p.elim
  · exact p.elim
theorem jo_ninT (hu : X.A.units + 65 < cLine) : OpR X (compareOp .NotIn) (opOf X.g oNinT) := by
  intro pins s σ H x y v u Q I rx ry ⟨Wx, σ', w, S, d, e, hH, G, rs, r1, r2, p⟩
  subst hH
  unfold oNinT at p
  split at p
  · rename_i ks ds e1
    split at p
    · rename_i k e2
      obtain ⟨a, us, rfl, t, l, r3⟩ := r2.dctTAt rs e1
      cases ry
      obtain ⟨b, rfl, tb, _⟩ := kyT_of r1 e2
      have q := putSame p G rs rfl
      refine d_notIn (by omega) I (.inr ⟨_, k, b, t, rfl, tb, rfl⟩) rx fun s' I' => ⟨.bl _, _, I', rfl, ?_⟩
      rw [valV_someG k l]
      exact q
    · exact p.elim
  · exact p.elim
theorem jo_ixT (hu : X.A.units + 1 < cLine) : IxR X (opOf X.g oIxT) := by
  intro value slice pins s σ H x y v u Q I rx ry ⟨Wx, σ', w, S, d, e, hH, G, rs, r1, r2, p⟩ hs
  subst hH
  unfold oIxT at p
  split at p
  · rename_i ks ds e1
    split at p
    · rename_i k e2
      split at p
      · rename_i dd e3
        obtain ⟨a, us, rfl, t, l, r3⟩ := r1.dctTAt rs e1
        cases rx
        obtain ⟨b, rfl, tb, _⟩ := kyT_of r2 e2
        obtain ⟨z, h5, h6⟩ := (valT_zip k l r3).1 dd e3
        have h : DGet w.H a (.ref b) (some z) := .inr ⟨_, k, b, t, rfl, tb, h5.symm⟩
        exact tail_any (dict_typeIs I h) PySem.F.slot_dict_getitem.lookup (d_getItem hu I h ry fun w' s' I' r' => ⟨z, _, I', r', putSame p G rs h6⟩) hs
      · exact p.elim
    · exact p.elim
  · exact p.elim
end
end J
set_option Elab.async false
set_option linter.all false
set_option maxRecDepth 100000
set_option maxHeartbeats 1000000
namespace J
open PySem PySem.Spec PyProof.Rows L2
section
variable {X : Cx} {Wx : WX} {k : Nat}
end
end J
set_option Elab.async false
set_option linter.all false
set_option maxRecDepth 100000
set_option maxHeartbeats 1000000
namespace J
open PySem PySem.Spec PyProof.Rows L2
section
variable {X : Cx} {Wx : WX} {pos : Pos} {es : List Expr} {t : TA}
def tTupK (t : TA) : TE := fun σ H Q => t σ H fun xs H1 => xs.length ≤ sizeLine ∧ ∀ p o, o.dict = none → H1 p = none → Q (.ref p) (upd H1 p (.frz o (.tup xs)))
end
section
variable {X : Cx} {Wx : WX} {pos : Pos}
def slOfK (g : G) : V → Option Int → Option Int → Hp → VK → Prop := fun x lo hi H Q => ∃ Wx σ w S d, w.H = H ∧ Good w ∧ RS g w S ∧ RD g w d x ∧ PR g Wx σ w (RD g) Q (oSlK d lo hi S)
def tRevK (K : PySem.W.Frag) (te : TE) : TE := fun σ H Q => te σ H fun x H1 => ∃ a xs, x = .ref a ∧ SqT K H1 a xs ∧ ∀ p o, o.dict = none → H1 p = none → Q (.ref p) (upd H1 p (.frz o (.tup xs.reverse)))
end
end J
set_option Elab.async false
set_option linter.all false
set_option maxRecDepth 100000
set_option maxHeartbeats 1000000
namespace J
open PySem PySem.Spec PyProof.Rows L2
section
variable {X : Cx} {Wx : WX}
end
end J
set_option Elab.async false
set_option linter.all false
set_option maxRecDepth 100000
set_option maxHeartbeats 1000000
namespace J
open PySem PySem.Spec PyProof.Rows L2
open PySem.W (alike alikeAll dataLt keyToks keyToksAll dataLe EachIs)
section
variable {X : Cx}
end
section
variable {prog : Program} {w : World} {A : Around} {E : Value → Shared → Prop} {s : Shared} {T : String} {r d : Addr} {n : Nat} {P : Nat → Value → Prop} {OK : Heap → Prop} {Q : Value → Shared → Prop}
end

/-! sorted(d.keys()), the keys tuples, d an object of the heap -/
section
variable {X : Cx} {pins : List (Addr × Obj)} {σ : L2.St} {H : Hp} {s : Shared}
end
section
variable {X : Cx} {Wx : WX}
end
section
variable {X : Cx}
end
end J
set_option Elab.async false
set_option linter.all false
set_option maxRecDepth 100000
set_option maxHeartbeats 1000000
namespace J
open PySem PySem.Spec PyProof.Rows L2
section
variable {X : Cx} {Wx : WX} {pos : Pos}
end
end J
set_option Elab.async false
set_option linter.all false
set_option maxRecDepth 100000
set_option maxHeartbeats 1000000
namespace J
open PySem PySem.Spec PyProof.Rows L2
def iKeysMT (td : TE) : TI := fun σ H R => td σ H fun x H1 => ∃ d o kvs, x = .ref d ∧ H1 d = some (.frz o (.dT kvs)) ∧ R (Itkt d o kvs) H1
theorem its_keysT {g : G} {w : W} {a : Addr} {o : Obj} {ks : List (List Ky)} {vs : List V} (G0 : Good w) (h : w.H a = some (.frz o (.dT (ks.zip vs)))) (n : ¬ w.thA a) (l : ks.length = vs.length) :
    ItOk g w (Itkt a o (ks.zip vs)) (Src.its (ks.map tupK)) := by
  have na : a ∉ w.rhA := fun z => n (G0.sub a z)
  have hlen : (ks.map tupK).length = (ks.zip vs).length := by simp; omega
  have kp : ∀ w', Ext w w' → w'.H a = some (.frz o (.dT (ks.zip vs))) := fun w' x => x.kpN h na dkt_frz
  refine ⟨fun i w' S d x rs al e hi => ⟨kp w' x, ?_⟩, fun w' S x rs al => ⟨kp w' x, ?_⟩, fun i w' S d x H' ex G rs al e hi y => ?_⟩
  · have : i < (ks.map tupK).length := hi
    omega
  · show (ks.zip vs).length ≤ (ks.map tupK).length
    omega
  · obtain ⟨rfl, k, v, q, hk, rfl, hq⟩ := y
    have e' : (ks.map tupK)[i]? = some d := e
    rw [List.getElem?_map] at e'
    have hki : ks[i]? = some k ∧ vs[i]? = some v := by
      rw [List.getElem?_zip_eq_some] at hk
      exact hk
    rw [hki.1] at e'
    simp at e'
    subst e'
    exact ⟨w', rfl, Ext.refl _, G, rfl, rfl, ⟨q, _, rfl, ⟨hq, fun z => G.nt q z _ hq⟩, kDs_rd k⟩, rs⟩
section
variable {X : Cx} {Wx : WX} {pos : Pos}
end
end J
set_option Elab.async false
set_option linter.all false
set_option maxRecDepth 100000
set_option maxHeartbeats 1000000
namespace J
open PySem PySem.Spec PyProof.Rows L2
namespace IT
end IT
end J
set_option Elab.async false
set_option linter.all false
set_option maxRecDepth 100000
set_option maxHeartbeats 4000000
namespace J
open PySem PySem.Spec PyProof.Rows L2
def permF (q : Addr) (st : Int) (n : Nat) (last : Value) (ns : List Nat) : Array Value := ([.ref q, rawInt st, rawInt n, last] ++ ns.map fun k : Nat => rawInt k).toArray
def IsPerm (h : Heap) (it q : Addr) (st : Int) (n : Nat) (last : Value) (ns : List Nat) : Prop := ∃ o, h.get? it = some o ∧ o.cls = .type "itertools.permutations" ∧ o.data = .fields (permF q st n last ns)
section
variable {prog : Program} {w : World} {A : Around} {E : Value → Shared → Prop} {s : Shared}
theorem IsPerm.at {h h' : Heap} {it q : Addr} {st : Int} {n : Nat} {last : Value} {ns : List Nat} (x : IsPerm h it q st n last ns) (k : ∀ o, h.get? it = some o → h'.get? it = some o) : IsPerm h' it q st n last ns := by
  obtain ⟨o, ho, r⟩ := x
  exact ⟨o, k o ho, r⟩
theorem IsPerm.upd {h : Heap} {it q : Addr} {st st' : Int} {n : Nat} {last last' : Value} {ns ns' : List Nat} {f : Array Value → Array Value} (x : IsPerm h it q st n last ns) (e : f (permF q st n last ns) = permF q st' n last' ns') : IsPerm (h.update it (Obj.mapFields f)) it q st' n last' ns' := by
  obtain ⟨o, ho, hc, hd⟩ := x
  refine ⟨_, Heap.get?_update_self _ ho (Obj.isFreed_of_fields (Obj.data_mapFields hd _)), (Obj.cls_mapFields ..).trans hc, ?_⟩
  rw [Obj.data_mapFields hd, e]
end
def pst (n : Nat) : Nat → Option (List Nat × List Nat)
  | 0 => some (List.range n, (List.range n).map fun i => n - i)
  | i + 1 => (pst n i).bind fun s => pnx n n s.1 s.2
structure POk2 (n : Nat) (ix cy : List Nat) : Prop where
  l : ix.length = n
  lc : cy.length = n
  b : ∀ x ∈ ix, x < n
def rowH (fz : Bool) (row : List Nat) (ob : HO) : Prop := if fz = true then ∃ o : Obj, o.dict = none ∧ ob = .frz o (.tup (row.map fun k : Nat => V.int k)) else ob = .tup (row.map fun k : Nat => V.int k)
def Itp (fz : Bool) (n : Nat) : It := ⟨fun i _ => ∃ s, pst n i = some s, fun i H v H' => ∃ T ix cy ob, pst n i = some (ix, cy) ∧ v = .ref T ∧ H T = none ∧ rowH fz ix ob ∧ H' = upd H T ob, fun i _ => pst n i = none⟩
def permSt (it q : Addr) (n i : Nat) (h : Heap) : Prop := it ≠ q ∧ ∃ us : Array Value, h.IsTuple q us ∧ ItemsOf (fun i v => ∃ t, v = .int (0 + i * 1) t) us n ∧ ((i = 0 ∧ ∃ ix cy, pst n 0 = some (ix, cy) ∧ IsPerm h it q 0 n .none (ix ++ cy)) ∨ ∃ j last ix cy, i = j + 1 ∧ pst n j = some (ix, cy) ∧ IsPerm h it q 1 n last (ix ++ cy))
section
variable {X : Cx} {Wx : WX}
def tPerm (fz : Bool) (te : TE) : TI := fun σ H R => tRg1 te σ H fun a b H1 => a = 0 ∧ ∃ n : Nat, b = n ∧ n ≤ 100 ∧ R (Itp fz n) H1
end
section
variable {X : Cx} {Wx : WX}
end
end J
set_option Elab.async false
set_option linter.all false
set_option maxRecDepth 100000
set_option maxHeartbeats 4000000
namespace J
open PySem PySem.Spec PyProof.Rows L2
def combF (q : Addr) (st : Int) (last : Value) (ns : List Nat) : Array Value := ([.ref q, rawInt st, last] ++ ns.map fun k : Nat => rawInt k).toArray
def IsComb (h : Heap) (it q : Addr) (st : Int) (last : Value) (ns : List Nat) : Prop := ∃ o, h.get? it = some o ∧ o.cls = .type "itertools.combinations" ∧ o.data = .fields (combF q st last ns)
theorem IsComb.at {h h' : Heap} {it q : Addr} {st : Int} {last : Value} {ns : List Nat} (x : IsComb h it q st last ns) (k : ∀ o, h.get? it = some o → h'.get? it = some o) : IsComb h' it q st last ns := by
  obtain ⟨o, ho, r⟩ := x
  exact ⟨o, k o ho, r⟩
theorem IsComb.upd {h : Heap} {it q : Addr} {st st' : Int} {last last' : Value} {ns ns' : List Nat} {f : Array Value → Array Value} (x : IsComb h it q st last ns) (e : f (combF q st last ns) = combF q st' last' ns') : IsComb (h.update it (Obj.mapFields f)) it q st' last' ns' := by
  obtain ⟨o, ho, hc, hd⟩ := x
  refine ⟨_, Heap.get?_update_self _ ho (Obj.isFreed_of_fields (Obj.data_mapFields hd _)), (Obj.cls_mapFields ..).trans hc, ?_⟩
  rw [Obj.data_mapFields hd, e]
section
variable {prog : Program} {w : World} {A : Around} {E : Value → Shared → Prop} {s : Shared}
end
def cst (n m : Nat) : Nat → Option (List Nat)
  | 0 => some (List.range m)
  | i + 1 => (cst n m i).bind fun s => cnx n s
structure COk2 (n m : Nat) (ix : List Nat) : Prop where
  l : ix.length = m
  b : ∀ k, k < m → ix.getD k 0 + m ≤ k + n
theorem COk2.lt {n m : Nat} {ix : List Nat} (K : COk2 n m ix) : ∀ x ∈ ix, x < n := fun x hx => by
  obtain ⟨k, hk, e⟩ := List.getElem_of_mem hx
  have h1 := K.b k (by rw [← K.l]; exact hk)
  rw [List.getD_eq_getElem?_getD, List.getElem?_eq_getElem hk] at h1
  have h2 : ix[k] + m ≤ k + n := h1
  have := K.l
  omega
def Itcb (n m : Nat) : It := ⟨fun i _ => ∃ s, cst n m i = some s, fun i H v H' => ∃ T ix, cst n m i = some ix ∧ v = .ref T ∧ H T = none ∧ H' = upd H T (.tup (ix.map fun k : Nat => V.int k)), fun i _ => cst n m i = none⟩
def combSt (it q : Addr) (n m i : Nat) (h : Heap) : Prop := it ≠ q ∧ ∃ us : Array Value, h.IsTuple q us ∧ ItemsOf (fun i v => ∃ t, v = .int (0 + i * 1) t) us n ∧ ((i = 0 ∧ ∃ ix, cst n m 0 = some ix ∧ IsComb h it q 0 .none ix) ∨ ∃ j last ix, i = j + 1 ∧ cst n m j = some ix ∧ IsComb h it q 1 last ix)
section
variable {X : Cx} {Wx : WX}
def tComb (te : TE) (k : Nat) : TI := fun σ H R => tRg1 te σ H fun a b H1 => ∃ n m : Nat, σ[k]? = some (some (.int m)) ∧ a = 0 ∧ b = n ∧ n ≤ 100 ∧ m ≤ n ∧ R (Itcb n m) H1
end
section
variable {X : Cx} {Wx : WX}
end
end J
set_option Elab.async false
set_option linter.all false
set_option maxRecDepth 100000
set_option maxHeartbeats 4000000
namespace J
open PySem PySem.Spec PyProof.Rows L2
section
variable {X : Cx} {Wx : WX} {a : Expr} {ma : ME}
end
theorem ext_ltup (l : Addr) (items : Array Value) (n : Nat) (b : Addr) (items2 : Array Value) (n2 : Nat) (dc : Option Addr) (sl : Array (Option Value)) (hs0 : ¬(!items.isEmpty && Builtin.List.listTooLong (items.size + items2.size)) = true) (hs1 : items.size ≤ sizeLine) (hs2 : items.size + items2.size ≤ sizeLine + 1) :
    Meets (Builtin.«list.extend» ⟨[.ref l, .ref b], []⟩) (fun _ R s => s.heap.get? l = some { cls := .type "list", dict := none, data := .seq items n, slots := #[] } ∧ s.heap.get? b = some { cls := .type "tuple", dict := dc, data := .seq items2 n2, slots := sl } ∧ R (.ok (.ret Value.none)) { s with heap := s.heap.update l (Obj.mapSeq fun x => x ++ items2), toks := s.toks }) :=
  .of_wp fun prog w A R s h => by
    obtain ⟨hp, g, d, tk, os⟩ := s
    obtain ⟨hl, hb, h⟩ := h
    have f1 := PySem.AutoSeq1.idx_int
    have f2 := PySem.AutoSeq1.sub_tuple_tuple
    have f3 := PySem.AutoSeq1.sub_list_list
    have f4 := PySem.AutoSeq1.sub_tuple_list
    have f5 := PySem.AutoSeq1.sub_list_tuple
    have hz' : (items ++ items2).size ≤ sizeLine + 1 := by rw [Array.size_append]; exact hs2
    wp_walk using (wpAny_updateSeq hl rfl (hz := hs1) (_hz' := hz')), PySem.AutoSeq1.wpAny_loadPart' hl, PySem.AutoSeq1.wpAny_loadPart' hb
    exact ⟨_, rfl, h⟩
section
variable {X : Cx} {Wx : WX}
theorem mt_extendT : MtR X "list.extend" (fun x vs H Q => ∃ l b xs zs, x = .ref l ∧ vs = [.ref b] ∧ H l = some (.lst xs) ∧ SqT X.K H b zs ∧ xs.length + zs.length ≤ sizeLine ∧ Q .non (upd H l (.lst (xs ++ zs)))) := by
  intro pins s σ H x vs v us Q I rx rv h
  obtain ⟨l, b, xs, zs, rfl, rfl, hH, hB, hz, q⟩ := h
  cases rx
  obtain ⟨u, rfl, ru⟩ := rv.one
  cases ru
  obtain ⟨z, its, n, r, hl, e⟩ := I.lstM hH
  obtain ⟨its2, r2, ⟨o, e2, hc, n2, hd⟩, hl2⟩ := I.tuple hB
  obtain ⟨cls, dc, dt, sl⟩ := o
  cases hc
  cases hd
  have hl2 := r2.length
  have hsz : its.toArray.size + its2.toArray.size ≤ sizeLine := by rw [List.size_toArray, List.size_toArray]; omega
  have hlong : ¬ (!its.toArray.isEmpty && Builtin.List.listTooLong (its.toArray.size + its2.toArray.size)) = true := by
    rw [notLongL hsz, Bool.and_false]
    exact Bool.false_ne_true
  refine call_meets F.slot_list_extend ⟨_, e, rfl⟩ F.entry_list_extend (F.args_list_extend_2 _ _)
    (ext_ltup l its.toArray n b its2.toArray n2 dc sl hlong (by rw [List.size_toArray]; omega) (by omega)) ⟨e, e2, ?_⟩
  refine ⟨.non, _, I.lset (its' := its ++ its2) hH e (by simp) (r.append r2) ?_, rfl, q⟩
  rw [List.length_append]
  omega
theorem jm_extendS : MtR X "list.extend" (mtOf X.g mExtendS) := by
  intro pins s σ H x xs v us Q I rx rs' ⟨Wx, σ', w, S, d, ds, hH, G, rs, r1, r2, p⟩
  subst hH
  unfold mExtendS at p
  split at p
  · rename_i n y
    split at p
    · rename_i ys e
      split at p
      · rename_i zs
        obtain ⟨z, rfl, r3⟩ := r2.one'
        split at p
        · rename_i hl
          obtain ⟨a, vs, rfl, hp, t, r4⟩ := locUse rs r1 e
          obtain ⟨b, vz, rfl, tb, r5⟩ := r3
          exact mt_extendT pins s σ _ _ _ v us Q I rx rs' ⟨a, b, vs, vz, rfl, rfl, t, tb.sq, by rw [r4.length, r5.length, ← sl_eq]; exact hl, putLst (d := .non) (v := .non) G rs hp (r4.append r5) rfl p⟩
        · exact p.elim
      · rename_i zs
        obtain ⟨z, rfl, r3⟩ := r2.one'
        split at p
        · rename_i hl
          obtain ⟨a, vs, rfl, hp, t, r4⟩ := locUse rs r1 e
          obtain ⟨b, vz, o, rfl, tb, _, _, r5⟩ := r3
          exact mt_extendT pins s σ _ _ _ v us Q I rx rs' ⟨a, b, vs, vz, rfl, rfl, t, .inl (.inr ⟨o, tb⟩), by rw [r4.length, r5.length, ← sl_eq]; exact hl, putLst (d := .non) (v := .non) G rs hp (r4.append r5) rfl p⟩
        · exact p.elim
      · exact jm_extend pins s σ _ _ _ v us Q I rx rs' ⟨Wx, σ', w, S, .loc n, _, rfl, G, rs, r1, r2, p⟩
    · exact p.elim
  · exact p.elim
end
end J
set_option Elab.async false
set_option linter.all false
set_option maxRecDepth 100000
set_option maxHeartbeats 4000000
namespace J
open PySem PySem.Spec PyProof.Rows L2
open PySem.W (alike alikeAll dataLt keyToks keyToksAll dataLe EachIs)
def StdK (g : G) (w : W) (u : Value) (d : D) : Prop := ∃ es x, d = .tup es ∧ RD g w (.tuk es) x ∧ RelV x u
section
variable {X : Cx} {Wx : WX} {pos : Pos}
end
end J
set_option Elab.async false
set_option linter.all false
set_option maxRecDepth 100000
set_option maxHeartbeats 4000000
namespace J
open PySem PySem.Spec PyProof.Rows L2
open PySem.W (alike alikeAll dataLt keyToks keyToksAll dataLe EachIs)
section
variable {X : Cx} {Wx : WX} {pos : Pos}
end
end J
set_option Elab.async false
set_option linter.all false
set_option maxRecDepth 100000
set_option maxHeartbeats 4000000
namespace J
open PySem PySem.Spec PyProof.Rows L2
section
variable {X : Cx} {Wx : WX} {pos : Pos} {a b : Expr} {ma mb : ME}
end
end J
set_option Elab.async false
set_option linter.all false
set_option maxRecDepth 100000
set_option maxHeartbeats 4000000
namespace J
open PySem PySem.Spec PyProof.Rows L2
section
variable {X : Cx} {Wx : WX} {pos : Pos}
end
end J
set_option Elab.async false
set_option linter.all false
set_option maxRecDepth 100000
set_option maxHeartbeats 4000000
namespace J
open PySem PySem.Spec PyProof.Rows L2
def okV (v : V) : Prop := (∃ i : Int, v = .int i ∧ i.natAbs.log2 < 1920) ∨ v = .non
def tFmtN (te : TE) : TE := fun σ H Q => te σ H fun x H1 => (∃ y : Str, x = .str y ∧ y.length ≤ sizeLine ∧ Q (.str y) H1) ∨ (∃ i : Int, x = .int i ∧ i.natAbs.log2 < 1920 ∧ Q (.str (toString i)) H1) ∨ (x = .non ∧ Q (.str "None") H1)
abbrev tTxN (t : Str) (i : Nat) : TE := fun σ H Q => tJs [tC (.str t), tFmtN (tVar i)] Str.empty σ H fun out H1 => Q (.str out) H1
abbrev tIniN (K : PySem.W.Frag) (f t : Str) : TS := tSeq (tDrop (tVeI K (tCons (tVar 0) (tCons (tTxN t 1) tNil)))) (tOst K f (tVar 0) (tVar 1))
def spInitN (K : PySem.W.Frag) (C : Addr) (f : Str) : Sp := fun vs H Q _ => ∃ (a : Addr) (x : V), vs = [.ref a, x] ∧ okV x ∧ OexC K C ∧ PySem.W.findIn K (.ref C) f = some none ∧ H a = some (exo a C none) ∧
  ∀ dx, H dx = none → dx ≠ a → Q .non (upd (upd H dx (exd dx [(f, x)])) a (exo a C (some dx)))
structure XInN (P : Program) (wd : World) (g : G) (base : Heap) (k : Nat) (c f : Str) : Prop where
  ex : ∃ (C fI : Addr) (fd : FuncData), g.mg c = some (.ref C) ∧ OexC g.K C ∧ PySem.W.findIn g.K (.ref C) "__init__" = some (some (.ref fI)) ∧ PySem.W.typeIn g.K (.ref fI) = some (.type "function") ∧ PySem.W.findIn g.K (.ref C) f = some none ∧
    FnOk P wd g.K g.mg base CX0 k fI fd ["self", f] (spInitN g.K C f) ∧ Binds g.K fd ["self", f] []
section
variable {X : Cx} {Wx : WX} {k : Nat}
structure ExT2 (g : G) (xB xC xD : Str) (k1 k2 : Str → Option Bool) : Prop where
  ex : ∃ B C C2 : Addr, g.mg xB = some (.ref B) ∧ g.mg xC = some (.ref C) ∧ g.mg xD = some (.ref C2) ∧ ∀ c b1 b2, k1 c = some b1 → k2 c = some b2 → ∃ D, g.mg c = some (.ref D) ∧ ExcC g.K D ∧ PySem.W.kitOne g.K (.ref D) (.ref C) = some b1 ∧ (b1 = false → PySem.W.kitOne g.K (.ref D) (.ref C2) = some b2) ∧ PySem.W.exmOne g.K (.ref D) (.ref B) = some true
end
end J
set_option Elab.async false
set_option linter.all false
set_option maxRecDepth 100000
set_option maxHeartbeats 1000000
namespace J
open PySem PySem.Spec PyProof.Rows L2 LamX
/-! ### a lambda is made -/
structure Lm where
  pa : Arguments
  bd : Expr
  sc : Scope
  df : Option Int
def LmO (f : Addr) (q : Str) (l : Lm) (cl : List (Str × Addr)) (dV : Value) (c' : Addr) : HO := .ext fun h => ∃ doc pm ctv : Value, h.get? f = some (PySem.W.kdv_obj "<lambda>" q l.pa (.expr l.bd) l.sc cl dV doc pm c' ctv)
def DfW (w : W) (df : Option Int) (dV : Value) : Prop := match df with
  | none => dV = .none
  | some k => ∃ t, dV = .ref t ∧ w.H t = some (.tup [.int k]) ∧ ¬ w.thA t
def DfIs (pa : Arguments) (env : PySem.Env) (df : Option Int) : Prop := match df with
  | none => defaultsOf pa env = ([], [])
  | some k => ∃ (j : Nat) (p : Pos), defaultsOf pa env = ([eval (.Constant (.int k) j p) env], [])
section
variable {X : Cx} {pins : List (Addr × Obj)} {σ : L2.St} {H : Hp} {s : Shared}
end
section
variable {X : Cx} {pins : List (Addr × Obj)} {σ : L2.St} {s : Shared} {w : W} {S : List D}
theorem DfW.mono {w w' : W} {df : Option Int} {dV : Value} (G : Good w) (x : Ext w w') (h : DfW w df dV) : DfW w' df dV := by
  cases df with
  | none => exact h
  | some k =>
    obtain ⟨t, e, h1, h2⟩ := h
    exact ⟨t, e, x.fz G h1 h2, x.th h1 h2⟩
structure LmAt (w : W) (q : Str) (l : Lm) (cl : List (Str × Addr)) (f c' : Addr) (dV : Value) : Prop where
  ho : w.H f = some (LmO f q l cl dV c')
  hf : ¬ w.thA f
  co : w.H c' = some (CodeO c' q)
  hc : ¬ w.thA c'
  df : DfW w l.df dV
theorem LmAt.mono {w w' : W} {q : Str} {l : Lm} {cl : List (Str × Addr)} {f c' : Addr} {dV : Value} (G : Good w) (x : Ext w w') (h : LmAt w q l cl f c' dV) : LmAt w' q l cl f c' dV :=
  ⟨x.fz G h.ho h.hf, x.th h.ho h.hf, x.fz G h.co h.hc, x.th h.co h.hc, h.df.mono G x⟩
end
end J
set_option Elab.async false
set_option linter.all false
set_option maxRecDepth 100000
set_option maxHeartbeats 1000000
namespace J
open PySem PySem.Spec PyProof.Rows L2 LamX
/-! ### the lambda's names, its arguments -/
structure LmS (sc : Scope) (N : List Str) (l : Lm) : Prop where
  kind : l.sc.kind = .function
  co : l.sc.isCoroutine = false
  gen : l.sc.isGenerator = false
  cell : ∀ y ∈ l.sc.names, y.2 ≠ .cell
  loc : ∀ y ∈ l.sc.names, y.2 = .local → y.1 ∉ N
  free : ∀ y ∈ l.sc.names, y.2 = .free → sc.names.lookup y.1 = some .cell ∨ sc.names.lookup y.1 = some .free
def lmSB (sc : Scope) (N : List Str) (l : Lm) : Bool :=
  decide (l.sc.kind = .function) && !l.sc.isCoroutine && !l.sc.isGenerator && l.sc.names.all fun y => !decide (y.2 = .cell) && (!decide (y.2 = .local) || !N.contains y.1) && (!decide (y.2 = .free) || decide (sc.names.lookup y.1 = some .cell) || decide (sc.names.lookup y.1 = some .free))
theorem LmS.has {X : Cx} {l : Lm} (L : LmS X.env.scope X.N l) (ok : X.Ok) : ∀ y ∈ l.sc.names, y.2 = .free → ∃ c, X.env.cells.lookup y.1 = some c := fun y hy e => (L.free y hy e).elim (fun k => ok.has _ (.inl k)) (fun k => ok.has _ (.inr k))
def BdIs (l : Lm) : Prop := match l.df with
  | none => ∀ (q : Str) (cl : List (Str × Addr)) (doc pm cv ctv : Value), bindArgs (PySem.W.kdv_fn "<lambda>" q l.pa (.expr l.bd) l.sc cl .none doc pm cv ctv) ⟨[], []⟩ = pure []
  | some _ => ∃ nm : Str, l.sc.names.lookup nm = some .local ∧ ∀ (q : Str) (cl : List (Str × Addr)) (dV doc pm cv ctv : Value), ∃ kk : Option (Array Value) → Sem (List (Str × Value)),
      bindArgs (PySem.W.kdv_fn "<lambda>" q l.pa (.expr l.bd) l.sc cl dV doc pm cv ctv) ⟨[], []⟩ = seqItems? dV >>= kk ∧ ∀ v, kk (some #[v]) = pure [(nm, v)]
def DfH (H : Hp) (df : Option Int) (dV : Value) : Prop := match df with
  | none => dV = .none
  | some k => ∃ t, dV = .ref t ∧ H t = some (.tup [.int k])
section
variable {X : Cx} {pins : List (Addr × Obj)} {σ : L2.St} {H HZ : Hp} {s s1 : Shared}
end
end J
set_option Elab.async false
set_option linter.all false
set_option maxRecDepth 100000
set_option maxHeartbeats 1000000
namespace J
open PySem PySem.Spec PyProof.Rows L2 LamX
/-! ### lists of truth values -/
section
variable {X : Cx}
end
/-! ### the exception that a suite holds, by its classes -/
structure ErrX (g : G) (xB : Str) (cs : List (Str × Option Str)) : Prop where
  ex : ∃ B : Addr, g.mg xB = some (.ref B) ∧ ∀ p ∈ cs, ∃ D, g.mg p.1 = some (.ref D) ∧ ExcC g.K D ∧ PySem.W.exmOne g.K (.ref D) (.ref B) = some true ∧ PySem.W.kitOne g.K (.ref D) (.type "ValueError") = some true ∧
    (∀ f, p.2 = some f → PySem.W.findIn g.K (.ref D) f = some none) ∧ ∀ q ∈ cs, ∃ C, g.mg q.1 = some (.ref C) ∧ PySem.W.kitOne g.K (.ref D) (.ref C) = some (decide (p.1 = q.1))
structure XcAt (g : G) (c : Str) (fo : Option Str) (cls : Value) (d : Option Addr) (L : List (Nat × HO)) (fv : Option D) (C : Addr) : Prop where
  cl : cls = .ref C
  mg : g.mg c = some (.ref C)
  dd : ∀ x, d = some x → ∃ fs, (x, HO.xd fs) ∈ L
  fl : ∀ y, fv = some y → ∃ f x fs z, fo = some f ∧ d = some x ∧ (x, HO.xd fs) ∈ L ∧ fs.lookup f = some z ∧ ∀ w, RD g w y z
section
variable {X : Cx} {Wx : WX} {a C : Addr} {oe : Obj} {d : Option Addr} {pn : List (Addr × Obj)} {L : List (Nat × HO)} {i : Nat} {n : Str} {pos p1 p2 p3 : Pos}
end
end J
set_option Elab.async false
set_option linter.all false
set_option maxRecDepth 100000
set_option maxHeartbeats 1000000
namespace J
open PySem PySem.Spec PyProof.Rows L2 LamX
abbrev tellCx (P : Program) (wd : World) (g : G) (base : Heap) (Ng : List Str) (x : Str) (st : Stmt) (ga : Addr) (cdv : Value) (A : Around) (outer : List PySem.Env) (s : Shared) (H : Hp) : Cx := cxOf C8.CX0 P wd g.K g.mg base Ng x (defScope st) ga cdv A outer s H C8.E0
def Tells (P : Program) (wd : World) (g : G) (base : Heap) (x : Str) (er : R D → R D) : Prop :=
  ∃ (ga : Addr) (st : Stmt) (fd : FuncData) (Ng : List Str) (a : Str), g.mg x = some (.ref ga) ∧ Fun g.K x x st ga fd ∧ FnScope Ng [a] (defScope st) ∧ Binds g.K fd [a] [] ∧ Ng[0]? = some a ∧ Vis (defScope st) a ∧ (a == ("__debug__" : Str)) = false ∧ (a == ("__classdict__" : Str)) = false ∧
    (∀ r, er r ≠ .bad → ∃ d S', er r = .ok d S') ∧
    ∀ (cdv : Value) (A : Around) (outer : List PySem.Env) (s : Shared) (w : W) (S : List D) (f : Addr) (r : R D) (Q : VK), Good w → RS g w S → Room 1 (A.deeper (envOfC x (defScope st) s.heap.objs.size ga cdv)) →
      (∀ (W : WX) (pn : List (Addr × Obj)) (xe : Value → Shared → Prop) (E : XK) (p1 p2 : Pos), Takes ((tellCx P wd g base Ng x st ga cdv A outer s w.H).tr pn xe) W →
        PE ((tellCx P wd g base Ng x st ga cdv A outer s w.H).tr pn xe) (.Call (.Name a p1) [] [] p2) (fun σZ HZ Q => (∀ cls d H', E cls d H' → W cls d σZ H') ∧ σZ[0]? = some (some (.ref f)) ∧ ∃ w1, w1.H = HZ ∧ Ext w w1 ∧ Good w1 ∧ RS g w1 S ∧ PR g (fun cls d _ H' => E cls d H') σZ w1 (RD g) Q r)) →
      (∀ d S', er r = .ok d S' → ∀ v w2, Ext w w2 → Good w2 → RD g w2 d v → RS g w2 S' → Q v w2.H) → er r ≠ .bad →
      ∃ t, PSs (tellCx P wd g base Ng x st ga cdv A outer s w.H).nox (defBody st) t ∧ t { nx := fun _ H' => Q .non H', rt := Q } (L2.start Ng [.ref f]) w.H
section
variable {X : Cx} {Wx : WX} {k : Nat}
end
/-! ### the def that tells -/
end J
set_option Elab.async false
set_option linter.all false
set_option maxRecDepth 100000
set_option maxHeartbeats 1000000
namespace J
open PySem PySem.Spec PyProof.Rows L2 LamX
section
variable {X : Cx} {Wx : WX} {a C : Addr} {oe : Obj} {d : Option Addr} {pn : List (Addr × Obj)} {L : List (Nat × HO)} {i : Nat} {n c xB : Str} {fo : Option Str} {fv : Option D} {cs : List (Str × Option Str)} {pos p1 p2 p3 : Pos}
theorem ErrX.at {g : G} (T : ErrX g xB cs) (hcs : (c, fo) ∈ cs) (hX : XcAt g c fo (.ref C) d L fv C) : ExcC g.K C ∧ PySem.W.kitOne g.K (.ref C) (.type "ValueError") = some true ∧ (∀ f, fo = some f → PySem.W.findIn g.K (.ref C) f = some none) ∧
    ∀ q ∈ cs, ∃ A, g.mg q.1 = some (.ref A) ∧ PySem.W.kitOne g.K (.ref C) (.ref A) = some (decide (c = q.1)) := by
  obtain ⟨B, _, h⟩ := T.ex
  obtain ⟨D, k1, k2, k3, k4, k5, k6⟩ := h (c, fo) hcs
  have e := hX.mg.symm.trans k1
  cases e
  exact ⟨k2, k4, k5, k6⟩
end
structure CtxS (X : Cx) : Prop where
  un : X.A.units + 16 < cLine - 100
theorem CtxS.u1 {X : Cx} (c : CtxS X) : X.A.units + 1 < cLine := by have := c.un; omega
theorem CtxS.u64 {X : Cx} (c : CtxS X) : X.A.units + 64 < cLine := by have := c.un; omega
theorem CtxS.u65 {X : Cx} (c : CtxS X) : X.A.units + 65 < cLine := by have := c.un; omega
theorem CtxS.of {X : Cx} {Wx : WX} {k : Nat} (c : Ctx X Wx k) {a : Addr} {pn : List (Addr × Obj)} : CtxS (X.suite a pn) := ⟨by have := c.hr.un; show X.A.units + 16 < cLine - 100; omega⟩
section
variable {P : Program} {wd : World} {K : PySem.W.Frag} {mg : Str → Option Value} {base : Heap} {x : Str} {st : Stmt} {f : Addr} {fd : FuncData} {N ps : List Str} {k np nn : Nat} {mb : MS}
end
section
variable {X : Cx} {Wx : WX} {k : Nat}
end
end J
set_option Elab.async false
set_option linter.all false
set_option maxRecDepth 100000
set_option maxHeartbeats 1000000
namespace J
open PySem PySem.Spec PyProof.Rows L2 LamX
/-! ### the classes of errors, asked of K by one look -/
def excB (K : PySem.W.Frag) (D : Addr) : Bool :=
  decide (PySem.W.findIn K (.ref D) "__getattribute__" = some (some (.builtin "BaseException.__getattribute__"))) && decide (PySem.W.findIn K (.ref D) "__getattr__" = some none) && decide (PySem.W.subIn K (.ref D) (.type "BaseException") = some true) && PySem.W.hasDictIn K D &&
  decide (PySem.W.findIn K (.ref D) "__class__" = some (some (.builtin "object.__class__"))) && decide (PySem.W.specialIn K (.builtin "object.__class__") "__get__" = some (some (.builtin "getset_descriptor.__get__"))) && decide (PySem.W.takesIn K (.builtin "object.__class__") = some true) && decide (PySem.W.mroIn K D (.type "object") = some true)
def errFact (K : PySem.W.Frag) (B : Addr) (l : List (Str × Option Str × Addr)) : Bool := l.all fun p => excB K p.2.2 && decide (PySem.W.exmOne K (.ref p.2.2) (.ref B) = some true) && decide (PySem.W.kitOne K (.ref p.2.2) (.type "ValueError") = some true) &&
  (match p.2.1 with | some f => decide (PySem.W.findIn K (.ref p.2.2) f = some none) | none => true) && l.all fun q => decide (PySem.W.kitOne K (.ref p.2.2) (.ref q.2.2) = some (decide (p.1 = q.1)))
/-! ### the law's promise where tables stand -/
def spTabs (K : PySem.W.Frag) (n : Nat) (Ps : List Addr) : Sp := fun vs H Q _ => ∃ (a : Addr) (ns : List Int), vs = [.ref a] ∧ SqL K H a (ns.map V.int) ∧ ns.length ≤ n ∧ (∀ P ∈ Ps, H P = some (.tbl #[])) ∧ ∀ H', Q (.bl true) H'
end J
set_option Elab.async false
set_option linter.all false
set_option maxRecDepth 100000
set_option maxHeartbeats 1000000
namespace J
open PySem PySem.Spec PyProof.Rows L2 LamX
section
variable {X : Cx} {Wx : WX} {pos : Pos}
end
end J
set_option Elab.async false
set_option linter.all false
set_option maxRecDepth 100000
set_option maxHeartbeats 1000000
namespace J
open PySem PySem.Spec PyProof.Rows L2 LamX
/-! ### {"a": x, ..} -/
def relP (g : G) (w : W) (kds : List (Ky × D)) (ps : List (V × V)) : Prop := ∃ vs : List V, ps = ((kds.map (·.1)).zip vs).map (fun kv => (kV kv.1, kv.2)) ∧ RDs g w (kds.map (·.2)) vs
structure DP (X : Cx) (Wx : WX) (pos : Pos) (keys : List (Option Expr)) (values : List Expr) (m : Env → List D → R (List (Ky × D))) : Prop where
  ex : ∃ trs, PPs X pos keys values trs ∧ ∀ σ H Q, (∃ w E S, At X.g w E σ H S ∧ PR X.g Wx σ w (relP X.g) Q (m E S)) → tPairs trs σ H Q
section
variable {X : Cx} {Wx : WX} {pos : Pos}
end
end J
set_option Elab.async false
set_option linter.all false
set_option maxRecDepth 100000
set_option maxHeartbeats 1000000
namespace J
open PySem PySem.Spec PyProof.Rows L2 LamX
/-! ### longer tuples by * -/
/-! ### lambdas in a list -/
def dfL (df : Option Int) (dV : Value) : List (Nat × HO) := match df, dV with
  | some k, .ref t => [(t, .tup [.int k])]
  | _, _ => []
def cloL (q : Str) (l : Lm) (cl : List (Str × Addr)) (f c' : Addr) (dV : Value) : List (Nat × HO) := (f, LmO f q l cl dV c') :: (c', CodeO c' q) :: dfL l.df dV
def IsClo (q : Str) (l : Lm) (cl : List (Str × Addr)) (d : D) : Prop := ∃ f c' dV, d = .kn f (cloL q l cl f c' dV) ∧ (l.df = none → dV = .none) ∧ (∀ k, l.df = some k → ∃ t, dV = .ref t)
section
variable {X : Cx} {Wx : WX} {k : Nat}
end
end J
set_option Elab.async false
set_option linter.all false
set_option maxRecDepth 100000
set_option maxHeartbeats 1000000
namespace J
open PySem PySem.Spec PyProof.Rows L2 LamX
def tLm (X : Cx) (nT : Nat) (xl : Str) (l : Lm) : TE := fun σ H Q => ∃ (w : W) (S : List D), w.H = H ∧ Good w ∧ RS X.g w S ∧ S[nT]? = some (.tab xl) ∧
  ∀ f c' dV w', Ext w w' → w'.rhA = w.rhA → Good w' → RS X.g w' S → LmAt w' (lamQ xl) l (cloFrom X.env.cells l.sc.names []) f c' dV → Q (.ref f) w'.H
section
variable {X : Cx} {Wx : WX} {k : Nat}
theorem PO_.mapE {g : G} {Wx : WX} {D : Ends} {w : W} {i : Nat} {o o' : O} (h : PO_ g Wx D w o') (e : o.mapE (fun E => E.set i none) = o') : PO_ g Wx D w o := by
  subst e
  have wk : ∀ {w' : W} {E : Env} {σ : L2.St}, RE g w' E σ → RE g w' (E.set i none) σ := fun {w' E σ} re => ⟨by simp [re.1], fun j d hd => by
    by_cases hj : j = i
    · subst hj
      by_cases hl : j < E.length
      · rw [List.getElem?_set_self hl] at hd; cases hd
      · rw [List.getElem?_eq_none (by simpa using hl)] at hd; cases hd
    · rw [List.getElem?_set_ne (Ne.symm hj)] at hd
      exact re.2 j d hd⟩
  cases o with
  | nx E S => exact fun σ' w' x G re rs => h σ' w' x G (wk re) rs
  | rt d S => exact h
  | bk E S => exact fun σ' w' x G re rs => h σ' w' x G (wk re) rs
  | ct E S => exact fun σ' w' x G re rs => h σ' w' x G (wk re) rs
  | exc c fs E S => exact fun cls dx σ' w' x G rx re rs => h cls dx σ' w' x G rx (wk re) rs
  | bad => exact h
structure Clos (X : Cx) (xl : Str) (ls : List Lm) (ds : List D) : Prop where
  len : ds.length = ls.length
  at_ : ∀ (j : Nat) d l, ds[j]? = some d → ls[j]? = some l → IsClo (lamQ xl) l (cloFrom X.env.cells l.sc.names []) d
end
end J
namespace J
open PySem PySem.Spec PyProof.Rows L2 LamX
end J
set_option Elab.async false
set_option linter.all false
set_option maxRecDepth 100000
set_option maxHeartbeats 1000000
namespace J
open PySem PySem.Spec PyProof.Rows L2 LamX
def optV : Option Int → V
  | some i => V.int i
  | none => V.non
theorem opts_vals {g : G} {w : W} : ∀ {ds : List D} {vs : List V} {os : List (Option Int)}, RDs g w ds vs → optsOf ds = some os → vs = os.map optV
  | [], _, _, r, e => by cases r; cases e; rfl
  | d :: ds, _, os, r, e => by
    obtain ⟨v, vs, rfl, r1, r2⟩ := r
    cases d with
    | int i =>
      cases q : optsOf ds with
      | none => simp [optsOf, q] at e
      | some cs =>
        simp only [optsOf, q, Option.map_some, Option.some.injEq] at e
        subst e
        cases r1
        rw [opts_vals r2 q]
        rfl
    | non =>
      cases q : optsOf ds with
      | none => simp [optsOf, q] at e
      | some cs =>
        simp only [optsOf, q, Option.map_some, Option.some.injEq] at e
        subst e
        cases r1
        rw [opts_vals r2 q]
        rfl
    | _ => exact absurd e (by simp [optsOf])
theorem flat_opts (os : List (Option Int)) : (os.map optV).all flatV = true := by
  rw [List.all_eq_true]
  intro v hv
  obtain ⟨b, _, rfl⟩ := List.mem_map.mp hv
  cases b <;> rfl
theorem count_eqO (k : Int) : ∀ {os : List (Option Int)} {us : List Value}, Vals (os.map optV) us → us.countP (eqU (.int k)) = os.count (some k)
  | [], us, r => by cases r; rfl
  | c :: os, us, r => by
    cases r with
    | cons r1 r2 =>
      rename_i u us
      rw [List.countP_cons, List.count_cons, count_eqO k r2, eqU_of r1 (by cases c <;> rfl)]
      cases c with
      | none => rfl
      | some i =>
        congr 1
section
variable {X : Cx}
theorem jm_countI : MtR X "list.count" (mtOf X.g mCountI) := by
  intro pins s σ H x xs v us Q I rx rs' ⟨Wx, σ', w, S, d, ds, hH, G, rs, r1, r2, p⟩
  subst hH
  unfold mCountI at p
  split at p
  · rename_i ys k
    obtain ⟨z, rfl, r3⟩ := r2.one'
    split at p
    · rename_i os e
      obtain ⟨a, vs, rfl, t, n, r4⟩ := r1
      have := opts_vals r4 e
      subst this
      cases r3
      cases rx
      obtain ⟨u, rfl, ru⟩ := rs'.one
      obtain ⟨its, rv, ⟨⟨cls, dd, data, sl⟩, n, ho, hc, hdn, hd⟩, hlen⟩ := I.list (SqL.of t)
      simp only at hc hd
      subst hc hd
      refine call_meets PySem.F.slot_list_count ⟨_, ho, rfl⟩ PySem.F.entry_list_count (PySem.F.args_list_count_2 _ _)
        (SeqAt.list_countAt a its.toArray n dd sl u (eqU (.int k))) ⟨ho, fun u' hu' => mem_eqAt ru rfl rv (flat_opts os) u' (by simpa using hu'), ?_⟩
      have ec : its.toArray.toList.countP (eqU (.int k)) = os.count (some k) := count_eqO k rv
      refine ⟨.int (os.count (some k) : Nat), w.H, I.tok _, ⟨s.toks, ?_⟩, putSame p G rs rfl⟩
      show Value.int ((its.toArray.toList.countP (eqU (.int k)) : Nat) : Int) s.toks = Value.int ((os.count (some k) : Nat) : Int) s.toks
      rw [ec]
    · exact p.elim
  · exact p.elim
theorem jm_insert : MtR X "list.insert" (mtOf X.g mInsert) := by
  intro pins s σ H x xs v us Q I rx rs' ⟨Wx, σ', w, S, d, ds, hH, G, rs, r1, r2, p⟩
  subst hH
  unfold mInsert at p
  split at p
  · rename_i n i y
    obtain ⟨z1, vs1, rfl, r3, r4⟩ := r2
    obtain ⟨z, rfl, r5⟩ := RDs.one' r4
    cases r3
    split at p
    · rename_i ys e
      split at p
      · rename_i hl
        obtain ⟨hl1, h0, h1⟩ := hl
        obtain ⟨a, vs, rfl, hp, t, r6⟩ := locUse rs r1 e
        exact mt_insert pins s σ _ _ _ v us Q I rx rs' ⟨a, vs, i, z, rfl, rfl, t, by rw [r6.length, ← sl_eq]; exact hl1, h0, h1, putLst (d := .non) (v := .non) G rs hp (((r6.take _).append (RDs.one r5)).append (r6.drop _)) rfl p⟩
      · exact p.elim
    · exact p.elim
  · exact p.elim
end
end J
set_option Elab.async false
set_option linter.all false
set_option maxRecDepth 100000
set_option maxHeartbeats 1000000
namespace J
open PySem PySem.Spec PyProof.Rows L2 LamX
/-! ### min(xs, key=lambda y: ..) -/
section
variable {X : Cx} {Wx : WX} {pos : Pos}
def BindsL (pa : Arguments) (bd : Expr) (sc : Scope) (y : Str) : Prop := ∀ (q : Str) (u doc pm cv ctv : Value), bindArgs (PySem.W.kdv_fn "<lambda>" q pa (.expr bd) sc [] .none doc pm cv ctv) ⟨[u], []⟩ = pure [(y, u)]
abbrev keyCx (X : Cx) (y : Str) (q : Str) (sc : Scope) (f c' : Addr) (A : Around) (outer : List PySem.Env) (s : Shared) (H : Hp) (E : XK) : Cx := cxOf (L2.CX X.prog X.w) X.prog X.w X.K X.mg X.base [y] q sc f (.ref c') A outer s H E
end
end J
set_option Elab.async false
set_option linter.all false
set_option maxRecDepth 100000
set_option maxHeartbeats 1000000
namespace J
open PySem PySem.Spec PyProof.Rows L2
/-! ### keys that are tuples of ints and of such tuples -/
mutual
theorem nk_hash : ∀ (d : D) (k : NestedKey), nkOf d = some k → ∀ w w', k.hash w = k.hash w'
  | .int i, k, h, w, w' => by simp [nkOf] at h; subst h; rfl
  | .tup ds, k, h, w, w' => by
    simp only [nkOf, Option.map_eq_some_iff] at h
    obtain ⟨ks, h1, rfl⟩ := h
    simp only [NestedKey.hash, nks_hash ds ks h1 w w']
  | .non, k, h, _, _ => by simp [nkOf] at h
  | .bl _, k, h, _, _ => by simp [nkOf] at h
  | .str _, k, h, _, _ => by simp [nkOf] at h
  | .ty _, k, h, _, _ => by simp [nkOf] at h
  | .lst _, k, h, _, _ => by simp [nkOf] at h
  | .rdl _, k, h, _, _ => by simp [nkOf] at h
  | .dct _ _, k, h, _, _ => by simp [nkOf] at h
  | .dcT _ _, k, h, _, _ => by simp [nkOf] at h
  | .tuk _, k, h, _, _ => by simp [nkOf] at h
  | .loc _, k, h, _, _ => by simp [nkOf] at h
  | .fn _, k, h, _, _ => by simp [nkOf] at h
  | .kn _ _, k, h, _, _ => by simp [nkOf] at h
  | .tab _, k, h, _, _ => by simp [nkOf] at h
theorem nks_hash : ∀ (ds : List D) (ks : List NestedKey), nkOfs ds = some ks → ∀ w w', NestedKey.hashes w ks = NestedKey.hashes w' ks
  | [], ks, h, w, w' => by simp [nkOfs] at h; subst h; rfl
  | d :: ds, ks, h, w, w' => by
    simp only [nkOfs] at h
    split at h
    · rename_i k r h1 h2
      cases h
      simp only [NestedKey.hashes, nk_hash d k h1 w w', nks_hash ds r h2 w w']
    · cases h
end
mutual
def NkAt (H : Hp) : NestedKey → V → Prop
  | .num i, v => v = .int i
  | .tup ks, v => ∃ a vs, v = .ref a ∧ H a = some (.tup vs) ∧ NksAt H ks vs
  | .none, _ => False
  | .text _, _ => False
def NksAt (H : Hp) : List NestedKey → List V → Prop
  | [], vs => vs = []
  | k :: ks, vs => ∃ v r, vs = v :: r ∧ NkAt H k v ∧ NksAt H ks r
end
mutual
theorem nk_at {g : G} {w : W} : ∀ (d : D) (v : V) (k : NestedKey), RD g w d v → nkOf d = some k → NkAt w.H k v
  | .int i, v, k, r, h => by
    simp [nkOf] at h
    subst h
    exact r
  | .tup ds, v, k, r, h => by
    simp only [nkOf, Option.map_eq_some_iff] at h
    obtain ⟨ks, h1, rfl⟩ := h
    obtain ⟨a, vs, e, t, rs⟩ := r
    exact ⟨a, vs, e, t.1, nks_at ds vs ks rs h1⟩
  | .non, _, k, _, h => by simp [nkOf] at h
  | .bl _, _, k, _, h => by simp [nkOf] at h
  | .str _, _, k, _, h => by simp [nkOf] at h
  | .ty _, _, k, _, h => by simp [nkOf] at h
  | .lst _, _, k, _, h => by simp [nkOf] at h
  | .rdl _, _, k, _, h => by simp [nkOf] at h
  | .dct _ _, _, k, _, h => by simp [nkOf] at h
  | .dcT _ _, _, k, _, h => by simp [nkOf] at h
  | .tuk _, _, k, _, h => by simp [nkOf] at h
  | .loc _, _, k, _, h => by simp [nkOf] at h
  | .fn _, _, k, _, h => by simp [nkOf] at h
  | .kn _ _, _, k, _, h => by simp [nkOf] at h
  | .tab _, _, k, _, h => by simp [nkOf] at h
theorem nks_at {g : G} {w : W} : ∀ (ds : List D) (vs : List V) (ks : List NestedKey), RDs g w ds vs → nkOfs ds = some ks → NksAt w.H ks vs
  | [], vs, ks, r, h => by
    simp [nkOfs] at h
    subst h
    exact r
  | d :: ds, vs, ks, r, h => by
    obtain ⟨v, rr, e, r1, r2⟩ := r
    simp only [nkOfs] at h
    split at h
    · rename_i k q h1 h2
      cases h
      exact ⟨v, rr, e, nk_at d v k r1 h1, nks_at ds rr q r2 h2⟩
    · cases h
end
mutual
theorem nk_is {P : Program} {wd : World} {H : Hp} {h : Heap} (ok : HOk P wd H h) : ∀ (k : NestedKey) (v : V) (u : Value), NkAt H k v → RelV v u → NestedIs h k u
  | .num i, v, u, a, r => by
    obtain rfl : v = V.int i := a
    obtain ⟨t, rfl⟩ := r
    exact .int _ _
  | .tup ks, v, u, a, r => by
    obtain ⟨p, vs, rfl, hp, at_⟩ := a
    obtain rfl : u = Value.ref p := r
    obtain ⟨_, its, rv, o, h1, h2, n, h3⟩ := (show ObjOk P wd H h p (.tup vs) from ok p _ hp)
    exact .tup h1 h2 h3 (nks_is ok ks vs its at_ rv)
  | .none, _, _, a, _ => a.elim
  | .text _, _, _, a, _ => a.elim
theorem nks_is {P : Program} {wd : World} {H : Hp} {h : Heap} (ok : HOk P wd H h) : ∀ (ks : List NestedKey) (vs : List V) (us : List Value), NksAt H ks vs → Vals vs us → NestedAll h ks us
  | [], vs, us, a, r => by
    obtain rfl : vs = [] := a
    cases r
    exact .nil
  | k :: ks, vs, us, a, r => by
    obtain ⟨v, q, rfl, a1, a2⟩ := a
    cases r with
    | cons r1 r2 => exact .cons (nk_is ok k v _ a1 r1) (nks_is ok ks q _ a2 r2)
end
/-! ### kinds of dicts: what an empty one is, what putting makes of it -/
structure DKind where
  emp : Addr → HO
  put : Addr → V → V → Hp → (Hp → Prop) → Prop
structure DKind.Ok (K : DKind) : Prop where
  ntup : ∀ a xs, K.emp a ≠ .tup xs
  new : ∀ (P : Program) (w : World) (H : Hp) (h : Heap), sysModules < h.objs.size → ObjOk P w H (h.push { cls := .type "dict", data := .dict #[] }) h.objs.size (K.emp h.objs.size)
  set : ∀ (X : Cx), X.A.units + 9 < cLine → ∀ (pins : List (Addr × Obj)) (σ : L2.St) (H : Hp) (s : Shared) (E : Value → Shared → Prop) (Dd : Addr) (y z : V) (u r : Value) (R : Unit → Shared → Prop) (Q : Hp → Prop), Inv X pins σ H s → RelV y u → RelV z r → K.put Dd y z H Q →
    (∀ H' s', Inv X pins σ H' s' → Q H' → R () s') → wpAny (model X.prog X.w) X.A (dictSet Dd u r) R E s
def DkT : DKind := ⟨fun _ => .dT [], fun a y z H Q => ∃ kvs k b, y = .ref b ∧ H a = some (.dT kvs) ∧ H b = some (.tup (k.map kV)) ∧ kvs.length < sizeLine ∧ Q (upd H a (.dT (L2.putK kvs k z)))⟩
theorem dkT_ok : DkT.Ok where
  ntup := fun a xs z => nomatch z
  new := fun P w H h hb => dt_empty h hb
  set := fun X hu pins σ H s E Dd y z u r R Q I ry rz ⟨kvs, k, b, ey, e, eb, hl, q⟩ fin => by
    subst ey
    cases (show u = Value.ref b from ry)
    obtain ⟨z0, hd, xs, rel, dd⟩ := dt_of I.hok e
    have hz : xs.length ≤ sizeLine := by rw [← Paired.length rel]; exact z0
    have hl' : (L2.putK kvs k z).length ≤ sizeLine := by have := length_putK kvs k z; omega
    refine wpAny_dictSet_heap (hsz := hz) (knd := tupleKind (mixKind X.prog X.w)) (by show X.A.units < cLine; omega) (key_of I.hok eb) dd fun h' dd' hs => ?_
    obtain ⟨qo, es, ep, hq, h2, h3, h4, _, h5⟩ := dd'
    refine fin _ _ (d_write (ob := .dT (L2.putK kvs k z)) I (by rw [e]; exact True.intro) hs ⟨qo, hq⟩ ⟨hl', hd, _, (rel.put k eb rz).keeps fun c ys ec => ?_, qo, es, ep, hq, h2, h3, h4, h5⟩) q
    rw [upd_ne (ne_of ec e (fun z => nomatch z))]
    exact ec
def DkN : DKind := ⟨fun a => DicN a [], fun a y z H Q => ∃ xs k b, y = .ref b ∧ H a = some (DicN a xs) ∧ (∀ x ∈ xs, NkAt H x.1 (.ref x.2.1)) ∧ NkAt H k (.ref b) ∧ (k.depth ≤ 8 ∧ ∀ w w', k.hash w = k.hash w') ∧ xs.length < sizeLine ∧ ∀ r, RelV z r → Q (upd H a (DicN a (storedH xs k b r)))⟩
theorem stored_len {K : Type} [DecidableEq K] (xs : List (K × Addr × Value)) (k : K) (b : Addr) (r : Value) : (storedH xs k b r).length ≤ xs.length + 1 := by
  unfold storedH
  split <;> simp
theorem stored_fst {K : Type} [DecidableEq K] {xs : List (K × Addr × Value)} {k : K} {b : Addr} {r : Value} {x : K × Addr × Value} (h : x ∈ storedH xs k b r) : x.1 = k ∨ ∃ y ∈ xs, x.1 = y.1 := by
  unfold storedH at h
  split at h
  · obtain ⟨y, hy, rfl⟩ := List.mem_map.mp h
    refine .inr ⟨y, hy, ?_⟩
    unfold PySem.putAt
    split <;> rfl
  · rcases List.mem_append.mp h with h | h
    · exact .inr ⟨x, h, rfl⟩
    · rw [List.mem_singleton.mp h]
      exact .inl rfl
section
variable {P : Program} {wd : World} {H : Hp} {h : Heap} {a : Addr} {xs : List (NestedKey × Addr × Value)}
theorem dicN_of (ok : HOk P wd H h) (e : H a = some (DicN a xs)) (hk : ∀ x ∈ xs, NkAt H x.1 (.ref x.2.1)) : xs.length ≤ sizeLine ∧ (a == sysModules) = false ∧ (∀ x ∈ xs, x.1.depth ≤ 8 ∧ ∀ w w', x.1.hash w = x.1.hash w') ∧ h.DictOfH (nestedKind P wd) a xs := by
  obtain ⟨⟨⟨h1, h2, h3, h4⟩, o, es, ep, k1, k2, k3, k4⟩, _⟩ := ok a _ e
  exact ⟨h1, h2, h3, o, es, ep, k1, k2, k3, k4 P wd, fun x hx => ⟨nk_is ok x.1 _ _ (hk x hx) rfl, (h3 x hx).1⟩, h4⟩
theorem dicN_new {h' : Heap} (hl : xs.length ≤ sizeLine) (hd : (a == sysModules) = false) (hx : ∀ x ∈ xs, x.1.depth ≤ 8 ∧ ∀ w w', x.1.hash w = x.1.hash w') (dd : h'.DictOfH (nestedKind P wd) a xs) : ObjOk P wd H h' a (DicN a xs) := by
  obtain ⟨o, es, ep, k1, k2, k3, k4, _, k5⟩ := dd
  refine ⟨⟨⟨hl, hd, hx, k5⟩, o, es, ep, k1, k2, k3, fun P' w' => ?_⟩, ⟨o, k1⟩, fun h1 h2 ⟨p, o, es, ep, k1, r⟩ st => ⟨p, o, es, ep, st o k1, r⟩⟩
  rw [k4]
  refine List.map_congr_left fun x m => ?_
  show DictEntry.mk (x.1.hash wd) _ _ = DictEntry.mk (x.1.hash w') _ _
  rw [(hx x m).2 wd w']
end
theorem dkN_ok : DkN.Ok where
  ntup := fun a xs z => nomatch z
  new := fun P w H h hb => dicN_new (P := P) (wd := w) (by simp) (beq_eq_false_iff_ne.mpr (Ne.symm (Nat.ne_of_lt hb))) (fun x hx => by simp at hx) (Heap.DictOfH.new h)
  set := fun X hu pins σ H s E Dd y z u r R Q I ry rz ⟨xs, k, b, ey, e, hk, kb, kd, hl, q⟩ fin => by
    subst ey
    cases (show u = Value.ref b from ry)
    obtain ⟨h1, h2, h3, dd⟩ := dicN_of I.hok e hk
    refine wpAny_dictSet_heap (hsz := h1) (knd := nestedKind X.prog X.w) (by show X.A.units + 8 < cLine; omega) ⟨nk_is I.hok k _ _ kb rfl, kd.1⟩ dd fun h' dd' hs => ?_
    obtain ⟨qo, hq⟩ : ∃ q, h'.get? Dd = some q := by obtain ⟨qo, es, ep, hq, _⟩ := id dd'; exact ⟨qo, hq⟩
    refine fin _ _ (d_write I (by rw [e]; exact True.intro) hs ⟨qo, hq⟩ (dicN_new (P := X.prog) (wd := X.w) ?_ h2 (fun x hx => ?_) dd')) (q r rz)
    · have := stored_len xs k b r
      omega
    · rcases stored_fst hx with z | ⟨y, hy, z⟩
      · rw [z]; exact kd
      · rw [z]; exact h3 y hy
end J
set_option Elab.async false
set_option linter.all false
set_option maxRecDepth 100000
set_option maxHeartbeats 1000000
namespace J
open PySem PySem.Spec PyProof.Rows L2
/-! ### dict comprehensions of any kind of dict -/
def tDcG (K : DKind) (wi : TI) (g : TG) (tk tv : TE) (vs : List Nat) : TE := fun σ H Q => wi σ H fun J H1 => ∀ Dd, H1 Dd = none → ∃ W : Nat → Nat → Hp → Prop, (∃ m, W 0 m (upd H1 Dd (K.emp Dd))) ∧
  ∀ i m H, W i m H → (J.stop i H ∧ Q (.ref Dd) H) ∨ (J.go i H ∧ ∃ Nx : Hp → Prop, (∀ H', Nx H' → ∃ m', m' < m ∧ W (i + 1) m' H') ∧
    ∀ x H', J.yld i H x H' → g x (L2.wipe σ vs) H' fun σ2 H2 => L2.wipe σ2 vs = L2.wipe σ vs ∧ tk σ2 H2 fun y H4 => tv σ2 H4 fun z H5 => K.put Dd y z H5 Nx)
section
variable {X : Cx} {K : DKind} {kx vx tg iter : Expr} {scope : Scope} {own : List (Str × Nat)} {pos : Pos} {wi : TI} {g : TG} {tk tv : TE}
def InBlk (X : Cx) (scope : Scope) (φ : Cx → Prop) : Prop := ∀ (s : Shared) (H : Hp) (C : Addr) (cl : List (Str × Addr)) (fp : List Addr), φ (X.blk s H scope (compEnvC scope cl C X.env) fp)
theorem dcg_core (Kok : K.Ok) (hu : X.A.units + 9 < cLine) {pins : List (Addr × Obj)} {s : Shared} {σ : L2.St} {H : Hp} {Q : VK} {pos' : Pos} {use : Option (Value → Sem Unit)} {Qf : Value → Shared → Prop} (I : Inv X pins σ H s) (hc : X.calm = true) (hN : X.N.Nodup) (hi : PI X tg iter wi) (ok : BlkOk X.N X.env.scope scope own)
    (hg : InBlk X scope fun Y => PG Y tg g) (hk : InBlk X scope fun Y => PE Y kx tk) (hv : InBlk X scope fun Y => PE Y vx tv) (hs : ∀ x, foldedSetIterable iter X.env x = pure x) (h : tDcG K wi g tk tv (own.map (·.2)) σ H Q)
    (fin : ∀ (Dd C : Addr) (s' : Shared) (m : Str → Option Value) (H' : Hp), Inv X pins σ H' s' → Q (.ref Dd) H' → s'.heap.Ns C m → FpOk X pins H' C → compPost (model X.prog X.w) X.A X.xe use Qf (.ref Dd) C (.ok .next) s') :
    wpAny (model X.prog X.w) X.A (comprehension (.DictComp kx vx [⟨tg, iter, [], 0⟩] scope pos) scope X.env pos' newDict false (eval iter X.env) use) Qf X.xe s := by
  have fr : ∀ y ∈ scope.names, y.2 = .free → ∃ c, X.env.cells.lookup y.1 = some c := fun y hy e => (ok.free y hy e).elim (fun k => I.ok.has _ (.inl k)) (fun k => I.ok.has _ (.inr k))
  refine wpAny_comprehension_free (use := use) rfl hs (closure_ok fr) ok.kind (fun y hy e => by rw [ok.uniq y hy, e]) (thn (hi.run pins s σ H _ I h) fun xv t1 a1 => thn a1 fun itv t2 a2 => ?_)
  obtain ⟨it, fp, tn, J, H2, rfl, I2, T, at0, fpk, q⟩ := a2
  refine wpAny_newObj_type (newEnv_comp ?_)
  generalize eD : t2.heap.objs.size = Dd
  have nD : H2 Dd = none := I2.hok.fresh (Nat.le_of_eq eD)
  obtain ⟨W, ⟨m0, w0⟩, step⟩ := q Dd nD
  generalize e3 : ({ t2 with heap := t2.heap.push { cls := .type "dict", data := .dict #[] } } : Shared) = t3
  have hp3 : t3.heap = t2.heap.push { cls := .type "dict", data := .dict #[] } := by rw [← e3]
  have kp3 : ∀ b o, t2.heap.get? b = some o → t3.heap.get? b = some o := fun b o e => by rw [hp3]; exact Heap.get?_push_of_some _ e
  generalize eH : upd H2 Dd (K.emp Dd) = H3 at w0
  have I3 : Inv X pins σ H3 t3 := by
    rw [← e3, ← eH]
    exact I2.laid (t' := t2.toks) (fun b o e => Heap.get?_push_of_some _ e) (Nat.le_of_eq eD) (by rw [← eD]; exact Kok.new X.prog X.w _ t2.heap I2.big)
  have f3 : ∀ b ∈ fp, FpOk X pins H3 b ∧ b < t3.heap.objs.size := fun b hb => by
    obtain ⟨o, e, _⟩ := T.obj _ _ at0 b hb
    have lt := Heap.lt_size e
    refine ⟨⟨?_, (fpk b hb).2⟩, by rw [hp3, Heap.size_push]; exact Nat.lt_succ_of_lt lt⟩
    rw [← eH, upd_ne (by rw [← eD]; exact Nat.ne_of_lt lt)]
    exact (fpk b hb).1
  have I4 := block_start I3 ok hN f3
  have pg := hg t3 H3 t3.heap.objs.size (cellsFrom (t3.heap.objs.size + 1) scope.names (cloFrom X.env.cells scope.names [])) fp
  have pk := hk t3 H3 t3.heap.objs.size (cellsFrom (t3.heap.objs.size + 1) scope.names (cloFrom X.env.cells scope.names [])) fp
  have pv := hv t3 H3 t3.heap.objs.size (cellsFrom (t3.heap.objs.size + 1) scope.names (cloFrom X.env.cells scope.names [])) fp
  show codeAny _ _ (.compStart (.DictComp kx vx [⟨tg, iter, [], 0⟩] scope pos) 0 (.ref it) (.ref Dd) (compEnvC scope (cellsFrom (t3.heap.objs.size + 1) scope.names (cloFrom X.env.cells scope.names [])) t3.heap.objs.size X.env)) (compPost (model X.prog X.w) X.A X.xe use Qf (.ref Dd) t3.heap.objs.size) { t3 with heap := pushCells (t3.heap.push { cls := .type "dict", data := .dict #[] }) scope.names }
  generalize hce : compEnvC scope (cellsFrom (t3.heap.objs.size + 1) scope.names (cloFrom X.env.cells scope.names [])) t3.heap.objs.size X.env = ce at I4 pg pk pv ⊢
  have eC : ce.locals = t3.heap.objs.size := by subst hce; rfl
  generalize e4 : ({ t3 with heap := pushCells (t3.heap.push { cls := .type "dict", data := .dict #[] }) scope.names } : Shared) = t4 at I4 ⊢
  have at4 : tn 0 t4.heap := T.keep _ _ _ (T.keep _ _ _ at0 fun b _ o e => kp3 b o e) fun b _ o e => by rw [← e4]; exact pushCells_keeps _ _ _ _ (Heap.get?_push_of_some _ e)
  have own0 : ∀ {σ' : L2.St} {H' : Hp} {s' : Shared}, Inv (X.blk t3 H3 scope ce fp) [] σ' H' s' → (∀ b ∈ fp, H' b = none) → ∀ b ∈ fp, FpOk (X.blk t3 H3 scope ce fp) [] H' b := fun {σ' H' s'} I' hn b hb =>
    ⟨hn b hb, (I'.ok.exf b hb).1, I'.ok.exfs b hb, .inl hb, fun x c e => (I'.ok.exf b hb).2 x c e, fun p hp => (List.not_mem_nil (show p ∈ ([] : List (Addr × Obj)) from hp)).elim⟩
  have loop : codeAny (model X.prog X.w) X.A (.compLoop (.DictComp kx vx [⟨tg, iter, [], 0⟩] scope pos) 0 (.ref it) (.ref Dd) ce) (compPost (model X.prog X.w) X.A X.xe use Qf (.ref Dd) t3.heap.objs.size) t4 := by
    refine compLoop_anyD (fun n s' => ∃ i H', Inv (X.blk t3 H3 scope ce fp) [] (L2.wipe σ (own.map (·.2))) H' s' ∧ tn i s'.heap ∧ (∀ b ∈ fp, H' b = none) ∧ W i n H') ?_ m0 ⟨0, H3, I4, at4, fun b hb => (f3 b hb).1.1, w0⟩
    rintro n t5 ⟨i, H5, I5, at5, n5, w5⟩
    rcases step i n H5 w5 with ⟨stop, qe⟩ | ⟨go, Nx, less, turn⟩
    · refine thnF (T.done (X.blk t3 H3 scope ce fp) rfl rfl rfl hc i [] t5 _ H5 (fun _ _ => False) I5 (own0 I5 n5) at5 stop) fun r t6 ⟨er, I6⟩ => ?_
      subst er
      have I7 : Inv X pins σ H5 t6 := I3.call' (ch := fp) I6.os I6.base I6.hok I6.bare fun b hb => ⟨(f3 b hb).1.2.2.2.1, (f3 b hb).1.2.1, (f3 b hb).1.2.2.2.2.1, (f3 b hb).1.2.2.2.2.2⟩
      have nC : H5 t3.heap.objs.size = none := by rw [← eC]; exact I6.free
      obtain ⟨m, hn, _⟩ := I6.loc
      have hn' : t6.heap.Ns t3.heap.objs.size m := by rw [← eC]; exact hn
      exact fin Dd _ t6 m H5 I7 qe hn' (I3.fpOk (Nat.le_refl _) nC)
    · refine thnF (T.item (X.blk t3 H3 scope ce fp) rfl rfl rfl hc i [] t5 _ H5 (fun _ _ => False) I5 (own0 I5 n5) at5 go) fun r t6 ⟨u, er, a6⟩ => ?_
      subst er
      refine thnF a6 fun _ t7 ⟨x, H7, I7, r7, y7, at7, n7⟩ => ?_
      refine thnF (pg.run _ t7 _ H7 x u _ (I7.pinned (own0 I7 n7) (T.obj _ _ at7)) r7 (turn x H7 y7)) fun _ t8 ⟨σ8, H8, I8, ew, q8⟩ => ?_
      simp only [List.forIn_nil]
      refine wpAny_pure ?_
      simp only [if_true]
      refine thnF (pk.run _ t8 σ8 H8 _ I8 q8) fun z1 t9 ⟨yk, H9, I9, r9, q9⟩ => ?_
      refine thnF (pv.run _ t9 σ8 H9 _ I9 q9) fun z2 t10 ⟨yv, H10, I10, r10, q10⟩ => ?_
      refine Kok.set (X.blk t3 H3 scope ce fp) hu _ σ8 H10 t10 _ Dd yk yv z1 z2 _ Nx I10 r9 r10 q10 fun H' s' I' nx => ?_
      obtain ⟨m', lm, w'⟩ := less H' nx
      have pin : ∀ b ∈ fp, ∀ o, t7.heap.get? b = some o → s'.heap.get? b = some o ∧ H' b = none := fun b hb o e =>
        have z := I'.pin (b, o) (List.mem_append_right _ (List.mem_append_right _ (mem_pinsAt hb e)))
        ⟨z.1, z.2.1⟩
      refine ⟨m', lm, i + 1, H', (I'.unpinned (pins := [])).weak (by rw [← ew, L2.wipe_length]) (fun j v e => ?_), T.keep _ _ _ at7 fun b hb o e => (pin b hb o e).1, fun b hb => ?_, w'⟩
      · rw [← ew] at e
        exact (L2.wipe_some e).1
      · obtain ⟨o, e, _⟩ := T.obj _ _ at7 b hb
        exact (pin b hb o e).2
  exact codeAny_compStart_dict loop (T.self X.A 0 _ _ _ at4 loop)
theorem pe_dcG (Kok : K.Ok) (hu : X.A.units + 9 < cLine) (hc : X.calm = true) (hN : X.N.Nodup) (hi : PI X tg iter wi) (ok : BlkOk X.N X.env.scope scope own)
    (hg : InBlk X scope fun Y => PG Y tg g) (hk : InBlk X scope fun Y => PE Y kx tk) (hv : InBlk X scope fun Y => PE Y vx tv) (hs : ∀ x, foldedSetIterable iter X.env x = pure x := by intro _; rfl) :
    PE X (.DictComp kx vx [⟨tg, iter, [], 0⟩] scope pos) (tDcG K wi g tk tv (own.map (·.2))) := by
  refine ⟨fun pins s σ H Q I h => ?_⟩
  rw [arm_eval_DictComp]
  refine dcg_core Kok hu I hc hN hi ok hg hk hv hs h fun Dd C s' m H' I' q hn f => ⟨m, hn, fun h'' sb => ?_⟩
  obtain ⟨f0, f1, _, f3, f4, f5⟩ := f
  exact ⟨.ref Dd, H', I'.turned (t' := s'.toks) (fun b o hb e => (sb.2 b hb).trans e) f0 f1 f3 f4 f5, rfl, q⟩
theorem ps_setDcG (Kok : K.Ok) (hu : X.A.units + 9 < cLine) {i : Nat} {y : Str} {py spos : Pos} (hc : X.calm = true) (hN : X.N.Nodup) (hy : X.N[i]? = some y) (hyl : X.env.scope.names.lookup y = some .local)
    (hsw : swapsWith (.DictComp kx vx [⟨tg, iter, [], 0⟩] scope pos) (some (.Name y py)) spos.line X.env = pure true) (hi : PI X tg iter wi) (ok : BlkOk X.N X.env.scope scope own)
    (hg : InBlk X scope fun Y => PG Y tg g) (hk : InBlk X scope fun Y => PE Y kx tk) (hv : InBlk X scope fun Y => PE Y vx tv) (hs : ∀ x, foldedSetIterable iter X.env x = pure x := by intro _; rfl) :
    PS X (.Assign [.Name y py] (.DictComp kx vx [⟨tg, iter, [], 0⟩] scope pos) spos) (tAsg (tDcG K wi g tk tv (own.map (·.2))) (gName i)) := by
  refine ⟨fun pins s σ H D I h => ?_⟩
  rw [exec_Assign_Name_used _ _ _ _ hsw]
  refine wpAny_bind (wpAny_standAt (wpAny_bind ?_))
  show wpAny _ X.A (do let _ ← comprehension (.DictComp kx vx [⟨tg, iter, [], 0⟩] scope pos) scope X.env (firstIterPos [⟨tg, iter, [], 0⟩] pos) newDict false (eval iter X.env) (some (assign (.Name y py) X.env))) _ _ s
  have h : tDcG K wi g tk tv (own.map (·.2)) σ H (fun x H1 => gName i x σ H1 D.nx) := h
  refine wpAny_bind (thn (dcg_core (Qf := fun _ s' => SP X pins D .next s') Kok hu I hc hN hi ok hg hk hv hs h fun L C s' m H' I' q hn f => ?_) fun _ s' hq => wpAny_pure (wpAny_pure hq))
  show wpAny _ _ (assign (.Name y py) X.env (.ref L)) _ _ _
  refine wpAny_assign_Name (store_ok2 (v := V.ref L) I' hN hy (.inl hyl) rfl (fun s2 I2 ⟨a, sb, ha⟩ => ?_) (.inr hyl))
  obtain ⟨f0, f1, f2, f3, f4, f5⟩ := f
  have haC : C ≠ a := by
    rcases ha with z | z
    · rw [z]; exact f1
    · exact fun e => f4 y a z e.symm
  refine ⟨m, hn.sameBut sb haC, fun h3 sb3 => ?_⟩
  exact ⟨_, H', I2.turned (t' := s2.toks) (fun b o hb e => (sb3.2 b hb).trans e) f0 f1 f3 f4 f5, q⟩
end
/-! ### its reading -/
structure InsOk (K : DKind) (ins : D → D → D → Option D) (o0 : D) : Prop where
  put : ∀ (g : G) (w : W) (o : D) (a : Addr) (k v : D) (kv vv : V) (o' : D) (Q : Hp → Prop), Good w → w.thA a → RO g w o a → RD g w k kv → RD g w v vv → ins o k v = some o' → (∀ ob, (∀ xs, ob ≠ .tup xs) → RO g { w with H := upd w.H a ob } o' a → Q (upd w.H a ob)) → K.put a kv vv w.H Q
  emp : ∀ (g : G) (w : W) (a : Addr), w.H a = some (K.emp a) → RO g w o0 a
theorem insT_ok : InsOk DkT insT emT where
  emp := fun g w a h => ⟨[], h, rfl, rfl⟩
  put := fun g w o a k v kv vv o' Q G ha ro rk rv e q => by
    unfold insT at e
    split at e
    · rename_i ks ds
      split at e
      · rename_i kq ek
        split at e
        · rename_i hl
          cases e
          obtain ⟨vs, t, l, r⟩ := (show ∃ vs, w.H a = some (.dT (ks.zip vs)) ∧ ks.length = vs.length ∧ RDs g w ds vs from ro)
          obtain ⟨kb, rfl, tb, _⟩ := kyT_of rk ek
          refine ⟨ks.zip vs, kq, kb, rfl, t, tb, by rw [List.length_zip, ← l, Nat.min_self, ← sl_eq]; exact hl, ?_⟩
          have ea : ((ks.zip vs).any fun kv => decide (kv.1 = kq)) = (ks.any fun q => decide (q = kq)) := by rw [valV_any, valV_someG kq l]
          unfold L2.putK
          rw [ea]
          cases hk : (ks.any fun q => decide (q = kq)) with
          | true =>
            rw [if_pos rfl, zip_map (ks := ks) kq vv l]
            refine q _ (fun xs z => nomatch z) ?_
            unfold putTk
            rw [hk, if_pos rfl]
            exact ⟨_, upd_same, by simp [l], RDs.weakW (weak_upd ha) (fun _ _ h => h) _ _ (RDs.zipSet kq rv r)⟩
          | false =>
            rw [if_neg Bool.false_ne_true]
            have ez : ks.zip vs ++ [(kq, vv)] = (ks ++ [kq]).zip (vs ++ [vv]) := by rw [List.zip_append l]; rfl
            rw [ez]
            refine q _ (fun xs z => nomatch z) ?_
            unfold putTk
            rw [hk, if_neg Bool.false_ne_true]
            exact ⟨_, upd_same, by simp [l], RDs.weakW (weak_upd ha) (fun _ _ h => h) _ _ (r.append (RDs.one rv))⟩
        · cases e
      · cases e
    · cases e
theorem keyN_nk {d : D} {k : NestedKey} (h : keyN d = some k) : nkOf d = some k ∧ k.depth ≤ 8 ∧ ∃ ds, d = .tup ds := by
  unfold keyN at h
  split at h
  · rename_i ds
    split at h
    · rename_i k' e
      split at h
      · rename_i hd
        cases h
        exact ⟨e, hd, ds, rfl⟩
      · cases h
    · cases h
  · cases h
theorem atKey_in {ks : List D} {xs : List (NestedKey × Addr × Value)} (k : NestedKey) (h : ks.map nkOf = xs.map (fun x => some x.1)) : (atKey xs k).isSome = inNk ks k := by
  induction xs generalizing ks with
  | nil =>
    cases ks with
    | nil => rfl
    | cons a b => simp at h
  | cons x xs ih =>
    cases ks with
    | nil => simp at h
    | cons d ks =>
      simp only [List.map_cons, List.cons.injEq] at h
      have := ih h.2
      unfold atKey inNk at this ⊢
      rw [Option.isSome_map] at this ⊢
      rw [List.any_cons, ← this, h.1, List.find?_cons]
      by_cases e : x.1 = k
      · simp [e]
      · simp [e]
theorem vals_set {g : G} {w : W} {dv : D} {vv : V} {r : Value} (k : NestedKey) (rv : RelV vv r) : ∀ {ks ds : List D} {xs : List (NestedKey × Addr × Value)} {vs : List V}, ks.map nkOf = xs.map (fun x => some x.1) → RD g w dv vv → RDs g w ds vs → Vals vs (xs.map (·.2.2)) →
    ∃ us, RDs g w (ks.zipWith (fun q d => if nkOf q = some k then dv else d) ds) us ∧ Vals us ((xs.map (PySem.putAt k r)).map (·.2.2))
  | [], ds, xs, vs, h, rd, r1, r2 => by
    cases xs with
    | nil => exact ⟨[], rfl, .nil⟩
    | cons a b => simp at h
  | q :: ks, ds, xs, vs, h, rd, r1, r2 => by
    cases xs with
    | nil => simp at h
    | cons x xs =>
      simp only [List.map_cons, List.cons.injEq] at h
      cases ds with
      | nil =>
        cases r1
        cases r2
      | cons d ds =>
        obtain ⟨u, us0, rfl, k1, k2⟩ := r1
        cases r2 with
        | cons ra rb =>
          obtain ⟨us, z1, z2⟩ := vals_set k rv h.2 rd k2 rb
          rw [List.zipWith_cons_cons, h.1]
          simp only [List.map_cons, Option.some.injEq]
          by_cases e : x.1 = k
          · refine ⟨vv :: us, ⟨_, _, rfl, by rw [if_pos e]; exact rd, z1⟩, .cons ?_ z2⟩
            unfold PySem.putAt
            rw [if_pos e]
            exact rv
          · refine ⟨u :: us, ⟨_, _, rfl, by rw [if_neg e]; exact k1, z1⟩, .cons ?_ z2⟩
            unfold PySem.putAt
            rw [if_neg e]
            exact ra
theorem putAt_fst (k : NestedKey) (r : Value) (x : NestedKey × Addr × Value) : (PySem.putAt k r x).1 = x.1 ∧ (PySem.putAt k r x).2.1 = x.2.1 := by
  unfold PySem.putAt
  split <;> exact ⟨rfl, rfl⟩
theorem ron_at {g : G} {w : W} {ks : List D} {xs : List (NestedKey × Addr × Value)} (h : ks.map nkOf = xs.map (fun x => some x.1)) (r : RDs g w ks (xs.map fun x => V.ref x.2.1)) : ∀ x ∈ xs, NkAt w.H x.1 (.ref x.2.1) := fun x hx => by
  obtain ⟨j, hj⟩ := List.mem_iff_getElem?.mp hx
  obtain ⟨d, h1, h2⟩ := r.back (i := j) (v := .ref x.2.1) (by rw [List.getElem?_map, hj]; rfl)
  refine nk_at d _ _ h2 ?_
  have := congrArg (·[j]?) h
  simp only [List.getElem?_map, h1, hj, Option.map_some, Option.some.injEq] at this
  exact this
theorem insN_ok : InsOk DkN insN emN where
  emp := fun g w a h => ⟨[], [], [], [], rfl, h, rfl, rfl, rfl, .nil⟩
  put := fun g w o a k v kv vv o' Q G ha ro rk rv e q => by
    unfold insN at e
    split at e
    · rename_i ks ds
      split at e
      · rename_i kq ek
        split at e
        · rename_i hl
          cases e
          obtain ⟨ks', es, xs, vs, e1, t, hk, r1, r2, r3⟩ := (show RON g w [.tup ks, .tup ds] a from ro)
          cases e1
          obtain ⟨n1, n2, dd, rfl⟩ := keyN_nk ek
          obtain ⟨b, vs', rfl, tb, _⟩ := id rk
          have lx : ks.length = xs.length := by have := congrArg List.length hk; simpa using this
          refine ⟨xs, kq, b, rfl, t, ron_at hk r1, nk_at _ _ _ rk n1, ⟨n2, nk_hash _ _ n1⟩, by rw [← lx, ← sl_eq]; exact hl, fun r rr => q _ (fun xs z => nomatch z) ?_⟩
          have kw : Weak w { w with H := upd w.H a (DicN a (storedH xs kq b r)) } := weak_upd ha
          unfold putNk
          rw [← atKey_in kq hk]
          cases hs : atKey xs kq with
          | some p =>
            rw [storedH_old hs] at kw ⊢
            obtain ⟨us, z1, z2⟩ := vals_set kq rr hk rv r2 r3
            refine ⟨ks, _, xs.map (PySem.putAt kq r), us, rfl, upd_same, ?_, ?_, RDs.weakW kw (fun _ _ h => h) _ _ z1, z2⟩
            · rw [hk, List.map_map]
              refine List.map_congr_left fun x _ => ?_
              show _ = some (PySem.putAt kq r x).1
              rw [(putAt_fst kq r x).1]
            · rw [List.map_map, (List.map_congr_left (fun x _ => by show V.ref (PySem.putAt kq r x).2.1 = V.ref x.2.1; rw [(putAt_fst kq r x).2]) : List.map ((fun x => V.ref x.2.1) ∘ PySem.putAt kq r) xs = xs.map fun x => V.ref x.2.1)]
              exact RDs.weakW kw (fun _ _ h => h) _ _ r1
          | none =>
            rw [storedH_new hs] at kw ⊢
            refine ⟨ks ++ [.tup dd], ds ++ [v], xs ++ [(kq, b, r)], vs ++ [vv], rfl, upd_same, by simp [hk, n1], ?_, RDs.weakW kw (fun _ _ h => h) _ _ (r2.append (RDs.one rv)), ?_⟩
            · rw [List.map_append]
              exact RDs.weakW kw (fun _ _ h => h) _ _ (r1.append (RDs.one rk))
            · rw [List.map_append]
              exact r3.append (.cons rr .nil)
        · cases e
      · cases e
    · cases e
end J
set_option Elab.async false
set_option linter.all false
set_option maxRecDepth 100000
set_option maxHeartbeats 1000000
namespace J
open PySem PySem.Spec PyProof.Rows L2
section
variable {X : Cx} {Wx : WX} {pos : Pos} {K : DKind} {ins : D → D → D → Option D} {o0 : D}
theorem dcXUse (IO : InsOk K ins o0) (Kok : K.Ok) {own : List Nat} {mi : MI} {t : Tg} {mk mv : ME} (hsl : ∀ i, i ∈ t.slots → i ∈ own) :
    ∀ (σ : L2.St) H Q, TEof X.g Wx (eDcX ins o0 own t mi mk mv) σ H Q → tDcG K (TIof X.g Wx mi) (TGof X.g t) (TEof X.g W0 mk) (TEof X.g W0 mv) own σ H Q := fun σ H Q ⟨w, E, S, a, p⟩ => by
  refine ⟨w, E, S, a, ?_⟩
  unfold eDcX at p
  cases hmi : mi E S with
  | bad => rw [hmi] at p; exact p.elim
  | exc c fs S1 => rw [hmi] at p; exact p
  | ok src S1 =>
    rw [hmi] at p
    intro J0 w1 x1 G1 it rs1 Dd hD
    have p1 := PR.at p x1
    have re1 := a.env.mono a.good x1
    have nD : Dd ∉ w1.rhA := fun z => G1.al Dd (G1.sub Dd z) hD
    refine ⟨fun i k H => ∃ w2 o S2, w2.H = H ∧ Good w2 ∧ RS X.g w2 S2 ∧ Ext w1 w2 ∧ Dd ∉ w2.rhA ∧ S1.length ≤ S2.length ∧ w2.thA Dd ∧ RO X.g w2 o Dd ∧ i + k = src.len ∧ PR X.g Wx σ w1 (RD X.g) Q (dcGoX ins src t mk mv (wipeE E own) S1.length k i o S2),
      ⟨src.len, w1.hide Dd (K.emp Dd), o0, S1, rfl, hide_good G1 hD (Kok.ntup Dd), rs1.keep G1 (hide_ext hD) rfl (fun b hb => upd_ne fun e => nD (by rw [← e]; exact hb)), hide_ext hD, nD, Nat.le_refl _, .inr rfl, IO.emp _ _ _ upd_same, by omega, p1⟩, ?_⟩
    rintro i k H ⟨w2, o, S2, rfl, G2, rs2, x2, hr2, hl2, hth2, ro2, hik, p2⟩
    obtain ⟨ob2, hD2⟩ : ∃ ob, w2.H Dd = some ob := by
      cases h : w2.H Dd with
      | none => exact absurd h ro2.there
      | some ob => exact ⟨ob, rfl⟩
    cases k with
    | zero =>
      simp only [dcGoX] at p2
      split at p2
      · rename_i al
        have hi : i = src.len := by omega
        subst hi
        refine .inl ⟨it.stop w2 S2 x2 rs2 al, ?_⟩
        have k : Weak w2 ⟨w2.thA, w2.rhA ++ [Dd], w2.H⟩ := weak_take rfl fun _ z => z
        have kr : ∀ (n : Nat) a, w2.rhA[n]? = some a → (w2.rhA ++ [Dd])[n]? = some a := fun n a h => by
          rw [List.getElem?_append_left (List.getElem?_eq_some_iff.mp h).1]; exact h
        obtain ⟨τ, eτ, fτ⟩ := x2.rho
        refine p2 (.ref Dd) ⟨w2.thA, w2.rhA ++ [Dd], w2.H⟩ ⟨⟨τ ++ [Dd], by show w2.rhA ++ [Dd] = _; rw [eτ, List.append_assoc], fun a h => (List.mem_append.mp h).elim (fτ a) fun h => by rw [List.mem_singleton.mp h]; exact hD⟩, x2.th1, x2.th2, x2.kp, x2.al⟩
          ⟨?_, fun a h => ?_, G2.al, G2.nt⟩ ⟨Dd, rfl, by show (w2.rhA ++ [Dd])[S2.length]? = some Dd; rw [rs2.1]; simp⟩ ⟨by show (S2 ++ [_]).length = (w2.rhA ++ [Dd]).length; simp [rs2.1], fun n d e => ?_⟩
        · show (w2.rhA ++ [Dd]).Nodup
          rw [List.nodup_append]
          refine ⟨G2.nd, by simp, fun a ha b hb e => ?_⟩
          rw [List.mem_singleton.mp hb] at e
          exact hr2 (by rw [← e]; exact ha)
        · rcases List.mem_append.mp h with h | h
          · exact G2.sub a h
          · rw [List.mem_singleton.mp h]; exact hth2
        · by_cases hn : n < S2.length
          · rw [List.getElem?_append_left hn] at e
            obtain ⟨a, h1, h2⟩ := rs2.2 n d e
            exact ⟨a, kr n a h1, h2.weakW k kr rfl⟩
          · have hl : n = S2.length := by
              have := (List.getElem?_eq_some_iff.mp e).1
              simp at this
              omega
            subst hl
            simp at e
            subst e
            exact ⟨Dd, by show (w2.rhA ++ [Dd])[S2.length]? = some Dd; rw [rs2.1]; simp, ro2.weakW k kr rfl⟩
      · exact p2.elim
    | succ k =>
      simp only [dcGoX] at p2
      split at p2
      · rename_i al
        split at p2
        · exact p2.elim
        · rename_i d hd
          split at p2
          · exact p2.elim
          · rename_i E1 hE
            have hlt : i < src.len := by omega
            refine .inr ⟨it.go i w2 S2 d x2 rs2 al hd hlt, fun H' => ∃ w2 o S2, w2.H = H' ∧ Good w2 ∧ RS X.g w2 S2 ∧ Ext w1 w2 ∧ Dd ∉ w2.rhA ∧ S1.length ≤ S2.length ∧ w2.thA Dd ∧ RO X.g w2 o Dd ∧ (i + 1) + k = src.len ∧ PR X.g Wx σ w1 (RD X.g) Q (dcGoX ins src t mk mv (wipeE E own) S1.length k (i + 1) o S2), fun H' hN => ⟨k, Nat.lt_succ_self k, hN⟩, fun x H' hy => ?_⟩
            obtain ⟨w3, rfl, x3, G3, hr3, hthA3, r3, rs3⟩ := it.yld i w2 S2 d x H' x2 G2 rs2 al hd hlt hy
            have nD3 : Dd ∉ w3.rhA := by rw [hr3]; exact hr2
            have hth3 : w3.thA Dd := x3.th1 Dd hth2
            have hD3 : w3.H Dd = some ob2 := x3.kpT hD2 hr2 hth2
            have ro3 : RO X.g w3 o Dd := ro2.mono G2 x3 (by rw [hD3, hD2])
            have rw3 : RE X.g w3 (wipeE E own) (L2.wipe σ own) := ((re1.mono G1 x2).mono G2 x3).wipe own
            refine ⟨w3, wipeE E own, S2, d, E1, ⟨rfl, G3, rw3, rs3⟩, r3, hE, fun σ' re hk hl => ⟨wipe_eq hsl hk hl, w3, E1, S2, ⟨rfl, G3, re, rs3⟩, ?_⟩⟩
            have rho : ∀ (w5 : W), Ext w3 w5 → Dd ∉ w5.rhA := fun w5 x5 z => by
              obtain ⟨τ, e5, f5⟩ := x5.rho
              rw [e5] at z
              rcases List.mem_append.mp z with z | z
              · exact nD3 z
              · have := f5 Dd z
                rw [hD3] at this
                cases this
            cases he : mk E1 S2 with
            | bad => rw [he] at p2; exact p2.elim
            | exc c fs S3 => rw [he] at p2; exact p2.elim
            | ok kd S3 =>
              rw [he] at p2
              simp only at p2
              intro y w5 x5 G5 rz rs5
              refine ⟨w5, E1, S3, ⟨rfl, G5, re.mono G3 x5, rs5⟩, ?_⟩
              cases hv : mv E1 S3 with
              | bad => rw [hv] at p2; exact p2.elim
              | exc c fs S3 => rw [hv] at p2; exact p2.elim
              | ok vd S5 =>
                rw [hv] at p2
                simp only at p2
                split at p2
                · rename_i l4
                  split at p2
                  · rename_i o' eo
                    intro u w6 x6 G6 ru rs6
                    have x36 := x5.trans x6
                    have hr6 := rho w6 x36
                    have hth6 : w6.thA Dd := x36.th1 Dd hth3
                    have hD6 : w6.H Dd = some ob2 := x36.kpT hD3 nD3 hth3
                    have ro6 : RO X.g w6 o Dd := ro3.mono G3 x36 (by rw [hD6, hD3])
                    have x16 := x2.trans (x3.trans x36)
                    refine IO.put X.g w6 o Dd kd vd y u o' _ G6 hth6 ro6 (rz.mono G5 x6) ru eo fun ob hno ro' => ?_
                    have kw : Weak w6 { w6 with H := upd w6.H Dd ob } := weak_upd hth6
                    refine ⟨{ w6 with H := upd w6.H Dd ob }, o', S5, rfl, put_upd G6 hno, rs6.weakW kw rfl (fun b hb => upd_ne fun e => hr6 (by rw [← e]; exact hb)), ⟨x16.rho, x16.th1, x16.th2, fun b o hb nb => ?_, fun b hb => ?_⟩, hr6, l4, hth6, ro', by omega, p2⟩
                    · have hne : b ≠ Dd := fun e => by rw [e, hD] at hb; cases hb
                      rcases x16.kp b o hb nb with q | ⟨nt, od, kvs, eo, q⟩
                      · exact .inl ((upd_ne hne).trans q)
                      · exact .inr ⟨nt, od, kvs, eo, (upd_ne hne).trans q⟩
                    · show upd w6.H Dd _ b ≠ none
                      by_cases e : b = Dd
                      · rw [e, upd_same]; simp
                      · rw [upd_ne e]; exact x16.al b hb
                  · exact p2.elim
                · exact p2.elim
      · exact p2.elim
theorem de_dcX (IO : InsOk K ins o0) (Kok : K.Ok) {kx vx tg iter : Expr} {scope : Scope} {own : List (Str × Nat)} {mi : MI} {t : Tg} {mk mv : ME} (hsl : ∀ i, i ∈ t.slots → i ∈ own.map (·.2)) (hu : X.A.units + 64 < cLine) (hc : X.calm = true) (hN : X.N.Nodup) (hi : PI X tg iter (TIof X.g Wx mi)) (ok : BlkOk X.N X.env.scope scope own)
    (hg : InBlk X scope fun Y => PG Y tg (TGof X.g t)) (hk : InBlk X scope fun Y => PE Y kx (TEof X.g W0 mk)) (hv : InBlk X scope fun Y => PE Y vx (TEof X.g W0 mv)) (hs : ∀ x, foldedSetIterable iter X.env x = pure x := by intro _; rfl) :
    PE X (.DictComp kx vx [⟨tg, iter, [], 0⟩] scope pos) (TEof X.g Wx (eDcX ins o0 (own.map (·.2)) t mi mk mv)) :=
  peImp (pe_dcG Kok (by omega) hc hN hi ok hg hk hv hs) (dcXUse IO Kok hsl)
theorem ds_setDcX (IO : InsOk K ins o0) (Kok : K.Ok) {kx vx tg iter : Expr} {scope : Scope} {own : List (Str × Nat)} {mi : MI} {t : Tg} {mk mv : ME} {i : Nat} {y : Str} {py spos : Pos} (hsl : ∀ i, i ∈ t.slots → i ∈ own.map (·.2)) (hu : X.A.units + 64 < cLine) (hc : X.calm = true) (hN : X.N.Nodup)
    (hy : X.N[i]? = some y) (hyl : X.env.scope.names.lookup y = some .local) (hsw : swapsWith (.DictComp kx vx [⟨tg, iter, [], 0⟩] scope pos) (some (.Name y py)) spos.line X.env = pure true) (hi : PI X tg iter (TIof X.g Wx mi)) (ok : BlkOk X.N X.env.scope scope own)
    (hg : InBlk X scope fun Y => PG Y tg (TGof X.g t)) (hk : InBlk X scope fun Y => PE Y kx (TEof X.g W0 mk)) (hv : InBlk X scope fun Y => PE Y vx (TEof X.g W0 mv)) (hs : ∀ x, foldedSetIterable iter X.env x = pure x := by intro _; rfl) :
    PS X (.Assign [.Name y py] (.DictComp kx vx [⟨tg, iter, [], 0⟩] scope pos) spos) (TSof X.g Wx (sSet i (eDcX ins o0 (own.map (·.2)) t mi mk mv))) :=
  ds_setT (ps_setDcG Kok (by omega) hc hN hy hyl hsw hi ok hg hk hv hs) (dcXUse IO Kok hsl)
end
/-! {}, d[k] = v, k in d, list(d): nested keys -/
section
variable {X : Cx} {Wx : WX} {pos : Pos}
theorem de_dctNL : PE X (.Dict [] [] pos) (TEof X.g Wx eDctNL) := by
  refine ⟨fun pins s σ H Q I ⟨w, E, S, a, p⟩ => wpAny_Dict_empty ?_⟩
  have hq : H s.heap.objs.size = none := I.hok.fresh (Nat.le_refl _)
  have I2 : Inv X pins σ (upd H s.heap.objs.size (DicN s.heap.objs.size [])) { s with heap := s.heap.push { cls := .type "dict", data := .dict #[] }, toks := s.toks } :=
    I.laid (fun b o q => Heap.get?_push_of_some _ q) (Nat.le_refl _) (dkN_ok.new X.prog X.w _ s.heap I.big)
  refine ⟨.ref s.heap.objs.size, _, I2, rfl, ?_⟩
  rw [← a.hp] at hq ⊢
  exact p (.ref s.heap.objs.size) (w.add s.heap.objs.size (DicN s.heap.objs.size [])) (add_ext hq) (add_good a.good hq) ⟨_, rfl, by rw [a.sto.1]; simp⟩ (add_store a.good hq a.sto (insN_ok.emp X.g _ _ upd_same))
def setOfN (g : G) : V → V → V → Hp → (Hp → Prop) → Prop := fun o i v H Q => ∃ w S n y k d y', w.H = H ∧ Good w ∧ RS g w S ∧ RD g w (.loc n) o ∧ RD g w k i ∧ RD g w d v ∧ S[n]? = some y ∧ insN y k d = some y' ∧ ∀ w', Ext w w' → Good w' → RS g w' (S.set n y') → Q w'.H
theorem jp_putN (hu : X.A.units + 64 < cLine) : PSet X (setOfN X.g) := by
  intro pins s σ H o i v ov iv u Q I ro ri rv ⟨w, S, n, y, k, d, y', hH, G, rs, r1, r2, r3, hy, hi, q⟩
  subst hH
  obtain ⟨a, rfl, ha⟩ := r1
  cases (show ov = Value.ref a from ro)
  have roy := rs.obj ha hy
  have mem := List.mem_of_getElem? ha
  have hth := G.sub a mem
  obtain ⟨xs, kk, b, ey, e, hk, kb, kd, hl, fin⟩ := insN_ok.put X.g w y a k d i v y' (fun H' => ∃ ob, H' = upd w.H a ob ∧ (∀ xs, ob ≠ .tup xs) ∧ RO X.g { w with H := upd w.H a ob } y' a) G hth roy r2 r3 hi fun ob hn r => ⟨ob, rfl, hn, r⟩
  subst ey
  cases (show iv = Value.ref b from ri)
  obtain ⟨h1, h2, h3, dd⟩ := dicN_of I.hok e hk
  refine wpAny_setItem_heap (hsz := h1) (knd := nestedKind X.prog X.w) (by show X.A.in1.units + 8 < cLine; simp only [Around.in1_units]; omega) ⟨nk_is I.hok kk _ _ kb rfl, kd.1⟩ dd fun h' dd' hs => ?_
  obtain ⟨qo, hq⟩ : ∃ q, h'.get? a = some q := by obtain ⟨qo, es, ep, hq, _⟩ := id dd'; exact ⟨qo, hq⟩
  obtain ⟨ob, eo, hn, r⟩ := fin u rv
  refine ⟨_, d_write I (by rw [e]; exact True.intro) hs ⟨qo, hq⟩ (dicN_new (P := X.prog) (wd := X.w) ?_ h2 (fun x hx => ?_) dd'), ?_⟩
  · have := stored_len xs kk b u
    omega
  · rcases stored_fst hx with z | ⟨y, hy, z⟩
    · rw [z]; exact kd
    · rw [z]; exact h3 y hy
  · rw [eo]
    exact q { w with H := upd w.H a ob } (upd_ext mem) (put_upd G hn) (upd_store G rs ha r)
theorem ds_putN {o i e : Expr} {mo mi me : ME} {pos' : Pos} (ho : PE X o (TEof X.g Wx mo)) (hi : PE X i (TEof X.g Wx mi)) (he : PE X e (TEof X.g Wx me)) (hu : X.A.units + 64 < cLine)
    (ha : ∀ v, assign (.Subscript o i pos') X.env v = (do
      let ov ← holding [v] (eval o X.env)
      let iv ← holding [v, ov] (eval i X.env)
      standAt pos'
      holding [v, ov, iv] (setItem ov iv v)
      release [v, ov, iv] []) := by intro _; rfl)
    (hs : swapsWithSole [.Subscript o i pos'] e pos.line X.env = pure false := by rfl) (hw : swappedStores [.Subscript o i pos'] e X.env = pure none := by rfl)
    (h1 : (assignEach [.Subscript o i pos'] X.env).map (·.2) = [assign (.Subscript o i pos') X.env] := by rfl) : PS X (.Assign [.Subscript o i pos'] e pos) (TSof X.g Wx (sPutN mo mi me)) := by
  refine psImp (ps_asg he (pg_sub ho hi (jp_putN hu) ha) hs hw h1) fun D σ H ⟨w, E, S, a, p⟩ => ⟨w, E, S, a, PR.imp (PO_.bind a.good a.env p) fun v H1 ⟨w1, d, S1, a1, x1, r1, p1⟩ => ?_⟩
  refine ⟨w1, E, S1, a1, PR.imp (PO_.bind a1.good a1.env p1) fun x H2 ⟨w2, d2, S2, a2, x2, r2, p2⟩ => ?_⟩
  refine ⟨w2, E, S2, a2, PR.imp (PO_.bind a2.good a2.env p2) fun k H3 hh => ?_⟩
  obtain ⟨w3, d3, S3, a3, x3, r3, p3⟩ := hh
  cases d2 with
  | loc n =>
    simp only at p3
    cases hy : S3[n]? with
    | none => rw [hy] at p3; exact p3.elim
    | some y =>
      rw [hy] at p3
      simp only at p3
      cases hy' : insN y d3 d with
      | none => rw [hy'] at p3; exact p3.elim
      | some y' =>
        rw [hy'] at p3
        exact ⟨w3, S3, n, y, d3, d, y', a3.hp, a3.good, a3.sto, RD.mono a2.good x3 _ _ r2, r3, RD.mono a1.good (x2.trans x3) _ _ r1, hy, hy', fun w' x' G' rs' => p3 σ w' x' G' (a3.env.mono a3.good x') rs'⟩
  | _ => exact p3.elim
theorem jo_inN (hu : X.A.units + 64 < cLine) : OpR X (compareOp .In) (opOf X.g oInN) := by
  intro pins s σ H x y v u Q I rx ry ⟨Wx, σ', w, S, d, e, hH, G, rs, r1, r2, p⟩
  subst hH
  unfold oInN at p
  split at p
  · rename_i n q eq
    split at p
    · rename_i ks ds hS
      obtain ⟨a, rfl, ha⟩ := r2
      obtain ⟨ks', es, xs, vs, e1, t, hk, k1, k2, k3⟩ := (show RON X.g w [.tup ks, .tup ds] a from rs.obj ha hS)
      cases e1
      obtain ⟨n1, n2, dd, rfl⟩ := keyN_nk eq
      obtain ⟨b, vs', rfl, tb, _⟩ := id r1
      cases (show u = Value.ref a from ry)
      cases (show v = Value.ref b from rx)
      obtain ⟨h1, h2, h3, dict⟩ := dicN_of I.hok t (ron_at hk k1)
      refine wpAny_in_heap (knd := nestedKind X.prog X.w) (by show X.A.in1.units + 8 < cLine; simp only [Around.in1_units]; omega) ⟨nk_is I.hok q _ _ (nk_at _ _ _ r1 n1) rfl, n2⟩ h2 dict ?_
      rw [atKey_in q hk]
      exact ⟨.bl _, _, I.tok _, rfl, putSame p G rs rfl⟩
    · exact p.elim
  · exact p.elim
theorem jc_listN (hc : X.calm = true) : CallR X (.type "list") (argOf X.g bListN) := by
  intro pins s σ H xs us Q I r ⟨Wx, σ', w, S, ds, hH, G, rs, r1, p⟩
  subst hH
  unfold bListN at p
  split at p
  · obtain ⟨v, rfl, r2⟩ := r1.one'
    split at p
    · rename_i n ks es hS
      obtain ⟨a, rfl, ha⟩ := r2
      obtain ⟨ks', es', xs, vs, e1, t, hk, k1, k2, k3⟩ := (show RON X.g w [.tup ks, .tup es] a from rs.obj ha hS)
      cases e1
      obtain ⟨u, rfl, rx⟩ := r.one
      cases (show u = Value.ref a from rx)
      obtain ⟨h1, h2, h3, o, ees, ep, ho, hx, hdt, he, _, _⟩ := dicN_of I.hok t (ron_at hk k1)
      have l1 : ees.size = xs.length := size_of_entries he
      refine PySem.W.kdl_call (kdl_raw h2 hx hdt) (I.ok.hd hc) ho (by omega) fun hp tk ac cc kp e it => ?_
      have la : ac.toList.length = xs.length := it.1.trans l1
      have ea : ac.toList = (xs.map fun x => x.2.1).map Value.ref := by
        rw [List.map_map]
        refine List.ext_getElem? fun m => ?_
        rw [List.getElem?_map]
        cases em : ac.toList[m]? with
        | none =>
          have z := List.getElem?_eq_none_iff.mp em
          rw [List.getElem?_eq_none (by omega)]
          rfl
        | some v =>
          obtain ⟨en, i1, i2⟩ := it.2 m v (by rw [← Array.getElem?_toList]; exact em)
          have qe := entry_at he m
          rw [i1] at qe
          cases ex : xs[m]? with
          | none =>
            rw [ex] at qe
            exact nomatch (show some en = none from qe)
          | some x =>
            rw [ex] at qe
            have z : en = entryOfKey (nestedKind X.prog X.w) x := Option.some.inj qe
            rw [i2, z]
            rfl
      have rv : Vals ((xs.map fun x => x.2.1).map V.ref) ac.toList := by rw [ea]; exact vals_refs _
      have er : (xs.map fun x => x.2.1).map V.ref = xs.map fun x => V.ref x.2.1 := by rw [List.map_map]; rfl
      refine ⟨.ref s.heap.objs.size, _, I.laid (t' := tk) (o := .lst ((xs.map fun x => x.2.1).map V.ref)) kp (Nat.le_refl _) ⟨by rw [List.length_map, List.length_map]; exact h1, ac.toList, cc, rv, by rw [Array.toArray_toList]; exact e⟩, rfl, ?_⟩
      exact new_lst p G rs (by rw [er]; exact k1) _ (I.hok.fresh (Nat.le_refl _))
    · exact p.elim
  · exact p.elim
end
end J
set_option Elab.async false
set_option linter.all false
set_option maxRecDepth 100000
set_option maxHeartbeats 1000000
namespace J
open PySem PySem.Spec PyProof.Rows L2
theorem inv_thaw {X : Cx} {pins : List (Addr × Obj)} {σ0 σ : L2.St} {H0 H : Hp} {s0 s : Shared} {a : Addr} {o : Obj} {kvs : List (List Key × V)} (I0 : Inv X pins σ0 H0 s0) (h0 : H0 a = some (.dT kvs)) (I : Inv X pins σ H s) (h : H a = some (.frz o (.dT kvs))) : Inv X pins σ (upd H a (.dT kvs)) s := by
  have ne : ∀ b, H b = none → b ≠ a := fun b n e => by rw [e, h] at n; cases n
  have nt : ∀ b xs, H b = some (.tup xs) → b ≠ a := fun b xs n e => by rw [e, h] at n; cases n
  refine ⟨I.ok, I.os, I.bare, ⟨I.base.keep, I.base.slot, fun b ob q n hx => ?_, I.base.there, fun b xs q => ?_, fun b ob u q => ?_, fun b ps q => ?_⟩, I.loc, I.cell, ?_, fun x c e => ?_, fun p hp => ?_, fun b u q => ?_, I.len⟩
  · have z := I.base.free b ob q n hx
    rw [upd_ne (ne b z)]; exact z
  · have z := I.base.tups b xs q
    rw [upd_ne (nt b xs z)]; exact z
  · have z := I.base.frzs b ob u q
    have z0 := I0.base.frzs b ob u q
    rw [upd_ne (fun e => by rw [e, h0] at z0; cases z0)]; exact z
  · obtain ⟨more, z⟩ := I.base.tbls b ps q
    exact ⟨more, by rw [upd_ne (fun e => by rw [e, h] at z; cases z)]; exact z⟩
  · rw [upd_ne (ne _ I.free)]; exact I.free
  · rw [upd_ne (ne _ (I.freeC x c e))]; exact I.freeC x c e
  · obtain ⟨p1, p2, p3⟩ := I.pin p hp
    exact ⟨p1, by rw [upd_ne (ne _ p2)]; exact p2, p3⟩
  · have st : ∀ {b : Addr} {u : HO}, ObjOk X.prog X.w H s.heap b u → ObjOk X.prog X.w (upd H a (.dT kvs)) s.heap b u := fun {b u} q => q.stay (fun _ _ _ q => q) (fun c q => by rw [upd_ne (fun e => by rw [e, h] at q; cases q)]; exact q) fun c xs q => by rw [upd_ne (nt c xs q)]; exact q
    by_cases e : b = a
    · rw [e, upd_same] at q
      cases q
      rw [e]
      exact st (show ObjOk X.prog X.w H s.heap a (.dT kvs) from (I.hok a _ h).2)
    · rw [upd_ne e] at q
      exact st (I.hok b u q)
mutual
theorem RD.plnW {g : G} {w w' : W} (k : ∀ b xs, w.H b = some (.tup xs) → ¬ w.thA b → w'.H b = some (.tup xs) ∧ ¬ w'.thA b) : ∀ (d : D) (v : V), d.pln = true → RD g w d v → RD g w' d v
  | .non, _, _, h => h
  | .bl _, _, _, h => h
  | .int _, _, _, h => h
  | .str _, _, _, h => h
  | .tup ds, v, f, h => by
    obtain ⟨a, vs, e, t, r⟩ := h
    exact ⟨a, vs, e, k a vs t.1 t.2, RDs.plnW k ds vs f r⟩
  | .ty _, _, f, _ => by cases f
  | .lst _, _, f, _ => by cases f
  | .rdl _, _, f, _ => by cases f
  | .dct _ _, _, f, _ => by cases f
  | .dcT _ _, _, f, _ => by cases f
  | .tuk _, _, f, _ => by cases f
  | .loc _, _, f, _ => by cases f
  | .fn _, _, f, _ => by cases f
  | .kn _ _, _, f, _ => by cases f
  | .tab _, _, f, _ => by cases f
theorem RDs.plnW {g : G} {w w' : W} (k : ∀ b xs, w.H b = some (.tup xs) → ¬ w.thA b → w'.H b = some (.tup xs) ∧ ¬ w'.thA b) : ∀ (ds : List D) (vs : List V), D.plns ds = true → RDs g w ds vs → RDs g w' ds vs
  | [], _, _, h => h
  | d :: ds, vs, f, h => by
    obtain ⟨v, r, e, h1, h2⟩ := h
    simp only [D.plns, Bool.and_eq_true] at f
    exact ⟨v, r, e, RD.plnW k d v f.1 h1, RDs.plnW k ds r f.2 h2⟩
end
section
variable {X : Cx} {Wx : WX} {pos : Pos}
theorem run_fz {f : Addr} {fd : FuncData} {ps : List Str} {F : MF} {k n : Nat} (hF : FnOk X.prog X.w X.K X.mg X.base (L2.CX X.prog X.w) k f fd ps (spF X.g 1 F)) (hr : Room k X.A) (hb : Binds X.K fd ps [])
    {pins : List (Addr × Obj)} {σ : L2.St} {w : W} {s : Shared} {S : List D} {v : V} {u : Value} {Q : VK} (I : Inv X pins σ w.H s) (G1 : Good w) (rs : RS X.g w S) (rd : RD X.g w (.loc n) v) (ru : RelV v u) (p : PR X.g Wx σ w (RD X.g) Q (callFz F [.loc n] S)) :
    wpAny (model X.prog X.w) X.A (call (.ref f) [u]) (EP X pins σ Q) X.xe s := by
  unfold callFz at p
  simp only at p
  split at p
  · rename_i ks es hS
    split at p
    · rename_i hfl
      split at p
      · rename_i d hFd
        split at p
        · rename_i hd
          obtain ⟨a, rfl, ha⟩ := rd
          cases (show u = Value.ref a from ru)
          obtain ⟨vs, t, l, r⟩ := rs.obj ha hS
          have mem := List.mem_of_getElem? ha
          have tha := G1.sub a mem
          obtain ⟨o, I1⟩ := I.lock t True.intro
          have wk : Weak w ⟨fun b => w.thA b ∧ b ≠ a, [], upd w.H a (.frz o (.dT (ks.zip vs)))⟩ := ⟨fun b ob q n => (upd_ne fun e => n (by rw [e]; exact tha)).trans q, fun b ob _ n z => n z.1⟩
          have Gc : Good ⟨fun b => w.thA b ∧ b ≠ a, [], upd w.H a (.frz o (.dT (ks.zip vs)))⟩ := ⟨List.nodup_nil, fun b hb => by simp at hb, fun b hb => by
            show upd w.H a _ b ≠ none
            rw [upd_ne hb.2]; exact G1.al b hb.1, fun b hb xs => by
            show upd w.H a _ b ≠ some (.tup xs)
            rw [upd_ne hb.2]; exact G1.nt b hb.1 xs⟩
          have rc : RDs X.g ⟨fun b => w.thA b ∧ b ≠ a, [], upd w.H a (.frz o (.dT (ks.zip vs)))⟩ [.dcT ks es] [.ref a] := RDs.one ⟨a, vs, rfl, .inr ⟨o, upd_same⟩, l, fun z => z.2 rfl, RDs.flatW wk es vs hfl r⟩
          have hsp : spF X.g 1 F [.ref a] (upd w.H a (.frz o (.dT (ks.zip vs)))) (fun y H' => ∃ wc' : W, Ext ⟨fun b => w.thA b ∧ b ≠ a, [], upd w.H a (.frz o (.dT (ks.zip vs)))⟩ wc' ∧ Good wc' ∧ RD X.g wc' d y ∧ H' = wc'.H) (fun _ _ _ => False) := by
            refine ⟨⟨fun b => w.thA b ∧ b ≠ a, [], upd w.H a (.frz o (.dT (ks.zip vs)))⟩, [.dcT ks es], [], rfl, Gc, rc, ⟨rfl, fun n d e => by simp at e⟩, rfl, ?_⟩
            rw [hFd]
            exact fun y w' x e g r rs => ⟨w', x, g, r, rfl⟩
          have hl : ([Value.ref a] ++ []).length = ps.length := by rw [← hF.len _ _ _ _ hsp]; rfl
          refine wpAny_call (codeAny_mono (hF.run X.A X.stack s _ ⟨[.ref a], []⟩ [.ref a] [.ref a] _ _ hr I1.env0 (hb s [.ref a] I.kIn hl) (.cons rfl .nil) hsp) fun z s' hq => ?_)
          cases z with
          | error e => obtain ⟨_, _, _, _, _, _, _, _, _, _, _, _, z⟩ := hq; exact z.elim
          | ok fl =>
            cases fl with
            | ret y =>
              obtain ⟨yv, H', I2, ry, wc', x, g', rdv, rfl⟩ := I1.after hq
              have ea : wc'.H a = some (.frz o (.dT (ks.zip vs))) := x.kpN upd_same (by simp) dkt_frz
              have I3 := inv_thaw I t I2 ea
              have nea : ∀ b ob, w.H b = some ob → b ≠ a → wc'.H b = some ob ∨ (¬ w.thA b ∧ ∃ od kvs, ob = dkt kvs ∧ wc'.H b = some (.frz od (dkt kvs))) := fun b ob hb hne => by
                rcases x.kp b ob ((upd_ne hne).trans hb) (by simp) with q | ⟨q1, q2⟩
                · exact .inl q
                · exact .inr ⟨fun z => q1 ⟨z, hne⟩, q2⟩
              have x3 : Ext w ⟨fun b => wc'.thA b ∨ b = a, w.rhA, upd wc'.H a (.dT (ks.zip vs))⟩ := by
                refine ⟨⟨[], by simp, by simp⟩, fun b hb => ?_, fun b hb => ?_, fun b ob hb hn => ?_, fun b hb => ?_⟩
                · by_cases e : b = a
                  · exact .inr e
                  · exact .inl (x.th1 b ⟨hb, e⟩)
                · rcases hb with hb | hb
                  · rcases x.th2 b hb with z | z
                    · exact .inl z.1
                    · by_cases e : b = a
                      · exact .inl (by rw [e]; exact tha)
                      · exact .inr ((upd_ne e).symm.trans z)
                  · exact .inl (by rw [hb]; exact tha)
                · have hne : b ≠ a := fun e => hn (by rw [e]; exact mem)
                  rcases nea b ob hb hne with q | ⟨q1, od, kvs, q2, q3⟩
                  · exact .inl ((upd_ne hne).trans q)
                  · exact .inr ⟨q1, od, kvs, q2, (upd_ne hne).trans q3⟩
                · show upd wc'.H a _ b ≠ none
                  by_cases e : b = a
                  · rw [e, upd_same]; simp
                  · rw [upd_ne e]
                    exact x.al b (by show upd w.H a _ b ≠ none; rw [upd_ne e]; exact hb)
              have g3 : Good ⟨fun b => wc'.thA b ∨ b = a, w.rhA, upd wc'.H a (.dT (ks.zip vs))⟩ := by
                refine ⟨G1.nd, fun b hb => x3.th1 b (G1.sub b hb), fun b hb => ?_, fun b hb xs => ?_⟩
                · show upd wc'.H a _ b ≠ none
                  by_cases e : b = a
                  · rw [e, upd_same]; simp
                  · rw [upd_ne e]
                    exact g'.al b (hb.resolve_right e)
                · show upd wc'.H a _ b ≠ some (.tup xs)
                  by_cases e : b = a
                  · rw [e, upd_same]; intro z; cases z
                  · rw [upd_ne e]
                    exact g'.nt b (hb.resolve_right e) xs
              refine ⟨yv, _, I3, ry, p yv ⟨fun b => wc'.thA b ∨ b = a, w.rhA, upd wc'.H a (.dT (ks.zip vs))⟩ x3 g3 (RD.plnW (fun b xs hb hn => ?_) d yv hd rdv) (rs.keep G1 x3 rfl fun b hb => ?_)⟩
              · have hne : b ≠ a := fun e => by rw [e, ea] at hb; cases hb
                exact ⟨(upd_ne hne).trans hb, fun z => z.elim hn hne⟩
              · show upd wc'.H a _ b = w.H b
                by_cases e : b = a
                · rw [e, upd_same, t]
                · rw [upd_ne e]
                  cases hw : w.H b with
                  | none => exact absurd hw (G1.al b (G1.sub b hb))
                  | some ob =>
                    rcases nea b ob hw e with q | ⟨q1, _⟩
                    · exact q
                    · exact absurd (G1.sub b hb) q1
            | next => exact False.elim hq
            | brk => exact False.elim hq
            | cont => exact False.elim hq
        · exact p.elim
      · exact p.elim
    · exact p.elim
  · exact p.elim
theorem de_callFz {x : Str} {k j : Nat} {F : MF} {p : Pos} {e : Expr} {m : ME} (h : Fok X.prog X.w X.g X.base k x 1 F) (hk : k ≤ j) (hr : Room j X.A) (hg : Gl X x) (he : PE X e (TEof X.g Wx m)) (hdb : (x == ("__debug__" : Str)) = false := by decide)
    (hs : starEach [e] X.env = (false, eval e X.env) :: starEach [] X.env := by rfl) (hpl : (backTo pos (starEach [] X.env)).any (·.1) = false := by rfl) : PE X (.Call (.Name x p) [e] [] pos) (TEof X.g Wx (eArgs (callFz F) (aCons m aNil))) := by
  obtain ⟨f, fd, ps, hF, hm, kp, b⟩ := h.ex
  refine ⟨fun pins s σ H Q I ⟨w, E, S, a, p⟩ => ?_⟩
  refine wpAny_Call_Name_kw (ld_glob I hg hm ?_ hdb)
  refine PySem.W.callWith_K (h₀ := X.base) I.ok.mod.kin kp ?_ hs hpl
  rw [hs]
  show wpAny _ _ (spliced ((false, eval e X.env) :: backTo pos (starEach [] X.env))) _ _ s
  have p' : PR X.g Wx σ w (RD X.g) Q ((m E S).bind fun x S1 => callFz F [x] S1) := by
    have := p
    unfold eArgs aCons aNil at this
    cases hm : m E S with
    | bad => rw [hm] at this; exact this.elim
    | exc c fs S1 => rw [hm] at this; exact this
    | ok d S1 => rw [hm] at this; exact this
  refine Calls.spliced_cons (thn (he.run pins s σ H _ I ⟨w, E, S, a, PR.bind a.good a.env p'⟩) fun u s1 ⟨v, H1, I1, r1, w1, d, S1, a1, x1, rd, p1⟩ => Calls.spliced_nil ⟨I1.kIn, ?_⟩)
  cases d with
  | loc n =>
    rw [← a1.hp] at I1
    exact run_fz hF (hr.mono hk) b I1 a1.good a1.sto rd r1 p1
  | _ => exact p1.elim
/-! for k in d -/
theorem di_iterT {tg e : Expr} {ma : ME} (he : PE X e (TEof X.g Wx ma)) : PI X tg e (TIof X.g Wx (iKeysT ma)) := by
  refine piImp (pi_keys (pe_fzT he)) fun σ H Q ⟨w, E, S, a, p⟩ => ?_
  refine ⟨w, E, S, a, ?_⟩
  have p1 : PR X.g Wx σ w (fun w' s J => ItOk X.g w' J s) Q ((ma E S).bind fun x S1 => match x with
    | .dcT ks _ => .ok (Src.its (ks.map tupK)) S1
    | _ => .bad) := p
  cases hm : ma E S with
  | bad => rw [hm] at p1; exact p1.elim
  | exc c fs S1 => rw [hm] at p1; exact p1
  | ok x S1 =>
    rw [hm] at p1
    cases x with
    | dcT ks ds =>
      have p2 : PR X.g Wx σ w (fun w' s J => ItOk X.g w' J s) Q (.ok (Src.its (ks.map tupK)) S1) := p1
      intro v w1 x1 G1 r1 rs1
      obtain ⟨b, vs, rfl, t, l, n, r3⟩ := r1
      refine ⟨b, _, rfl, t, fun o h => ?_, fun o h => ?_⟩
      · have na : b ∉ w1.rhA := fun z => n (G1.sub b z)
        have x2 : Ext w1 { w1 with H := upd w1.H b (.frz o (.dT (ks.zip vs))) } := by
          refine ⟨⟨[], by simp, by simp⟩, fun _ z => z, fun _ z => .inl z, fun c u hc hn => ?_, fun c hc => ?_⟩
          · by_cases ec : c = b
            · subst ec
              rw [h] at hc
              cases hc
              exact .inr ⟨n, o, .inr _, rfl, upd_same⟩
            · exact .inl ((upd_ne ec).trans hc)
          · show upd w1.H b _ c ≠ none
            by_cases ec : c = b
            · rw [ec, upd_same]; simp
            · rw [upd_ne ec]; exact hc
        have G2 : Good { w1 with H := upd w1.H b (.frz o (.dT (ks.zip vs))) } := put_upd G1
        have rs2 := rs1.keep G1 x2 rfl fun c hc => upd_ne fun ec => na (by rw [← ec]; exact hc)
        exact ⟨b, o, rfl, .inr ⟨_, upd_same, p2 _ _ (x1.trans x2) G2 (its_keysT G2 upd_same n l) rs2⟩⟩
      · exact ⟨b, o, rfl, .inr ⟨_, h, p2 _ _ x1 G1 (its_keysT G1 h n l) rs1⟩⟩
    | _ => exact p1.elim
end
theorem op_repTR1 {X : Cx} : OpR X (binaryOp .Mult) (fun x y H Q => ∃ l xs, x = .int 1 ∧ y = .ref l ∧ SqT X.K H l xs ∧ Q (.ref l) H) := by
  intro pins s σ H x y v u Q I rx ry h
  obtain ⟨l, xs, rfl, rfl, hT, q⟩ := h
  cases ry
  obtain ⟨t, rfl⟩ := rx
  obtain ⟨its, r, ⟨⟨cls, dd, data, sl⟩, ho, hc, n, hd⟩, hs⟩ := I.tuple hT
  simp only at hc hd
  subst hc hd
  refine lm_binaryOp_repeat_right (T := "tuple") (U := "int") (by decide) (fun s' => typeIs_int s' 1 t) ⟨_, ho, rfl⟩ F.fills_int_mul noFill_tuple_mul F.slot_int_mul lm_noRepeat_int repeat_tuple F.slot_int_index.lookup
    (call_meets F.slot_int_mul (typeIs_int s 1 t) F.entry_int_mul (F.args_int_mul_2 _ _) (int_mul_tuple 1 t l its.toArray n dd sl)
      ⟨ho, rfl, ⟨_, ho, rfl⟩, call_meets F.slot_tuple_mul ⟨_, ho, rfl⟩ F.entry_tuple_mul (F.args_tuple_mul_2 _ _) (tuple_mulW1 l its.toArray n dd sl t) ⟨ho, ?_⟩⟩)
  exact ⟨.ref l, H, I, rfl, q⟩
theorem jo_mulQ {X : Cx} : OpR X (binaryOp .Mult) (opOf X.g oMulQ) := by
  intro pins s σ H x y v u Q I rx ry ⟨Wx, σ', w, S, d, e, hH, G, rs, r1, r2, p⟩
  subst hH
  unfold oMulQ at p
  split at p
  · rename_i k xs
    split at p
    · rename_i hk
      subst hk
      cases r1
      obtain ⟨a, vs, rfl, ta, ra⟩ := id r2
      exact op_repTR1 pins s σ _ _ _ v u Q I rx ry ⟨a, vs, rfl, rfl, ta.sq, putSame p G rs r2⟩
    · exact jo_mulR pins s σ _ _ _ v u Q I rx ry ⟨Wx, σ', w, S, .int k, .tup xs, rfl, G, rs, r1, r2, p⟩
  · exact p.elim
end J
set_option Elab.async false
set_option linter.all false
set_option maxRecDepth 100000
set_option maxHeartbeats 1000000
namespace J
open PySem PySem.Spec PyProof.Rows L2
open PySem.W (alike alikeAll dataLt keyToks keyToksAll dataLe EachIs)
/-! sorted(d.keys()) of a dict with nested keys -/
section
variable {X : Cx} {pins : List (Addr × Obj)} {σ : L2.St} {H : Hp} {s : Shared}
end
section
variable {X : Cx} {Wx : WX}
end
end J
set_option Elab.async false
set_option linter.all false
set_option maxRecDepth 100000
set_option maxHeartbeats 1000000
namespace J
open PySem PySem.Spec PyProof.Rows L2 LamX
section
variable {X : Cx} {Wx : WX} {pos : Pos}
/-! o[k1], o[k2] = e -/
end
end J
set_option linter.all false
set_option maxRecDepth 100000
namespace K51
open J PySem
def C1_p_law_alike (R : MF) : MT :=
  (tNot (tTr (eArgs (callF R) (aCons (eOp oIx (eVar 0) (eVar 2)) (aCons (eOp oIx (eVar 1) (eVar 2)) aNil)))))
def V2_p_law_alike (R : MF) : ME :=
  (eVar 2)
def S_p_law_alike (R : MF) : MS :=
  (sSeq (sIf (tTr (eUn (oIsi ["tuple", "list"]) (eVar 1))) (sSeq (sIf (tOr (tNot (tTr (eUn (oIsi ["tuple", "list"]) (eVar 0)))) (tV (eOp oNe (eUn (oIsi ["list"]) (eVar 0)) (eUn (oIsi ["list"]) (eVar 1))))) (sRet (eC (.bl false))) sNext)
    (sSeq (sIf (tV (eOp oNe (eArgs bLen (aCons (eVar 0) aNil)) (eArgs bLen (aCons (eVar 1) aNil)))) (sRet (eC (.bl false))) sNext)
    (sRet (eOp oEq (eLc [2] (.nm 2) (iRng1 (eArgs bLen (aCons (eVar 1) aNil))) (C1_p_law_alike R) (V2_p_law_alike R)) (eArgs bLst aNil))))) sNext)
    (sSeq (sIf (tOr (tV (eUn oIsN (eVar 1))) (tTr (eUn (oIsi ["str"]) (eVar 1)))) (sRet (eAnd (eOp oEq (eVar 0) (eVar 1)) (eOp oEq (eUn (oIsi ["str"]) (eVar 0)) (eUn (oIsi ["str"]) (eVar 1))))) sNext)
    (sRet (eAnd (eUn (oIsi ["int"]) (eVar 0)) (eAnd (eOp oEq (eUn (oIsi ["bool"]) (eVar 0)) (eUn (oIsi ["bool"]) (eVar 1))) (eOp oEq (eVar 0) (eVar 1)))))))
def F_p_law_alike : Nat → MF
  | 0 => fnF 2 3 sNever
  | k + 1 => fnF 2 3 (S_p_law_alike (F_p_law_alike k))

def S_p_is_greater : MS :=
  (sRet (eOp oGt (eOp oMul (eOp oIx (eVar 0) (eC (.int 0))) (eOp oIx (eVar 1) (eC (.int 1)))) (eOp oMul (eOp oIx (eVar 1) (eC (.int 0))) (eOp oIx (eVar 0) (eC (.int 1))))))
def F_p_is_greater : MF := fnF 2 2 S_p_is_greater

def S_p_last_needed : MS :=
  (sSeq (sAsg (.tp [(.nm 2), (.nm 2), (.nm 3), (.nm 4), (.nm 5)]) (eVar 0))
    (sRet (eOp oDiv (eOp oSub (eOp oSub (eOp oMul (eOp oAdd (eVar 1) (eC (.int 1))) (eVar 4)) (eVar 5)) (eC (.int 1))) (eVar 3))))
def F_p_last_needed : MF := fnF 2 6 S_p_last_needed

def B1_p_firings_in_a_row : MS :=
  (sSeq (sAsg (.tp [(.nm 6), (.nm 7), (.nm 8), (.nm 9), (.nm 10)]) (eOp oIx (eVar 0) (eVar 5)))
    (sSeq (sIf (tV (eOp oLt (eOp oIx (eVar 1) (eVar 5)) (eVar 9))) (sRet (eC (.int 0))) sNext)
    (sSeq (sSet 11 (eIf (tV (eOp oEq (eVar 6) (eVar 7))) (eOp oSub (eVar 9) (eVar 8)) (eVar 9)))
    (sIf (tV (eOp oGt (eVar 11) (eC (.int 0)))) (sSet 4 (eArgs bMin2 (aCons (eVar 4) (aCons (eOp oAdd (eOp oDiv (eOp oSub (eOp oIx (eVar 1) (eVar 5)) (eVar 9)) (eVar 11)) (eC (.int 1))) aNil)))) sNext))))
def S_p_firings_in_a_row : MS :=
  (sSeq (sSet 4 (eVar 3))
    (sSeq (sFor (.nm 5) (iSeq (eVar 2)) B1_p_firings_in_a_row)
    (sRet (eVar 4))))
def F_p_firings_in_a_row : MF := fnF 4 12 S_p_firings_in_a_row

def V1_p_pipes_at : ME :=
  (eArgs bLstL aNil)
def B2_p_pipes_at : MS :=
  (sExpr (eMeth mAppend (eOp oIx (eVar 3) (eOp oIx (eVar 5) (eVar 1))) (aCons (eVar 4) aNil)))
def S_p_pipes_at : MS :=
  (sSeq (sSet 3 (eLc [6] (.nm 6) (iRng1 (eVar 2)) J.tYes V1_p_pipes_at))
    (sSeq (sFor (.tp [(.nm 4), (.nm 5)]) (J.iEnum (eVar 0)) B2_p_pipes_at)
    (sRet (eVar 3))))
def F_p_pipes_at : MF := fnF 3 7 S_p_pipes_at

def V1_p_most_counts : ME :=
  (eOp oIx (eVar 10) (eC (.int 4)))
def V2_p_most_counts : ME :=
  (eC (.int 0))
def B3_p_most_counts : MS :=
  (sPutAug oSub (eVar 4) (eVar 9) (eOp oMul (eVar 8) (eOp oIx (eOp oIx (eVar 0) (eVar 9)) (eC (.int 3)))))
def B4_p_most_counts : MS :=
  (sSeq (sPutAug iAdd (eVar 4) (eVar 9) (eOp oMul (eVar 8) (eOp oIx (eOp oIx (eVar 0) (eVar 9)) (eC (.int 2)))))
    (sExpr (eMeth mAppend (eVar 6) (aCons (eOp oIx (eOp oIx (eVar 0) (eVar 9)) (eC (.int 1))) aNil))))
def B5_p_most_counts : MS :=
  (sSeq (sSet 7 (eMeth mPop (eVar 6) aNil))
    (sSeq (sSet 8 (eArgs (callF F_p_firings_in_a_row) (aCons (eVar 0) (aCons (eVar 4) (aCons (eOp oIx (eVar 3) (eVar 7)) (aCons (eOp oSub (eOp oIx (eVar 1) (eVar 7)) (eOp oIx (eVar 5) (eVar 7))) aNil))))))
    (sSeq (sIf (tV (eOp oEq (eVar 8) (eC (.int 0)))) sCont sNext)
    (sSeq (sPutAug iAdd (eVar 5) (eVar 7) (eVar 8))
    (sSeq (sFor (.nm 9) (iSeq (eOp oIx (eVar 3) (eVar 7))) B3_p_most_counts)
    (sFor (.nm 9) (iSeq (eOp oIx (eVar 2) (eVar 7))) B4_p_most_counts))))))
def C6_p_most_counts : MT :=
  (tTr (eVar 6))
def S_p_most_counts : MS :=
  (sSeq (sSet 2 (eArgs (callF F_p_pipes_at) (aCons (eVar 0) (aCons (eC (.int 0)) (aCons (eArgs bLen (aCons (eVar 1) aNil)) aNil)))))
    (sSeq (sSet 3 (eArgs (callF F_p_pipes_at) (aCons (eVar 0) (aCons (eC (.int 1)) (aCons (eArgs bLen (aCons (eVar 1) aNil)) aNil)))))
    (sSeq (sSet 4 (eLcL [10] (.nm 10) (iSeq (eVar 0)) J.tYes V1_p_most_counts))
    (sSeq (sSet 5 (eLcL [11] (.nm 11) (iSeq (eVar 1)) J.tYes V2_p_most_counts))
    (sSeq (sSet 6 (eLstRgL (eArgs bLen (aCons (eVar 1) aNil))))
    (sSeq (sWhile 1000000 C6_p_most_counts B5_p_most_counts)
    (sRet (eArgs bTuple (aCons (eVar 5) aNil)))))))))
def F_p_most_counts : MF := fnF 2 12 S_p_most_counts

def S_p_is_whole : MS :=
  (sRet (eAnd (eUn (oIsi ["int"]) (eVar 0)) (eNot (eUn (oIsi ["bool"]) (eVar 0)))))
def F_p_is_whole : MF := fnF 1 1 S_p_is_whole

def S_p_is_number : MS :=
  (sRet (eAnd (eArgs (callF F_p_is_whole) (aCons (eVar 0) aNil)) (eChain oLe oLe (eVar 1) (eVar 0) (eVar 2))))
def F_p_is_number : MF := fnF 3 3 S_p_is_number

def S_p_is_box : MS :=
  (sRet (eArgs (callF F_p_is_number) (aCons (eVar 0) (aCons (eC (.int 0)) (aCons (eOp oSub (eVar 1) (eC (.int 1))) aNil)))))
def F_p_is_box : MF := fnF 2 2 S_p_is_box

def S_p_is_row : MS :=
  (sRet (eAnd (eUn (oIsi ["tuple"]) (eVar 0)) (eOp oEq (eArgs bLen (aCons (eVar 0) aNil)) (eVar 1))))
def F_p_is_row : MF := fnF 2 2 S_p_is_row

def S_p_is_pipe : MS :=
  (sSeq (sIf (tNot (tTr (eArgs (callF F_p_is_row) (aCons (eVar 0) (aCons (eC (.int 5)) aNil))))) (sRet (eC (.bl false))) sNext)
    (sSeq (sAsg (.tp [(.nm 2), (.nm 3), (.nm 4), (.nm 5), (.nm 6)]) (eVar 0))
    (sSeq (sIf (tOr (tNot (tTr (eArgs (callF F_p_is_box) (aCons (eVar 2) (aCons (eVar 1) aNil))))) (tNot (tTr (eArgs (callF F_p_is_box) (aCons (eVar 3) (aCons (eVar 1) aNil)))))) (sRet (eC (.bl false))) sNext)
    (sSeq (sIf (tOr (tNot (tTr (eArgs (callF F_p_is_number) (aCons (eVar 4) (aCons (eC (.int 1)) (aCons (eC (.int 999)) aNil)))))) (tNot (tTr (eArgs (callF F_p_is_number) (aCons (eVar 5) (aCons (eC (.int 1)) (aCons (eC (.int 999)) aNil))))))) (sRet (eC (.bl false))) sNext)
    (sRet (eArgs (callF F_p_is_number) (aCons (eVar 6) (aCons (eC (.int 0)) (aCons (eC (.int 99999)) aNil)))))))))
def F_p_is_pipe : MF := fnF 2 7 S_p_is_pipe

def B1_p_check_flow : MS :=
  (sIf (tNot (tTr (eArgs (callF F_p_is_pipe) (aCons (eVar 4) (aCons (eVar 1) aNil))))) sNever sNext)
def S_p_check_flow : MS :=
  (sSeq (sIf (tNot (tTr (eArgs (callF F_p_is_row) (aCons (eVar 0) (aCons (eC (.int 2)) aNil))))) sNever sNext)
    (sSeq (sAsg (.tp [(.nm 1), (.nm 2)]) (eVar 0))
    (sSeq (sIf (tOr (tNot (tTr (eArgs (callF F_p_is_number) (aCons (eVar 1) (aCons (eC (.int 1)) (aCons (eC (.int 8)) aNil)))))) (tOr (tNot (tTr (eUn (oIsi ["tuple"]) (eVar 2)))) (tV (eOp oGt (eArgs bLen (aCons (eVar 2) aNil)) (eC (.int 16)))))) sNever sNext)
    (sFor (.tp [(.nm 3), (.nm 4)]) (J.iEnum (eVar 2)) B1_p_check_flow))))
def F_p_check_flow : MF := fnF 1 5 S_p_check_flow

def B1_p_rate_along : MS :=
  (sSeq (sAsg (.tp [(.nm 6), (.nm 7)]) (eSl (eOp oIx (eVar 0) (eVar 4)) (some (eC (.int 2))) (some (eC (.int 4)))))
    (sSeq (sAug 2 iMul (eIf (tTr (eVar 5)) (eVar 6) (eVar 7)))
    (sSeq (sAug 3 iMul (eIf (tTr (eVar 5)) (eVar 7) (eVar 6)))
    (sSeq (sSet 8 (eArgs bGcd (aCons (eVar 2) (aCons (eVar 3) aNil))))
    (sPar [2, 3] (aCons (eOp oDiv (eVar 2) (eVar 8)) (aCons (eOp oDiv (eVar 3) (eVar 8)) aNil)))))))
def S_p_rate_along : MS :=
  (sSeq (sAsg (.tp [(.nm 2), (.nm 3)]) (eArgs bTup (aCons (eC (.int 1)) (aCons (eC (.int 1)) aNil))))
    (sSeq (sFor (.tp [(.nm 4), (.nm 5)]) (iSeq (eVar 1)) B1_p_rate_along)
    (sRet (eArgs bTup (aCons (eVar 2) (aCons (eVar 3) aNil))))))
def F_p_rate_along : MF := fnF 2 9 S_p_rate_along

def B1_p_ring_through : MS :=
  (sPar [1, 2] (aCons (eSl (eVar 1) (some (eC (.int 1))) none) (aCons (eSl (eVar 2) (some (eC (.int 1))) none) aNil)))
def C2_p_ring_through : MT :=
  (tAnd (tTr (eVar 1)) (tAnd (tTr (eVar 2)) (tV (eOp oEq (eOp oIx (eVar 1) (eC (.int 0))) (eOp oIx (eVar 2) (eC (.int 0)))))))
def V3_p_ring_through : ME :=
  (eArgs bTup (aCons (eVar 3) (aCons (eNot (eVar 4)) aNil)))
def S_p_ring_through : MS :=
  (sSeq (sWhile 1000000 C2_p_ring_through B1_p_ring_through)
    (sRet (eOp oAdd (eOp oAdd (eVar 1) (eArgs bTup (aCons (eArgs bTup (aCons (eVar 0) (aCons (eC (.bl true)) aNil))) aNil))) (eArgs bTuple (aCons (eLc [3, 4] (.tp [(.nm 3), (.nm 4)]) (iSeq (eRev (eVar 2))) J.tYes V3_p_ring_through) aNil)))))
def F_p_ring_through : MF := fnF 3 5 S_p_ring_through

def B1_p_reached : MS :=
  (sIf (tAnd (tV (eOp oEq (eVar 5) (eVar 4))) (tV (eOp oNin (eVar 6) (eVar 2)))) (sSeq (sPut (eVar 2) (eVar 6) (eC (.bl true)))
    (sExpr (eMeth mAppend (eVar 3) (aCons (eVar 6) aNil)))) sNext)
def B2_p_reached : MS :=
  (sSeq (sSet 4 (eMeth mPop (eVar 3) aNil))
    (sFor (.tp [(.nm 5), (.nm 6)]) (iSeq (eVar 0)) B1_p_reached))
def C3_p_reached : MT :=
  (tTr (eVar 3))
def S_p_reached : MS :=
  (sSeq (sSet 2 (eDisp1L (eVar 1) (eC (.bl true))))
    (sSeq (sSet 3 (eArgs bLstL (aCons (eVar 1) aNil)))
    (sSeq (sWhile 1000000 C3_p_reached B2_p_reached)
    (sRet (eVar 2)))))
def F_p_reached : MF := fnF 2 7 S_p_reached

def V1_p_grouped : ME :=
  (eArgs (callF F_p_reached) (aCons (eVar 1) (aCons (eVar 4) aNil)))
def C2_p_grouped : MT :=
  (tAnd (tV (eOp oIn (eVar 6) (eOp oIx (eVar 2) (eVar 4)))) (tV (eOp oIn (eVar 4) (eOp oIx (eVar 2) (eVar 6)))))
def V3_p_grouped : ME :=
  (eVar 6)
def B4_p_grouped : MS :=
  (sSeq (sSet 5 (eLc [6] (.nm 6) (iRng1 (eVar 0)) C2_p_grouped V3_p_grouped))
    (sIf (tV (eOp oEq (eOp oIx (eVar 5) (eC (.int 0))) (eVar 4))) (sExpr (eMeth mAppend (eVar 3) (aCons (eArgs bTuple (aCons (eVar 5) aNil)) aNil))) sNext))
def S_p_grouped : MS :=
  (sSeq (sSet 2 (eLc [4] (.nm 4) (iRng1 (eVar 0)) J.tYes V1_p_grouped))
    (sSeq (sSet 3 (eArgs bLstL aNil))
    (sSeq (sFor (.nm 4) (iRng1 (eVar 0)) B4_p_grouped)
    (sRet (eArgs bTuple (aCons (eVar 3) aNil))))))
def F_p_grouped : MF := fnF 2 7 S_p_grouped

def V1_p_pipe_links : ME :=
  (eArgs bTup (aCons (eOp oIx (eVar 1) (eC (.int 0))) (aCons (eOp oIx (eVar 1) (eC (.int 1))) aNil)))
def S_p_pipe_links : MS :=
  (sRet (eLc [1] (.nm 1) (iSeq (eOp oIx (eVar 0) (eC (.int 1)))) J.tYes V1_p_pipe_links))
def F_p_pipe_links : MF := fnF 1 2 S_p_pipe_links

def V1_p_parts : ME :=
  (eArgs bTup (aCons (eVar 3) (aCons (eVar 2) aNil)))
def S_p_parts : MS :=
  (sSeq (sExpr (eArgs (callF F_p_check_flow) (aCons (eVar 0) aNil)))
    (sSeq (sSet 1 (eArgs (callF F_p_pipe_links) (aCons (eVar 0) aNil)))
    (sRet (eArgs (callF F_p_grouped) (aCons (eOp oIx (eVar 0) (eC (.int 0))) (aCons (eOp oAdd (eVar 1) (eLc [2, 3] (.tp [(.nm 2), (.nm 3)]) (iSeq (eVar 1)) J.tYes V1_p_parts)) aNil))))))
def F_p_parts : MF := fnF 1 4 S_p_parts

def S_p_step_boxes : MS :=
  (sSeq (sAsg (.tp [(.nm 2), (.nm 3)]) (eVar 1))
    (sSeq (sAsg (.tp [(.nm 4), (.nm 5)]) (eSl (eOp oIx (eVar 0) (eVar 2)) none (some (eC (.int 2)))))
    (sRet (eIf (tTr (eVar 3)) (eArgs bTup (aCons (eVar 4) (aCons (eVar 5) aNil))) (eArgs bTup (aCons (eVar 5) (aCons (eVar 4) aNil)))))))
def F_p_step_boxes : MF := fnF 2 6 S_p_step_boxes

def C1_p_steps_from : MT :=
  (tV (eOp oEq (eOp oIx (eVar 4) (eC (.int 0))) (eVar 1)))
def V2_p_steps_from : ME :=
  (eArgs bTup (aCons (eVar 3) (aCons (eC (.bl true)) aNil)))
def C3_p_steps_from : MT :=
  (tV (eOp oEq (eOp oIx (eVar 4) (eC (.int 1))) (eVar 1)))
def V4_p_steps_from : ME :=
  (eArgs bTup (aCons (eVar 3) (aCons (eC (.bl false)) aNil)))
def S_p_steps_from : MS :=
  (sSeq (sSet 2 (eLc [3, 4] (.tp [(.nm 3), (.nm 4)]) (J.iEnum (eVar 0)) C1_p_steps_from V2_p_steps_from))
    (sRet (eOp oAdd (eVar 2) (eLc [3, 4] (.tp [(.nm 3), (.nm 4)]) (J.iEnum (eVar 0)) C3_p_steps_from V4_p_steps_from))))
def F_p_steps_from : MF := fnF 2 5 S_p_steps_from

def B1_p_spreading_steps : MS :=
  (sSeq (sSet 7 (eOp oIx (eArgs (callF F_p_step_boxes) (aCons (eVar 0) (aCons (eVar 6) aNil))) (eC (.int 1))))
    (sIf (tV (eOp oNin (eVar 7) (eVar 2))) (sSeq (sPut (eVar 2) (eVar 7) (eC (.bl true)))
    (sSeq (sExpr (eMeth mAppend (eVar 3) (aCons (eVar 7) aNil)))
    (sExpr (eMeth mAppend (eVar 4) (aCons (eVar 6) aNil))))) sNext))
def B2_p_spreading_steps : MS :=
  (sSeq (sSet 5 (eMeth mPop (eVar 3) aNil))
    (sFor (.nm 6) (iSeq (eArgs (callF F_p_steps_from) (aCons (eVar 0) (aCons (eVar 5) aNil)))) B1_p_spreading_steps))
def C3_p_spreading_steps : MT :=
  (tTr (eVar 3))
def S_p_spreading_steps : MS :=
  (sSeq (sSet 2 (eDisp1L (eVar 1) (eC (.bl true))))
    (sSeq (sSet 3 (eArgs bLstL (aCons (eVar 1) aNil)))
    (sSeq (sSet 4 (eArgs bLstL aNil))
    (sSeq (sWhile 1000000 C3_p_spreading_steps B2_p_spreading_steps)
    (sRet (eVar 4))))))
def F_p_spreading_steps : MF := fnF 2 8 S_p_spreading_steps

def B1_p_trails : MS :=
  (sSeq (sAsg (.tp [(.nm 5), (.nm 6)]) (eArgs (callF F_p_step_boxes) (aCons (eVar 1) (aCons (eVar 4) aNil))))
    (sPut (eVar 2) (eVar 6) (eOp oAdd (eOp oIx (eVar 2) (eVar 5)) (eArgs bTup (aCons (eVar 4) aNil)))))
def B2_p_trails : MS :=
  (sSeq (sPut (eVar 2) (eOp oIx (eVar 3) (eC (.int 0))) (eArgs bTup aNil))
    (sFor (.nm 4) (iSeq (eArgs (callF F_p_spreading_steps) (aCons (eVar 1) (aCons (eOp oIx (eVar 3) (eC (.int 0))) aNil)))) B1_p_trails))
def S_p_trails : MS :=
  (sSeq (sSet 1 (eOp oIx (eVar 0) (eC (.int 1))))
    (sSeq (sSet 2 eDctL)
    (sSeq (sFor (.nm 3) (iSeq (eArgs (callF F_p_parts) (aCons (eVar 0) aNil))) B2_p_trails)
    (sRet (eVar 2)))))
def F_p_trails : MF := fnF 1 7 S_p_trails

def B1_p_tilt : MS :=
  (sSeq (sSet 4 (eArgs (callF F_p_ring_through) (aCons (eVar 2) (aCons (eOp oIx (eVar 1) (eOp oIx (eVar 3) (eC (.int 0)))) (aCons (eOp oIx (eVar 1) (eOp oIx (eVar 3) (eC (.int 1)))) aNil)))))
    (sIf (tV (eOp oNe (eArgs (callF F_p_rate_along) (aCons (eOp oIx (eVar 0) (eC (.int 1))) (aCons (eVar 4) aNil))) (eArgs bTup (aCons (eC (.int 1)) (aCons (eC (.int 1)) aNil))))) (sRet (eVar 4)) sNext))
def S_p_tilt : MS :=
  (sSeq (sExpr (eArgs (callF F_p_check_flow) (aCons (eVar 0) aNil)))
    (sSeq (sSet 1 (eArgs (callF F_p_trails) (aCons (eVar 0) aNil)))
    (sSeq (sFor (.tp [(.nm 2), (.nm 3)]) (J.iEnum (eOp oIx (eVar 0) (eC (.int 1)))) B1_p_tilt)
    (sRet (eC .non)))))
def F_p_tilt : MF := fnF 1 5 S_p_tilt

def S_p_check_balanced : MS :=
  (sIf (tV (eUn oNotN (eArgs (callF F_p_tilt) (aCons (eVar 0) aNil)))) sNever sNext)
def F_p_check_balanced : MF := fnF 1 1 S_p_check_balanced

def V1_p_repetitions : ME :=
  (eVar 5)
def V2_p_repetitions : ME :=
  (eArgs (callF F_p_rate_along) (aCons (eOp oIx (eVar 0) (eC (.int 1))) (aCons (eVar 6) aNil)))
def B3_p_repetitions : MS :=
  (sSet 4 (eArgs bLcm (aCons (eVar 4) (aCons (eOp oIx (eOp oIx (eVar 1) (eVar 5)) (eC (.int 1))) aNil))))
def B4_p_repetitions : MS :=
  (sPut (eVar 2) (eVar 5) (eOp oDiv (eOp oMul (eOp oIx (eOp oIx (eVar 1) (eVar 5)) (eC (.int 0))) (eVar 4)) (eOp oIx (eOp oIx (eVar 1) (eVar 5)) (eC (.int 1)))))
def B5_p_repetitions : MS :=
  (sSeq (sSet 4 (eC (.int 1)))
    (sSeq (sFor (.nm 5) (iSeq (eVar 3)) B3_p_repetitions)
    (sFor (.nm 5) (iSeq (eVar 3)) B4_p_repetitions)))
def V6_p_repetitions : ME :=
  (eOp oIx (eVar 2) (eVar 5))
def S_p_repetitions : MS :=
  (sSeq (sExpr (eArgs (callF F_p_check_balanced) (aCons (eVar 0) aNil)))
    (sSeq (sSet 1 (eDc [5, 6] (.tp [(.nm 5), (.nm 6)]) (iItemsJ (eArgs (callF F_p_trails) (aCons (eVar 0) aNil))) J.tYes V1_p_repetitions V2_p_repetitions))
    (sSeq (sSet 2 eDctL)
    (sSeq (sFor (.nm 3) (iSeq (eArgs (callF F_p_parts) (aCons (eVar 0) aNil))) B5_p_repetitions)
    (sRet (eArgs bTuple (aCons (eLc [5] (.nm 5) (iRng1 (eOp oIx (eVar 0) (eC (.int 0)))) J.tYes V6_p_repetitions) aNil)))))))
def F_p_repetitions : MF := fnF 1 7 S_p_repetitions

def S_p_round_counts : MS :=
  (sSeq (sSet 1 (eArgs (callF F_p_repetitions) (aCons (eVar 0) aNil)))
    (sSeq (sIf (tV (eOp oGt (eArgs bSum (aCons (eVar 1) aNil)) (eC (.int 2000)))) sNever sNext)
    (sRet (eVar 1))))
def F_p_round_counts : MF := fnF 1 2 S_p_round_counts

def S_p_live_counts : MS :=
  (sSeq (sSet 1 (eArgs (callF F_p_round_counts) (aCons (eVar 0) aNil)))
    (sSeq (sIf (tV (eOp oNe (eArgs (callF F_p_most_counts) (aCons (eOp oIx (eVar 0) (eC (.int 1))) (aCons (eVar 1) aNil))) (eVar 1))) sNever sNext)
    (sRet (eVar 1))))
def F_p_live_counts : MF := fnF 1 2 S_p_live_counts

def S_p_unrolled_counts : MS :=
  (sSeq (sSet 1 (eArgs (callF F_p_live_counts) (aCons (eVar 0) aNil)))
    (sSeq (sIf (tV (eOp oGt (eArgs bSum (aCons (eVar 1) aNil)) (eC (.int 120)))) sNever sNext)
    (sRet (eVar 1))))
def F_p_unrolled_counts : MF := fnF 1 2 S_p_unrolled_counts

def B1_p_needs : MS :=
  (sSeq (sSet 7 (eArgs (callF F_p_last_needed) (aCons (eVar 3) (aCons (eVar 6) aNil))))
    (sSeq (sSet 8 (eArgs bTup (aCons (eArgs bTup (aCons (eVar 4) (aCons (eOp oMod (eVar 7) (eOp oIx (eVar 1) (eVar 4))) aNil))) (aCons (eArgs bTup (aCons (eVar 5) (aCons (eVar 6) aNil))) (aCons (eUn oNeg (eOp oDiv (eVar 7) (eOp oIx (eVar 1) (eVar 4)))) aNil)))))
    (sPutN (eVar 2) (eVar 8) (eC (.bl true)))))
def B2_p_needs : MS :=
  (sSeq (sAsg (.tp [(.nm 4), (.nm 5)]) (eSl (eVar 3) none (some (eC (.int 2)))))
    (sFor (.nm 6) (iRng1 (eOp oIx (eVar 1) (eVar 5))) B1_p_needs))
def S_p_needs : MS :=
  (sSeq (sSet 1 (eArgs (callF F_p_unrolled_counts) (aCons (eVar 0) aNil)))
    (sSeq (sSet 2 eDctNL)
    (sSeq (sFor (.nm 3) (iSeq (eOp oIx (eVar 0) (eC (.int 1)))) B2_p_needs)
    (sRet (eArgs bTuple (aCons (eArgs bSortedD (aCons (eArgs bListN (aCons (eVar 2) aNil)) aNil)) aNil))))))
def F_p_needs : MF := fnF 1 9 S_p_needs

def V1_p_all_steps : ME :=
  (eArgs bTup (aCons (eArgs bTup (aCons (eVar 3) (aCons (eVar 5) aNil))) (aCons (eArgs bTup (aCons (eVar 3) (aCons (eOp oAdd (eVar 5) (eC (.int 1))) aNil))) (aCons (eC (.int 0)) aNil))))
def B2_p_all_steps : MS :=
  (sSeq (sExpr (eMeth mExtendS (eVar 2) (aCons (eLc [5] (.nm 5) (iRng1 (eOp oSub (eVar 4) (eC (.int 1)))) J.tYes V1_p_all_steps) aNil)))
    (sExpr (eMeth mAppend (eVar 2) (aCons (eArgs bTup (aCons (eArgs bTup (aCons (eVar 3) (aCons (eOp oSub (eVar 4) (eC (.int 1))) aNil))) (aCons (eArgs bTup (aCons (eVar 3) (aCons (eC (.int 0)) aNil))) (aCons (eC (.int 1)) aNil)))) aNil))))
def S_p_all_steps : MS :=
  (sSeq (sSet 2 (eArgs bListL (aCons (eArgs (callF F_p_needs) (aCons (eVar 0) aNil)) aNil)))
    (sSeq (sFor (.tp [(.nm 3), (.nm 4)]) (J.iEnum (eVar 1)) B2_p_all_steps)
    (sRet (eVar 2))))
def F_p_all_steps : MF := fnF 2 6 S_p_all_steps

def B1_p_check_times : MS :=
  (sIf (tNot (tTr (eArgs (callF F_p_is_number) (aCons (eVar 3) (aCons (eC (.int 1)) (aCons (eC (.int 99)) aNil)))))) sNever sNext)
def S_p_check_times : MS :=
  (sSeq (sIf (tNot (tTr (eArgs (callF F_p_is_row) (aCons (eVar 1) (aCons (eOp oIx (eVar 0) (eC (.int 0))) aNil))))) sNever sNext)
    (sFor (.tp [(.nm 2), (.nm 3)]) (J.iEnum (eVar 1)) B1_p_check_times))
def F_p_check_times : MF := fnF 2 4 S_p_check_times

def S_p_knots : MS :=
  (sSeq (sExpr (eArgs (callF F_p_check_flow) (aCons (eVar 0) aNil)))
    (sRet (eArgs (callF F_p_grouped) (aCons (eOp oIx (eVar 0) (eC (.int 0))) (aCons (eArgs (callF F_p_pipe_links) (aCons (eVar 0) aNil)) aNil)))))
def F_p_knots : MF := fnF 1 1 S_p_knots

def V1_p_ring_mean : ME :=
  (eOp oIx (eVar 1) (eOp oIx (eVar 5) (eC (.int 0))))
def V2_p_ring_mean : ME :=
  (eVar 7)
def S_p_ring_mean : MS :=
  (sSeq (sSet 2 (eArgs bSum (aCons (eLc [5, 6] (.tp [(.nm 5), (.nm 6), (.nm 6)]) (iSeq (eVar 0)) J.tYes V1_p_ring_mean) aNil)))
    (sSeq (sSet 3 (eArgs bSum (aCons (eLc [6, 7] (.tp [(.nm 6), (.nm 6), (.nm 7)]) (iSeq (eVar 0)) J.tYes V2_p_ring_mean) aNil)))
    (sSeq (sSet 4 (eArgs bGcd (aCons (eVar 2) (aCons (eVar 3) aNil))))
    (sRet (eArgs bTup (aCons (eOp oDiv (eVar 2) (eVar 4)) (aCons (eOp oDiv (eVar 3) (eVar 4)) aNil)))))))
def F_p_ring_mean : MF := fnF 2 8 S_p_ring_mean

def B1_p_ring_to : MS :=
  (sExpr (eMeth mInsert (eVar 2) (aCons (eC (.int 0)) (aCons (eOp oIxT (eVar 0) (eOp oIx (eOp oIx (eVar 2) (eC (.int 0))) (eC (.int 0)))) aNil))))
def C2_p_ring_to : MT :=
  (tV (eOp oNe (eOp oIx (eOp oIx (eVar 2) (eC (.int 0))) (eC (.int 0))) (eVar 1)))
def S_p_ring_to : MS :=
  (sSeq (sSet 2 (eArgs bLstL (aCons (eOp oIxT (eVar 0) (eVar 1)) aNil)))
    (sSeq (sWhile 1000000 C2_p_ring_to B1_p_ring_to)
    (sRet (eArgs bTuple (aCons (eVar 2) aNil)))))
def F_p_ring_to : MF := fnF 2 3 S_p_ring_to

def B1_p_closed_ring : MS :=
  (sSeq (sPut (eVar 1) (eVar 3) (eVar 2))
    (sSet 3 (eOp oIx (eOp oIxT (eVar 0) (eVar 3)) (eC (.int 0)))))
def C2_p_closed_ring : MT :=
  (tAnd (tV (eOp oInT (eVar 3) (eVar 0))) (tV (eOp oNinT (eVar 3) (eVar 1))))
def B3_p_closed_ring : MS :=
  (sSeq (sSet 3 (eVar 2))
    (sSeq (sWhile 1000000 C2_p_closed_ring B1_p_closed_ring)
    (sIf (tAnd (tV (eOp oInT (eVar 3) (eVar 0))) (tV (eOp oEq (eOp oIxT (eVar 1) (eVar 3)) (eVar 2)))) (sRet (eArgs (callF F_p_ring_to) (aCons (eVar 0) (aCons (eVar 3) aNil)))) sNext)))
def S_p_closed_ring : MS :=
  (sSeq (sSet 1 eDctTL)
    (sSeq (sFor (.nm 2) (iKeysT (eVar 0)) B3_p_closed_ring)
    (sRet (eC .non))))
def F_p_closed_ring : MF := fnF 1 4 S_p_closed_ring

def V1_p_slower_ring : ME :=
  (eVar 10)
def V2_p_slower_ring : ME :=
  (eC (.int 0))
def B3_p_slower_ring : MS :=
  (sSeq (sAsg (.tp [(.nm 9), (.nm 10), (.nm 11)]) (eVar 8))
    (sSeq (sSet 12 (eOp oSub (eOp oAdd (eOp oIxT (eVar 5) (eVar 9)) (eOp oMul (eVar 4) (eOp oIx (eVar 1) (eOp oIx (eVar 9) (eC (.int 0)))))) (eOp oMul (eVar 3) (eVar 11))))
    (sIf (tV (eOp oGt (eVar 12) (eOp oIxT (eVar 5) (eVar 10)))) (sSeq (sPut (eVar 5) (eVar 10) (eVar 12))
    (sSeq (sPut (eVar 6) (eVar 10) (eVar 8))
    (sSet 7 (eC (.bl true))))) sNext)))
def B4_p_slower_ring : MS :=
  (sSeq (sSet 7 (eC (.bl false)))
    (sSeq (sFor (.nm 8) (iSeq (eVar 0)) B3_p_slower_ring)
    (sSeq (sSet 13 (eArgs (callFz F_p_closed_ring) (aCons (eVar 6) aNil)))
    (sIf (tV (eUn oNotN (eVar 13))) (sRet (eVar 13)) sNext))))
def C5_p_slower_ring : MT :=
  (tTr (eVar 7))
def S_p_slower_ring : MS :=
  (sSeq (sAsg (.tp [(.nm 3), (.nm 4)]) (eVar 2))
    (sSeq (sSet 5 (eDcX insT emT [14, 10] (.tp [(.nm 14), (.nm 10), (.nm 14)]) (iSeq (eVar 0)) V1_p_slower_ring V2_p_slower_ring))
    (sSeq (sSet 6 eDctTL)
    (sSeq (sSet 7 (eC (.bl true)))
    (sSeq (sWhile 1000000 C5_p_slower_ring B4_p_slower_ring)
    (sRet (eC .non)))))))
def F_p_slower_ring : MF := fnF 3 15 S_p_slower_ring

def B1_p_slowest_ring : MS :=
  (sSeq (sSet 3 (eVar 2))
    (sSet 2 (eArgs (callF F_p_slower_ring) (aCons (eVar 0) (aCons (eVar 1) (aCons (eArgs (callF F_p_ring_mean) (aCons (eVar 3) (aCons (eVar 1) aNil))) aNil))))))
def C2_p_slowest_ring : MT :=
  (tV (eUn oNotN (eVar 2)))
def S_p_slowest_ring : MS :=
  (sSeq (sSet 2 (eArgs (callF F_p_slower_ring) (aCons (eVar 0) (aCons (eVar 1) (aCons (eArgs bTup (aCons (eC (.int 0)) (aCons (eC (.int 1)) aNil))) aNil)))))
    (sSeq (sSet 3 (eVar 2))
    (sSeq (sWhile 1000000 C2_p_slowest_ring B1_p_slowest_ring)
    (sRet (eVar 3)))))
def F_p_slowest_ring : MF := fnF 2 4 S_p_slowest_ring

def C1_p_knot_rings : MT :=
  (tAnd (tV (eOp oIn (eOp oIx (eOp oIx (eVar 7) (eC (.int 0))) (eC (.int 0))) (eVar 5))) (tV (eOp oIn (eOp oIx (eOp oIx (eVar 7) (eC (.int 1))) (eC (.int 0))) (eVar 5))))
def V2_p_knot_rings : ME :=
  (eVar 7)
def B3_p_knot_rings : MS :=
  (sSeq (sSet 6 (eLc [7] (.nm 7) (iSeq (eVar 3)) C1_p_knot_rings V2_p_knot_rings))
    (sExpr (eMeth mAppend (eVar 4) (aCons (eArgs (callF F_p_slowest_ring) (aCons (eVar 6) (aCons (eVar 1) aNil))) aNil))))
def S_p_knot_rings : MS :=
  (sSeq (sSet 2 (eArgs (callF F_p_unrolled_counts) (aCons (eVar 0) aNil)))
    (sSeq (sExpr (eArgs (callF F_p_check_times) (aCons (eVar 0) (aCons (eVar 1) aNil))))
    (sSeq (sSet 3 (eArgs (callF F_p_all_steps) (aCons (eVar 0) (aCons (eVar 2) aNil))))
    (sSeq (sSet 4 (eArgs bLstL aNil))
    (sSeq (sFor (.nm 5) (iSeq (eArgs (callF F_p_knots) (aCons (eVar 0) aNil))) B3_p_knot_rings)
    (sRet (eVar 4)))))))
def F_p_knot_rings : MF := fnF 2 8 S_p_knot_rings

def V1_p_box_means : ME :=
  (eArgs bTup (aCons (eVar 11) (aCons (eVar 10) aNil)))
def B2_p_box_means : MS :=
  (sSeq (sSet 9 (eArgs (callF F_p_ring_mean) (aCons (eVar 8) (aCons (eVar 1) aNil))))
    (sIf (tAnd (tV (eOp oIn (eOp oIx (eOp oIx (eOp oIx (eVar 8) (eC (.int 0))) (eC (.int 0))) (eC (.int 0))) (eVar 6))) (tTr (eArgs (callF F_p_is_greater) (aCons (eVar 9) (aCons (eVar 7) aNil))))) (sSet 7 (eVar 9)) sNext))
def B3_p_box_means : MS :=
  (sSeq (sSet 6 (eArgs (callF F_p_reached) (aCons (eVar 3) (aCons (eVar 5) aNil))))
    (sSeq (sSet 7 (eArgs bTup (aCons (eC (.int 0)) (aCons (eC (.int 1)) aNil))))
    (sSeq (sFor (.nm 8) (iSeq (eVar 2)) B2_p_box_means)
    (sExpr (eMeth mAppend (eVar 4) (aCons (eVar 7) aNil))))))
def S_p_box_means : MS :=
  (sSeq (sSet 2 (eArgs (callF F_p_knot_rings) (aCons (eVar 0) (aCons (eVar 1) aNil))))
    (sSeq (sSet 3 (eLc [10, 11] (.tp [(.nm 10), (.nm 11)]) (iSeq (eArgs (callF F_p_pipe_links) (aCons (eVar 0) aNil))) J.tYes V1_p_box_means))
    (sSeq (sSet 4 (eArgs bLstL aNil))
    (sSeq (sFor (.nm 5) (iRng1 (eOp oIx (eVar 0) (eC (.int 0)))) B3_p_box_means)
    (sRet (eArgs bTuple (aCons (eVar 4) aNil)))))))
def F_p_box_means : MF := fnF 2 12 S_p_box_means

def V1_p_firings : ME :=
  (eArgs bTup (aCons (eVar 2) (aCons (eVar 4) aNil)))
def I2_p_firings : MI :=
  (iRng1 (eVar 3))
def S_p_firings : MS :=
  (sSeq (sSet 1 (eArgs (callF F_p_unrolled_counts) (aCons (eVar 0) aNil)))
    (sRet (eArgs bTuple (aCons (eLc2 [2, 3, 4] (.tp [(.nm 2), (.nm 3)]) (J.iEnum (eVar 1)) J.tYes [4] I2_p_firings (.nm 4) J.tYes V1_p_firings) aNil))))
def F_p_firings : MF := fnF 1 5 S_p_firings

def S_p_check_rounds : MS :=
  (sIf (tNot (tTr (eArgs (callF F_p_is_number) (aCons (eVar 0) (aCons (eC (.int 1)) (aCons (eC (.int 60)) aNil)))))) sNever sNext)
def F_p_check_rounds : MF := fnF 1 1 S_p_check_rounds

def B1_p_held_behind : MS :=
  (sSeq (sIf (tV (eOp oEq (eVar 6) (eVar 2))) (sPutAug oSub (eVar 3) (eVar 4) (eVar 8)) sNext)
    (sIf (tV (eOp oEq (eVar 5) (eVar 2))) (sPutAug iAdd (eVar 3) (eVar 4) (eVar 7)) sNext))
def S_p_held_behind : MS :=
  (sSeq (sSet 3 (eArgs bListL (aCons (eVar 1) aNil)))
    (sSeq (sFor (.tp [(.nm 4), (.tp [(.nm 5), (.nm 6), (.nm 7), (.nm 8), (.nm 9)])]) (J.iEnum (eVar 0)) B1_p_held_behind)
    (sRet (eArgs bTuple (aCons (eVar 3) aNil)))))
def F_p_held_behind : MF := fnF 3 10 S_p_held_behind

def C1_p_short_pipes : MT :=
  (tAnd (tV (eOp oEq (eOp oIx (eVar 4) (eC (.int 1))) (eVar 2))) (tV (eOp oLt (eOp oIx (eVar 1) (eVar 3)) (eOp oIx (eVar 4) (eC (.int 3))))))
def V2_p_short_pipes : ME :=
  (eVar 3)
def S_p_short_pipes : MS :=
  (sRet (eLc [3, 4] (.tp [(.nm 3), (.nm 4)]) (J.iEnum (eVar 0)) C1_p_short_pipes V2_p_short_pipes))
def F_p_short_pipes : MF := fnF 3 5 S_p_short_pipes

def V1_p_least_word : ME :=
  (eOp oIx (eVar 6) (eC (.int 4)))
def C2_p_least_word : MT :=
  (tAnd (tTr (eVar 7)) (tNot (tTr (eArgs (callF F_p_short_pipes) (aCons (eVar 0) (aCons (eVar 2) (aCons (eVar 5) aNil)))))))
def V3_p_least_word : ME :=
  (eVar 5)
def B4_p_least_word : MS :=
  (sSeq (sSet 5 (eArgs bMin1 (aCons (eLc [5, 7] (.tp [(.nm 5), (.nm 7)]) (J.iEnum (eVar 3)) C2_p_least_word V3_p_least_word) aNil)))
    (sSeq (sPutAug oSub (eVar 3) (eVar 5) (eC (.int 1)))
    (sSeq (sExpr (eMeth mAppend (eVar 4) (aCons (eVar 5) aNil)))
    (sSet 2 (eArgs (callF F_p_held_behind) (aCons (eVar 0) (aCons (eVar 2) (aCons (eVar 5) aNil))))))))
def C5_p_least_word : MT :=
  (tTr (eArgs bAny (aCons (eVar 3) aNil)))
def S_p_least_word : MS :=
  (sSeq (sIf (tV (eOp oNe (eArgs (callF F_p_most_counts) (aCons (eVar 0) (aCons (eVar 1) aNil))) (eVar 1))) (sRet (eC .non)) sNext)
    (sSeq (sSet 2 (eArgs bTuple (aCons (eLc [6] (.nm 6) (iSeq (eVar 0)) J.tYes V1_p_least_word) aNil)))
    (sSeq (sSet 3 (eArgs bListL (aCons (eVar 1) aNil)))
    (sSeq (sSet 4 (eArgs bLstL aNil))
    (sSeq (sWhile 1000000 C5_p_least_word B4_p_least_word)
    (sRet (eArgs bTuple (aCons (eVar 4) aNil))))))))
def F_p_least_word : MF := fnF 2 8 S_p_least_word

def V1_p_starts : ME :=
  (eArgs bLstL aNil)
def B2_p_starts : MS :=
  (sSeq (sSet 10 (eOp oIx (eOp oIx (eVar 0) (eVar 9)) (eC (.int 0))))
    (sSeq (sSet 11 (eArgs (callF F_p_last_needed) (aCons (eOp oIx (eVar 0) (eVar 9)) (aCons (eVar 7) aNil))))
    (sIf (tV (eOp oGe (eVar 11) (eC (.int 0)))) (sExpr (eMeth mAppend (eVar 8) (aCons (eOp oAdd (eOp oIx (eOp oIx (eVar 5) (eVar 10)) (eVar 11)) (eOp oIx (eVar 2) (eVar 10))) aNil))) sNext)))
def B3_p_starts : MS :=
  (sSeq (sSet 7 (eArgs bLen (aCons (eOp oIx (eVar 5) (eVar 6)) aNil)))
    (sSeq (sSet 8 (eIf (tTr (eOp oIx (eVar 5) (eVar 6))) (eArgs bLstL (aCons (eOp oAdd (eOp oIx (eOp oIx (eVar 5) (eVar 6)) (eUn oNeg (eC (.int 1)))) (eOp oIx (eVar 2) (eVar 6))) aNil)) (eArgs bLstL (aCons (eC (.int 0)) aNil))))
    (sSeq (sForN (.nm 9) (iSeq (eOp oIx (eVar 4) (eVar 6))) B2_p_starts)
    (sExpr (eMeth mAppend (eOp oIx (eVar 5) (eVar 6)) (aCons (eArgs bMax1 (aCons (eVar 8) aNil)) aNil))))))
def S_p_starts : MS :=
  (sSeq (sSet 4 (eArgs (callF F_p_pipes_at) (aCons (eVar 0) (aCons (eC (.int 1)) (aCons (eArgs bLen (aCons (eVar 1) aNil)) aNil)))))
    (sSeq (sSet 5 (eLc [12] (.nm 12) (iSeq (eVar 1)) J.tYes V1_p_starts))
    (sSeq (sForN (.nm 6) (iSeq (eOp oMulQ (eVar 3) (eArgs (callF F_p_least_word) (aCons (eVar 0) (aCons (eVar 1) aNil))))) B3_p_starts)
    (sRet (eVar 5)))))
def F_p_starts : MF := fnF 4 13 S_p_starts

def V1_p_start_times : ME :=
  (eArgs bTuple (aCons (eVar 4) aNil))
def S_p_start_times : MS :=
  (sSeq (sSet 3 (eArgs (callF F_p_unrolled_counts) (aCons (eVar 0) aNil)))
    (sSeq (sExpr (eArgs (callF F_p_check_times) (aCons (eVar 0) (aCons (eVar 1) aNil))))
    (sSeq (sExpr (eArgs (callF F_p_check_rounds) (aCons (eVar 2) aNil)))
    (sRet (eArgs bTuple (aCons (eLc [4] (.nm 4) (iSeq (eArgs (callF F_p_starts) (aCons (eOp oIx (eVar 0) (eC (.int 1))) (aCons (eVar 3) (aCons (eVar 1) (aCons (eVar 2) aNil)))))) J.tYes V1_p_start_times) aNil))))))
def F_p_start_times : MF := fnF 3 5 S_p_start_times

def V1_p_first_time : ME :=
  (eOp oAdd (eOp oIx (eVar 3) (eUn oNeg (eC (.int 1)))) (eVar 4))
def S_p_first_time : MS :=
  (sSeq (sSet 2 (eArgs (callF F_p_start_times) (aCons (eVar 0) (aCons (eVar 1) (aCons (eC (.int 1)) aNil)))))
    (sRet (eArgs bMax1 (aCons (eLc [3, 4] (.tp [(.nm 3), (.nm 4)]) (J.iZip (eVar 2) (eVar 1)) J.tYes V1_p_first_time) aNil))))
def F_p_first_time : MF := fnF 2 5 S_p_first_time

def B1_p_slow_ring : MS :=
  (sIf (tOr (tV (eUn oIsN (eVar 2))) (tTr (eArgs (callF F_p_is_greater) (aCons (eArgs (callF F_p_ring_mean) (aCons (eVar 3) (aCons (eVar 1) aNil))) (aCons (eArgs (callF F_p_ring_mean) (aCons (eVar 2) (aCons (eVar 1) aNil))) aNil))))) (sSet 2 (eVar 3)) sNext)
def S_p_slow_ring : MS :=
  (sSeq (sSet 2 (eC .non))
    (sSeq (sFor (.nm 3) (iSeq (eArgs (callF F_p_knot_rings) (aCons (eVar 0) (aCons (eVar 1) aNil)))) B1_p_slow_ring)
    (sRet (eVar 2))))
def F_p_slow_ring : MF := fnF 2 4 S_p_slow_ring

def S_p_mean_time : MS :=
  (sRet (eArgs (callF F_p_ring_mean) (aCons (eArgs (callF F_p_slow_ring) (aCons (eVar 0) (aCons (eVar 1) aNil))) (aCons (eVar 1) aNil))))
def F_p_mean_time : MF := fnF 2 2 S_p_mean_time

def V1_p_even_gap : ME :=
  (eOp oSub (eVar 4) (eVar 3))
def S_p_even_gap : MS :=
  (sSeq (sSet 2 (eLc [3, 4] (.tp [(.nm 3), (.nm 4)]) (J.iZip (eVar 0) (eVar 1)) J.tYes V1_p_even_gap))
    (sRet (eIf (tV (eOp oEq (eMeth mCountI (eVar 2) (aCons (eOp oIx (eVar 2) (eC (.int 0))) aNil)) (eArgs bLen (aCons (eVar 2) aNil)))) (eOp oIx (eVar 2) (eC (.int 0))) (eC .non))))
def F_p_even_gap : MF := fnF 2 5 S_p_even_gap

def B1_p_round_rows : MS :=
  (sExpr (eMeth mExtendS (eVar 6) (aCons (eSl (eOp oIx (eVar 3) (eVar 7)) (some (eOp oMul (eVar 5) (eVar 8))) (some (eOp oMul (eOp oAdd (eVar 5) (eC (.int 1))) (eVar 8)))) aNil)))
def B2_p_round_rows : MS :=
  (sSeq (sSet 6 (eArgs bLstL aNil))
    (sSeq (sForN (.tp [(.nm 7), (.nm 8)]) (J.iEnum (eVar 1)) B1_p_round_rows)
    (sExpr (eMeth mAppend (eVar 4) (aCons (eVar 6) aNil)))))
def S_p_round_rows : MS :=
  (sSeq (sSet 3 (eArgs (callF F_p_starts) (aCons (eOp oIx (eVar 0) (eC (.int 1))) (aCons (eVar 1) (aCons (eVar 2) (aCons (eC (.int 60)) aNil))))))
    (sSeq (sSet 4 (eArgs bLstL aNil))
    (sSeq (sForN (.nm 5) (iRng1 (eC (.int 60))) B2_p_round_rows)
    (sRet (eVar 4)))))
def F_p_round_rows : MF := fnF 3 9 S_p_round_rows

def V1_p_settled : ME :=
  (eVar 10)
def V2_p_settled : ME :=
  (eArgs (callF F_p_even_gap) (aCons (eOp oIx (eVar 3) (eVar 11)) (aCons (eOp oIx (eVar 3) (eOp oAdd (eVar 11) (eVar 5))) aNil)))
def B3_p_settled : MS :=
  (sSeq (sSet 8 (eOp oIx (eVar 6) (eVar 7)))
    (sIf (tAnd (tV (eUn oNotN (eVar 8))) (tV (eOp oEq (eMeth mCountI (eSl (eVar 6) (some (eVar 7)) (some (eOp oAdd (eVar 7) (eVar 4)))) (aCons (eVar 8) aNil)) (eVar 4)))) (sRet (eArgs bTup (aCons (eVar 7) (aCons (eVar 5) (aCons (eVar 8) aNil))))) sNext))
def B4_p_settled : MS :=
  (sSeq (sSet 6 (eLc [11] (.nm 11) (iRng1 (eOp oSub (eC (.int 60)) (eVar 5))) J.tYes V2_p_settled))
    (sFor (.nm 7) (iRng1 (eOp oAdd (eOp oSub (eOp oSub (eC (.int 60)) (eVar 4)) (eVar 5)) (eC (.int 1)))) B3_p_settled))
def S_p_settled : MS :=
  (sSeq (sSet 2 (eArgs (callF F_p_unrolled_counts) (aCons (eVar 0) aNil)))
    (sSeq (sExpr (eArgs (callF F_p_check_times) (aCons (eVar 0) (aCons (eVar 1) aNil))))
    (sSeq (sSet 3 (eArgs (callF F_p_round_rows) (aCons (eVar 0) (aCons (eVar 2) (aCons (eVar 1) aNil)))))
    (sSeq (sSet 4 (eArgs bMax1 (aCons (eLc [9, 10] (.tp [(.nm 9), (.nm 9), (.nm 10)]) (iSeq (eArgs (callF F_p_all_steps) (aCons (eVar 0) (aCons (eVar 2) aNil)))) J.tYes V1_p_settled) aNil)))
    (sSeq (sFor (.nm 5) (iRng2 (eC (.int 1)) (eOp oAdd (eOp oSub (eC (.int 60)) (eVar 4)) (eC (.int 1)))) B4_p_settled)
    (sRet (eC .non)))))))
def F_p_settled : MF := fnF 2 12 S_p_settled

def V1_p_is_like_step : ME :=
  (eArgs (callF F_p_is_whole) (aCons (eVar 1) aNil))
def S_p_is_like_step : MS :=
  (sSeq (sIf (tOr (tNot (tTr (eArgs (callF F_p_is_row) (aCons (eVar 0) (aCons (eC (.int 3)) aNil))))) (tOr (tNot (tTr (eArgs (callF F_p_is_row) (aCons (eOp oIx (eVar 0) (eC (.int 0))) (aCons (eC (.int 2)) aNil))))) (tNot (tTr (eArgs (callF F_p_is_row) (aCons (eOp oIx (eVar 0) (eC (.int 1))) (aCons (eC (.int 2)) aNil))))))) (sRet (eC (.bl false))) sNext)
    (sRet (eArgs bAll (aCons (eLc [1] (.nm 1) (iSeq (eOp oAdd (eOp oAdd (eOp oIx (eVar 0) (eC (.int 0))) (eOp oIx (eVar 0) (eC (.int 1)))) (eSl (eVar 0) (some (eC (.int 2))) none))) J.tYes V1_p_is_like_step) aNil))))
def F_p_is_like_step : MF := fnF 1 2 S_p_is_like_step

def V1_p_is_ring : ME :=
  (eVar 3)
def V2_p_is_ring : ME :=
  (eC (.bl true))
def V3_p_is_ring : ME :=
  (eAnd (eArgs (callF F_p_is_like_step) (aCons (eVar 3) aNil)) (eOp oInN (eVar 3) (eVar 2)))
def V4_p_is_ring : ME :=
  (eOp oEq (eOp oIx (eOp oIx (eVar 1) (eOp oSub (eVar 4) (eC (.int 1)))) (eC (.int 1))) (eOp oIx (eOp oIx (eVar 1) (eVar 4)) (eC (.int 0))))
def S_p_is_ring : MS :=
  (sSeq (sIf (tOr (tNot (tTr (eUn (oIsi ["tuple"]) (eVar 1)))) (tNot (tTr (eVar 1)))) (sRet (eC (.bl false))) sNext)
    (sSeq (sSet 2 (eDcX insN emN [3] (.nm 3) (iSeq (eVar 0)) V1_p_is_ring V2_p_is_ring))
    (sSeq (sIf (tNot (tTr (eArgs bAll (aCons (eLc [3] (.nm 3) (iSeq (eVar 1)) J.tYes V3_p_is_ring) aNil)))) (sRet (eC (.bl false))) sNext)
    (sRet (eArgs bAll (aCons (eLc [4] (.nm 4) (iRng1 (eArgs bLen (aCons (eVar 1) aNil))) J.tYes V4_p_is_ring) aNil))))))
def F_p_is_ring : MF := fnF 2 5 S_p_is_ring

def S_p_shows_slow_ring : MS :=
  (sSeq (sSet 3 (eArgs (callF F_p_mean_time) (aCons (eVar 0) (aCons (eVar 1) aNil))))
    (sRet (eAnd (eArgs (callF F_p_is_ring) (aCons (eArgs (callF F_p_all_steps) (aCons (eVar 0) (aCons (eArgs (callF F_p_unrolled_counts) (aCons (eVar 0) aNil)) aNil))) (aCons (eVar 2) aNil))) (eOp oEq (eArgs (callF F_p_ring_mean) (aCons (eVar 2) (aCons (eVar 1) aNil))) (eVar 3)))))
def F_p_shows_slow_ring : MF := fnF 3 4 S_p_shows_slow_ring

def R_p_law : MS :=
  (sSeq (sAsg (.tp [(.nm 2), (.nm 3)]) (eArgs bTup (aCons (eArgs bTup (aCons (eC (.int 2)) (aCons (eArgs bTup (aCons (eArgs bTup (aCons (eC (.int 0)) (aCons (eC (.int 1)) (aCons (eC (.int 2)) (aCons (eC (.int 3)) (aCons (eC (.int 1)) aNil)))))) aNil)) aNil))) (aCons (eArgs bTup (aCons (eC (.int 2)) (aCons (eArgs bTup (aCons (eArgs bTup (aCons (eC (.int 0)) (aCons (eC (.int 1)) (aCons (eC (.int 1)) (aCons (eC (.int 1)) (aCons (eC (.int 0)) aNil)))))) (aCons (eArgs bTup (aCons (eC (.int 1)) (aCons (eC (.int 0)) (aCons (eC (.int 1)) (aCons (eC (.int 1)) (aCons (eC (.int 1)) aNil)))))) aNil))) aNil))) aNil))))
    (sSeq (sSet 4 (eArgs bLst (aCons (eArgs (callF F_p_firings) (aCons (eVar 2) aNil)) (aCons (eArgs (callF F_p_needs) (aCons (eVar 2) aNil)) (aCons (eArgs (callF F_p_needs) (aCons (eVar 3) aNil)) (aCons (eArgs (callF F_p_needs) (aCons (eArgs bTup (aCons (eC (.int 1)) (aCons (eArgs bTup aNil) aNil))) aNil)) (aCons (eArgs (callF F_p_needs) (aCons (eArgs bTup (aCons (eC (.int 1)) (aCons (eArgs bTup (aCons (eArgs bTup (aCons (eC (.int 0)) (aCons (eC (.int 0)) (aCons (eC (.int 1)) (aCons (eC (.int 1)) (aCons (eC (.int 2)) aNil)))))) aNil)) aNil))) aNil)) aNil)))))))
    (sSeq (sSet 5 (eArgs bLst (aCons (eArgs bTup (aCons (eArgs bTup (aCons (eC (.int 0)) (aCons (eC (.int 0)) aNil))) (aCons (eArgs bTup (aCons (eC (.int 0)) (aCons (eC (.int 1)) aNil))) (aCons (eArgs bTup (aCons (eC (.int 0)) (aCons (eC (.int 2)) aNil))) (aCons (eArgs bTup (aCons (eC (.int 1)) (aCons (eC (.int 0)) aNil))) (aCons (eArgs bTup (aCons (eC (.int 1)) (aCons (eC (.int 1)) aNil))) aNil)))))) (aCons (eArgs bTup (aCons (eArgs bTup (aCons (eArgs bTup (aCons (eC (.int 0)) (aCons (eC (.int 0)) aNil))) (aCons (eArgs bTup (aCons (eC (.int 1)) (aCons (eC (.int 0)) aNil))) (aCons (eC (.int 0)) aNil)))) (aCons (eArgs bTup (aCons (eArgs bTup (aCons (eC (.int 0)) (aCons (eC (.int 2)) aNil))) (aCons (eArgs bTup (aCons (eC (.int 1)) (aCons (eC (.int 1)) aNil))) (aCons (eC (.int 0)) aNil)))) aNil))) aNil))))
    (sSeq (sSet 5 (eOp oAdd (eVar 5) (eArgs bLst (aCons (eArgs bTup (aCons (eArgs bTup (aCons (eArgs bTup (aCons (eC (.int 0)) (aCons (eC (.int 0)) aNil))) (aCons (eArgs bTup (aCons (eC (.int 1)) (aCons (eC (.int 0)) aNil))) (aCons (eC (.int 0)) aNil)))) (aCons (eArgs bTup (aCons (eArgs bTup (aCons (eC (.int 1)) (aCons (eC (.int 0)) aNil))) (aCons (eArgs bTup (aCons (eC (.int 0)) (aCons (eC (.int 0)) aNil))) (aCons (eC (.int 1)) aNil)))) aNil))) (aCons (eArgs bTup aNil) (aCons (eArgs bTup (aCons (eArgs bTup (aCons (eArgs bTup (aCons (eC (.int 0)) (aCons (eC (.int 0)) aNil))) (aCons (eArgs bTup (aCons (eC (.int 0)) (aCons (eC (.int 0)) aNil))) (aCons (eC (.int 2)) aNil)))) aNil)) aNil))))))
    (sSeq (sIf (tNot (tTr (eArgs (callF (F_p_law_alike 8)) (aCons (eVar 4) (aCons (eVar 5) aNil))))) (sRet (eC (.bl false))) sNext)
    (sSeq (sSet 4 (eArgs bLst (aCons (eArgs (callF F_p_start_times) (aCons (eVar 2) (aCons (eArgs bTup (aCons (eC (.int 2)) (aCons (eC (.int 5)) aNil))) (aCons (eC (.int 1)) aNil)))) (aCons (eArgs (callF F_p_first_time) (aCons (eVar 2) (aCons (eArgs bTup (aCons (eC (.int 2)) (aCons (eC (.int 5)) aNil))) aNil))) (aCons (eArgs (callF F_p_mean_time) (aCons (eVar 2) (aCons (eArgs bTup (aCons (eC (.int 2)) (aCons (eC (.int 5)) aNil))) aNil))) aNil)))))
    (sSeq (sSet 4 (eOp oAdd (eVar 4) (eArgs bLst (aCons (eArgs (callF F_p_box_means) (aCons (eVar 2) (aCons (eArgs bTup (aCons (eC (.int 2)) (aCons (eC (.int 5)) aNil))) aNil))) (aCons (eArgs (callF F_p_mean_time) (aCons (eVar 2) (aCons (eArgs bTup (aCons (eC (.int 5)) (aCons (eC (.int 2)) aNil))) aNil))) (aCons (eArgs (callF F_p_box_means) (aCons (eVar 2) (aCons (eArgs bTup (aCons (eC (.int 5)) (aCons (eC (.int 2)) aNil))) aNil))) aNil))))))
    (sSeq (sIf (tNot (tTr (eArgs (callF (F_p_law_alike 8)) (aCons (eVar 4) (aCons (eArgs bLst (aCons (eArgs bTup (aCons (eArgs bTup (aCons (eC (.int 0)) (aCons (eC (.int 2)) (aCons (eC (.int 4)) aNil)))) (aCons (eArgs bTup (aCons (eC (.int 2)) (aCons (eC (.int 7)) aNil))) aNil))) (aCons (eC (.int 12)) (aCons (eArgs bTup (aCons (eC (.int 10)) (aCons (eC (.int 1)) aNil))) (aCons (eArgs bTup (aCons (eArgs bTup (aCons (eC (.int 6)) (aCons (eC (.int 1)) aNil))) (aCons (eArgs bTup (aCons (eC (.int 10)) (aCons (eC (.int 1)) aNil))) aNil))) (aCons (eArgs bTup (aCons (eC (.int 15)) (aCons (eC (.int 1)) aNil))) (aCons (eArgs bTup (aCons (eArgs bTup (aCons (eC (.int 15)) (aCons (eC (.int 1)) aNil))) (aCons (eArgs bTup (aCons (eC (.int 15)) (aCons (eC (.int 1)) aNil))) aNil))) aNil))))))) aNil))))) (sRet (eC (.bl false))) sNext)
    (sSeq (sSet 4 (eArgs bLst (aCons (eArgs (callF F_p_mean_time) (aCons (eVar 3) (aCons (eArgs bTup (aCons (eC (.int 3)) (aCons (eC (.int 4)) aNil))) aNil))) (aCons (eArgs (callF F_p_slow_ring) (aCons (eVar 3) (aCons (eArgs bTup (aCons (eC (.int 3)) (aCons (eC (.int 4)) aNil))) aNil))) (aCons (eArgs (callF F_p_settled) (aCons (eVar 3) (aCons (eArgs bTup (aCons (eC (.int 3)) (aCons (eC (.int 4)) aNil))) aNil))) aNil)))))
    (sSeq (sSet 4 (eOp oAdd (eVar 4) (eArgs bLst (aCons (eArgs (callF F_p_start_times) (aCons (eVar 3) (aCons (eArgs bTup (aCons (eC (.int 3)) (aCons (eC (.int 4)) aNil))) (aCons (eC (.int 2)) aNil)))) (aCons (eArgs (callF F_p_settled) (aCons (eVar 2) (aCons (eArgs bTup (aCons (eC (.int 2)) (aCons (eC (.int 5)) aNil))) aNil))) (aCons (eArgs (callF F_p_settled) (aCons (eVar 2) (aCons (eArgs bTup (aCons (eC (.int 5)) (aCons (eC (.int 3)) aNil))) aNil))) aNil))))))
    (sSeq (sSet 6 (eArgs bTup (aCons (eArgs bTup (aCons (eArgs bTup (aCons (eC (.int 0)) (aCons (eC (.int 0)) aNil))) (aCons (eArgs bTup (aCons (eC (.int 1)) (aCons (eC (.int 0)) aNil))) (aCons (eC (.int 0)) aNil)))) (aCons (eArgs bTup (aCons (eArgs bTup (aCons (eC (.int 1)) (aCons (eC (.int 0)) aNil))) (aCons (eArgs bTup (aCons (eC (.int 0)) (aCons (eC (.int 0)) aNil))) (aCons (eC (.int 1)) aNil)))) aNil))))
    (sSeq (sIf (tNot (tTr (eArgs (callF (F_p_law_alike 8)) (aCons (eOp oAdd (eArgs bLst (aCons (eOp oIx (eVar 4) (eC (.int 0))) aNil)) (eSl (eVar 4) (some (eC (.int 2))) none)) (aCons (eArgs bLst (aCons (eArgs bTup (aCons (eC (.int 7)) (aCons (eC (.int 1)) aNil))) (aCons (eArgs bTup (aCons (eC (.int 0)) (aCons (eC (.int 1)) (aCons (eC (.int 7)) aNil)))) (aCons (eArgs bTup (aCons (eArgs bTup (aCons (eC (.int 0)) (aCons (eC (.int 7)) aNil))) (aCons (eArgs bTup (aCons (eC (.int 3)) (aCons (eC (.int 10)) aNil))) aNil))) (aCons (eC .non) (aCons (eArgs bTup (aCons (eC (.int 0)) (aCons (eC (.int 1)) (aCons (eC (.int 15)) aNil)))) aNil)))))) aNil))))) (sRet (eC (.bl false))) sNext)
    (sSeq (sIf (tV (eOp oNin (eOp oIx (eVar 4) (eC (.int 1))) (eArgs bLst (aCons (eVar 6) (aCons (eRev (eVar 6)) aNil))))) (sRet (eC (.bl false))) sNext)
    (sSeq (sSet 7 (eArgs bTup (aCons (eC (.int 2)) (aCons (eArgs bTup (aCons (eArgs bTup (aCons (eC (.int 0)) (aCons (eC (.int 1)) (aCons (eC (.int 1)) (aCons (eC (.int 1)) (aCons (eC (.int 0)) aNil)))))) (aCons (eArgs bTup (aCons (eC (.int 1)) (aCons (eC (.int 0)) (aCons (eC (.int 1)) (aCons (eC (.int 1)) (aCons (eC (.int 2)) aNil)))))) aNil))) aNil))))
    (sSeq (sSet 4 (eArgs bLst (aCons (eArgs (callF F_p_mean_time) (aCons (eVar 7) (aCons (eArgs bTup (aCons (eC (.int 3)) (aCons (eC (.int 4)) aNil))) aNil))) (aCons (eArgs (callF F_p_mean_time) (aCons (eVar 7) (aCons (eArgs bTup (aCons (eC (.int 3)) (aCons (eC (.int 3)) aNil))) aNil))) aNil))))
    (sSeq (sSet 4 (eOp oAdd (eVar 4) (eArgs bLst (aCons (eArgs (callF F_p_shows_slow_ring) (aCons (eVar 7) (aCons (eArgs bTup (aCons (eC (.int 3)) (aCons (eC (.int 4)) aNil))) (aCons (eArgs bTup (aCons (eArgs bTup (aCons (eArgs bTup (aCons (eC (.int 1)) (aCons (eC (.int 0)) aNil))) (aCons (eArgs bTup (aCons (eC (.int 1)) (aCons (eC (.int 0)) aNil))) (aCons (eC (.int 1)) aNil)))) aNil)) aNil)))) (aCons (eArgs (callF F_p_shows_slow_ring) (aCons (eVar 7) (aCons (eArgs bTup (aCons (eC (.int 3)) (aCons (eC (.int 4)) aNil))) (aCons (eVar 6) aNil)))) aNil)))))
    (sSeq (sSet 4 (eOp oAdd (eVar 4) (eArgs bLst (aCons (eArgs (callF F_p_mean_time) (aCons (eArgs bTup (aCons (eC (.int 1)) (aCons (eArgs bTup (aCons (eArgs bTup (aCons (eC (.int 0)) (aCons (eC (.int 0)) (aCons (eC (.int 1)) (aCons (eC (.int 1)) (aCons (eC (.int 2)) aNil)))))) aNil)) aNil))) (aCons (eArgs bTup (aCons (eC (.int 7)) aNil)) aNil))) aNil))))
    (sRet (eArgs (callF (F_p_law_alike 8)) (aCons (eVar 4) (aCons (eArgs bLst (aCons (eArgs bTup (aCons (eC (.int 4)) (aCons (eC (.int 1)) aNil))) (aCons (eArgs bTup (aCons (eC (.int 3)) (aCons (eC (.int 1)) aNil))) (aCons (eC (.bl true)) (aCons (eC (.bl false)) (aCons (eArgs bTup (aCons (eC (.int 7)) (aCons (eC (.int 1)) aNil))) aNil)))))) aNil)))))))))))))))))))))
def A_p_law : MS :=
  (sDrop [0, 1] (sSet 1 (eArgs bLst (aCons (eVar 0) (aCons (eC (.int 0)) (aCons (eC (.int 9851)) (aCons (eC (.int 0)) aNil)))))))
def S_p_law : MS :=
  (sSeq A_p_law R_p_law)
def F_p_law : MF := fnF 1 8 S_p_law
end K51
set_option Elab.async false
set_option linter.all false
set_option maxRecDepth 100000
set_option maxHeartbeats 4000000
namespace K51
open PySem PySem.Spec PyProof.Rows L2 J
def topS (i : Nat) : Stmt := PySem.Challenge.pw_rateflows_k51_known_speed.main.body.getD i (.Pass ⟨0, 0, 0, 0⟩)
def clsS (i j : Nat) : Stmt := match topS i with
  | .ClassDef (body := b) .. => b.getD j (.Pass ⟨0, 0, 0, 0⟩)
  | s => s
structure Top (K : PySem.W.Frag) (mg : Str → Option Value) : Prop where
  all : mg "all" = none
  any : mg "any" = none
  bool : mg "bool" = none
  enumerate : mg "enumerate" = none
  int : mg "int" = none
  isinstance : mg "isinstance" = none
  len : mg "len" = none
  list : mg "list" = none
  max : mg "max" = none
  min : mg "min" = none
  range : mg "range" = none
  sorted : mg "sorted" = none
  str : mg "str" = none
  sum : mg "sum" = none
  tuple : mg "tuple" = none
  zip : mg "zip" = none
  c_MOST_BOXES : ∃ t, mg "MOST_BOXES" = some (.int 8 t)
  c_MOST_DURATION : ∃ t, mg "MOST_DURATION" = some (.int 99 t)
  c_MOST_FIRINGS : ∃ t, mg "MOST_FIRINGS" = some (.int 2000 t)
  c_MOST_PIPES : ∃ t, mg "MOST_PIPES" = some (.int 16 t)
  c_MOST_RATE : ∃ t, mg "MOST_RATE" = some (.int 999 t)
  c_MOST_ROUNDS : ∃ t, mg "MOST_ROUNDS" = some (.int 60 t)
  c_MOST_TOKENS : ∃ t, mg "MOST_TOKENS" = some (.int 99999 t)
  c_MOST_UNROLLED : ∃ t, mg "MOST_UNROLLED" = some (.int 120 t)
  gcd : mg "gcd" = some (.builtin "math.gcd")
  lcm : mg "lcm" = some (.builtin "math.lcm")
section
variable {P : Program} {wd : World} {K : PySem.W.Frag} {mg : Str → Option Value} {base : Heap}
abbrev st_p_law_alike : Stmt := topS 81
abbrev N_p_law_alike : List Str := ["found", "due", "k"]
theorem sc_p_law_alike : FnScope N_p_law_alike ["found", "due"] (defScope st_p_law_alike) := ⟨rfl, rfl, rfl, by decide +kernel, rfl, by decide +kernel, by decide +kernel⟩
theorem okS_p_law_alike {f : Addr} {fd : FuncData} (F : Fun K "_law_alike" "_law_alike" st_p_law_alike f fd) (hm : mg "_law_alike" = some (.ref f)) (b : Binds K fd ["found", "due"] []) (T : Top K mg)  (n : Nat) (R : MF) (H_p_law_alike : Fok P wd ⟨K, mg⟩ base (n + 1) "_law_alike" 2 R) : Fok P wd ⟨K, mg⟩ base (n + 1 + 1) "_law_alike" 2 (fnF 2 3 (S_p_law_alike R)) :=
  fok_of (N := N_p_law_alike) F sc_p_law_alike hm b (fun cdv A outer s H E c =>
    (ds_cons (ds_if (dt_truth (jc_isi2 (by decide) (by decide) (de_var (pv 1)) (pe_bltn (v := .ty "tuple") (by rfl) T.tuple (by decide +kernel) rfl) (pe_bltn (v := .ty "list") (by rfl) T.list (by decide +kernel) rfl) (by rfl) T.isinstance)) (ds_cons (ds_if (PW.pt (dw_or (dt_not (dt_truth (jc_isi2 (by decide) (by decide) (de_var (pv 0)) (pe_bltn (v := .ty "tuple") (by rfl) T.tuple (by decide +kernel) rfl) (pe_bltn (v := .ty "list") (by rfl) T.list (by decide +kernel) rfl) (by rfl) T.isinstance))) (dw_or1 (dt_cmp (jo_ne c.u64) (jc_isi (x := "isinstance") (by decide) (de_var (pv 0)) (pe_bltn (v := .ty "list") (by rfl) T.list (by decide +kernel) rfl) (by rfl) T.isinstance) (jc_isi (x := "isinstance") (by decide) (de_var (pv 1)) (pe_bltn (v := .ty "list") (by rfl) T.list (by decide +kernel) rfl) (by rfl) T.isinstance) (nomark _))))) (ds_one (ds_ret de_bl)) ds_nil)
    (ds_cons (ds_if (dt_cmp (jo_ne c.u64) (de_callB jc_len (by rfl) T.len (by decide +kernel) (da_cons (de_var (pv 0)) da_nil)) (de_callB jc_len (by rfl) T.len (by decide +kernel) (da_cons (de_var (pv 1)) da_nil)) (nomark _)) (ds_one (ds_ret de_bl)) ds_nil)
    (ds_one (ds_ret (de_cmp (jo_eq c.u64) (de_lc (own := [("k", 2)]) (by decide) (.inl rfl) (pe_lc (own := [("k", 2)]) c.calm sc_p_law_alike.nd (di_rng1 (by rfl) T.range (da_cons (de_callB jc_len (by rfl) T.len (by decide +kernel) (da_cons (de_var (pv 1)) da_nil)) da_nil)) (blkOk_by (N := N_p_law_alike) (sc := defScope st_p_law_alike) (by decide +kernel)) (fun _ _ _ _ _ => (dg_name (pg_name (i := 2) sc_p_law_alike.nd rfl (Or.inl rfl)))) (fun _ _ _ _ _ => (dts_one (dt_not (dt_truth (de_call H_p_law_alike (by omega) (c.blk _ _ _ _ _).hr (c.blk _ _ _ _ _).tk (by rfl) (by rfl) (da_cons (de_ix (jo_ix (c.blk _ _ _ _ _).u1) (de_var (pv 0)) (de_var (pv 2)) (fun _ _ => rfl)) (da_cons (de_ix (jo_ix (c.blk _ _ _ _ _).u1) (de_var (pv 1)) (de_var (pv 2)) (fun _ _ => rfl)) da_nil)) (hlen := (alen_cons (alen_cons alen_nil)))))))) (fun _ _ _ _ _ => (de_var (pv 2))))) (de_lst da_nil) (nomark _)))))) ds_nil)
    (ds_cons (ds_if (PW.pt (dw_or (dt_isN (de_var (pv 1))) (dw_or1 (dt_truth (jc_isi (x := "isinstance") (by decide) (de_var (pv 1)) (pe_bltn (v := .ty "str") (by rfl) T.str (by decide +kernel) rfl) (by rfl) T.isinstance))))) (ds_one (ds_ret (de_and (de_cmp (jo_eq c.u64) (de_var (pv 0)) (de_var (pv 1)) (nomark _)) (de_one (de_cmp (jo_eq c.u64) (jc_isi (x := "isinstance") (by decide) (de_var (pv 0)) (pe_bltn (v := .ty "str") (by rfl) T.str (by decide +kernel) rfl) (by rfl) T.isinstance) (jc_isi (x := "isinstance") (by decide) (de_var (pv 1)) (pe_bltn (v := .ty "str") (by rfl) T.str (by decide +kernel) rfl) (by rfl) T.isinstance) (nomark _)))))) ds_nil)
    (ds_one (ds_ret (de_and (jc_isi (x := "isinstance") (by decide) (de_var (pv 0)) (pe_bltn (v := .ty "int") (by rfl) T.int (by decide +kernel) rfl) (by rfl) T.isinstance) (de_and (de_cmp (jo_eq c.u64) (jc_isi (x := "isinstance") (by decide) (de_var (pv 0)) (pe_bltn (v := .ty "bool") (by rfl) T.bool (by decide +kernel) rfl) (by rfl) T.isinstance) (jc_isi (x := "isinstance") (by decide) (de_var (pv 1)) (pe_bltn (v := .ty "bool") (by rfl) T.bool (by decide +kernel) rfl) (by rfl) T.isinstance) (nomark _)) (de_one (de_cmp (jo_eq c.u64) (de_var (pv 0)) (de_var (pv 1)) (nomark _))))))))))
theorem okA_p_law_alike {f : Addr} {fd : FuncData} (F : Fun K "_law_alike" "_law_alike" st_p_law_alike f fd) (hm : mg "_law_alike" = some (.ref f)) (b : Binds K fd ["found", "due"] []) (T : Top K mg)  : ∀ n : Nat, Fok P wd ⟨K, mg⟩ base (n + 1) "_law_alike" 2 (F_p_law_alike n)
  | 0 => (fok_of (N := N_p_law_alike) (k := 0) F sc_p_law_alike hm b (fun cdv A outer s H E c => dss_never)).mono (by decide)
  | n + 1 => (okS_p_law_alike F hm b T  n _ (okA_p_law_alike F hm b T  n)).mono (by omega)
theorem ok_p_law_alike {f : Addr} {fd : FuncData} (F : Fun K "_law_alike" "_law_alike" st_p_law_alike f fd) (hm : mg "_law_alike" = some (.ref f)) (b : Binds K fd ["found", "due"] []) (T : Top K mg)  : Fok P wd ⟨K, mg⟩ base 9 "_law_alike" 2 (F_p_law_alike 8) :=
  okA_p_law_alike F hm b T  8
abbrev st_p_is_greater : Stmt := topS 61
abbrev N_p_is_greater : List Str := ["mean", "other"]
theorem sc_p_is_greater : FnScope N_p_is_greater ["mean", "other"] (defScope st_p_is_greater) := ⟨rfl, rfl, rfl, by decide +kernel, rfl, by decide +kernel, by decide +kernel⟩
theorem ok_p_is_greater {f : Addr} {fd : FuncData} (F : Fun K "is_greater" "is_greater" st_p_is_greater f fd) (hm : mg "is_greater" = some (.ref f)) (b : Binds K fd ["mean", "other"] []) (T : Top K mg)  : Fok P wd ⟨K, mg⟩ base 1 "is_greater" 2 F_p_is_greater :=
  fok_of (N := N_p_is_greater) F sc_p_is_greater hm b (fun cdv A outer s H E c =>
    (ds_one (ds_ret (de_cmp jo_gt (de_op jo_mul (de_ix (jo_ix c.u1) (de_var (pv 0)) de_int (fun _ _ => rfl)) (de_ix (jo_ix c.u1) (de_var (pv 1)) de_int (fun _ _ => rfl))) (de_op jo_mul (de_ix (jo_ix c.u1) (de_var (pv 1)) de_int (fun _ _ => rfl)) (de_ix (jo_ix c.u1) (de_var (pv 0)) de_int (fun _ _ => rfl))) (nomark _)))))
abbrev st_p_last_needed : Stmt := topS 57
abbrev N_p_last_needed : List Str := ["pipe", "number", "_", "give", "eat", "start"]
theorem sc_p_last_needed : FnScope N_p_last_needed ["pipe", "number"] (defScope st_p_last_needed) := ⟨rfl, rfl, rfl, by decide +kernel, rfl, by decide +kernel, by decide +kernel⟩
theorem ok_p_last_needed {f : Addr} {fd : FuncData} (F : Fun K "last_needed" "last_needed" st_p_last_needed f fd) (hm : mg "last_needed" = some (.ref f)) (b : Binds K fd ["pipe", "number"] []) (T : Top K mg)  : Fok P wd ⟨K, mg⟩ base 1 "last_needed" 2 F_p_last_needed :=
  fok_of (N := N_p_last_needed) F sc_p_last_needed hm b (fun cdv A outer s H E c =>
    (ds_cons (ds_asg (de_var (pv 0)) (dg_tup c.calm (dg_cons (dg_name (pg_name (i := 2) sc_p_last_needed.nd rfl (Or.inl rfl))) (dg_cons (dg_name (pg_name (i := 2) sc_p_last_needed.nd rfl (Or.inl rfl))) (dg_cons (dg_name (pg_name (i := 3) sc_p_last_needed.nd rfl (Or.inl rfl))) (dg_cons (dg_name (pg_name (i := 4) sc_p_last_needed.nd rfl (Or.inl rfl))) (dg_cons (dg_name (pg_name (i := 5) sc_p_last_needed.nd rfl (Or.inl rfl))) dg_nil)))))))
    (ds_one (ds_ret (de_op jo_div (de_op jo_sub (de_op jo_sub (de_op jo_mul (de_op jo_add (de_var (pv 1)) de_int) (de_var (pv 4))) (de_var (pv 5))) de_int) (de_var (pv 3)))))))
abbrev st_p_firings_in_a_row : Stmt := topS 37
abbrev N_p_firings_in_a_row : List Str := ["pipes", "held", "entries", "most", "many", "place", "one", "other", "give", "eat", "_", "loss"]
theorem sc_p_firings_in_a_row : FnScope N_p_firings_in_a_row ["pipes", "held", "entries", "most"] (defScope st_p_firings_in_a_row) := ⟨rfl, rfl, rfl, by decide +kernel, rfl, by decide +kernel, by decide +kernel⟩
theorem ok_p_firings_in_a_row {f : Addr} {fd : FuncData} (F : Fun K "firings_in_a_row" "firings_in_a_row" st_p_firings_in_a_row f fd) (hm : mg "firings_in_a_row" = some (.ref f)) (b : Binds K fd ["pipes", "held", "entries", "most"] []) (T : Top K mg)  : Fok P wd ⟨K, mg⟩ base 1 "firings_in_a_row" 4 F_p_firings_in_a_row :=
  fok_of (N := N_p_firings_in_a_row) F sc_p_firings_in_a_row hm b (fun cdv A outer s H E c =>
    (ds_cons (ds_set (fun te h => ps_set (i := 4) sc_p_firings_in_a_row.nd rfl (Or.inl rfl) h) (de_var (pv 3)))
    (ds_cons (ds_for c.po c.calm (di_seq (de_var (pv 2))) (dg_name (pg_name (i := 5) sc_p_firings_in_a_row.nd rfl (Or.inl rfl))) (ds_cons (ds_asg (de_ix (jo_ix c.u1) (de_var (pv 0)) (de_var (pv 5)) (fun _ _ => rfl)) (dg_tup c.calm (dg_cons (dg_name (pg_name (i := 6) sc_p_firings_in_a_row.nd rfl (Or.inl rfl))) (dg_cons (dg_name (pg_name (i := 7) sc_p_firings_in_a_row.nd rfl (Or.inl rfl))) (dg_cons (dg_name (pg_name (i := 8) sc_p_firings_in_a_row.nd rfl (Or.inl rfl))) (dg_cons (dg_name (pg_name (i := 9) sc_p_firings_in_a_row.nd rfl (Or.inl rfl))) (dg_cons (dg_name (pg_name (i := 10) sc_p_firings_in_a_row.nd rfl (Or.inl rfl))) dg_nil)))))))
    (ds_cons (ds_if (dt_cmp jo_lt (de_ix (jo_ix c.u1) (de_var (pv 1)) (de_var (pv 5)) (fun _ _ => rfl)) (de_var (pv 9)) (nomark _)) (ds_one (ds_ret de_int)) ds_nil)
    (ds_cons (ds_set (fun te h => ps_set (i := 11) sc_p_firings_in_a_row.nd rfl (Or.inl rfl) h) (de_if (dt_cmp (jo_eq c.u64) (de_var (pv 6)) (de_var (pv 7)) (nomark _)) (de_op jo_sub (de_var (pv 9)) (de_var (pv 8))) (de_var (pv 9))))
    (ds_one (ds_if (dt_cmp jo_gt (de_var (pv 11)) de_int (nomark _)) (ds_one (ds_set (fun te h => ps_set (i := 4) sc_p_firings_in_a_row.nd rfl (Or.inl rfl) h) (de_callB (jc_min2 c.calm) (by rfl) T.min (by decide +kernel) (da_cons (de_var (pv 4)) (da_cons (de_op jo_add (de_op jo_div (de_op jo_sub (de_ix (jo_ix c.u1) (de_var (pv 1)) (de_var (pv 5)) (fun _ _ => rfl)) (de_var (pv 9))) (de_var (pv 11))) de_int) da_nil))))) ds_nil))))))
    (ds_one (ds_ret (de_var (pv 4)))))))
abbrev st_p_pipes_at : Stmt := topS 36
abbrev N_p_pipes_at : List Str := ["pipes", "end", "boxes", "rows", "place", "pipe", "_"]
theorem sc_p_pipes_at : FnScope N_p_pipes_at ["pipes", "end", "boxes"] (defScope st_p_pipes_at) := ⟨rfl, rfl, rfl, by decide +kernel, rfl, by decide +kernel, by decide +kernel⟩
theorem ok_p_pipes_at {f : Addr} {fd : FuncData} (F : Fun K "pipes_at" "pipes_at" st_p_pipes_at f fd) (hm : mg "pipes_at" = some (.ref f)) (b : Binds K fd ["pipes", "end", "boxes"] []) (T : Top K mg)  : Fok P wd ⟨K, mg⟩ base 1 "pipes_at" 3 F_p_pipes_at :=
  fok_of (N := N_p_pipes_at) F sc_p_pipes_at hm b (fun cdv A outer s H E c =>
    (ds_cons (ds_setT (ps_setLc (i := 3) (own := [("_", 6)]) c.calm sc_p_pipes_at.nd rfl rfl (sw_true rfl rfl rfl (by decide +kernel)) (di_rng1 (by rfl) T.range (da_cons (de_var (pv 2)) da_nil)) (blkOk_by (N := N_p_pipes_at) (sc := defScope st_p_pipes_at) (by decide +kernel)) (fun _ _ _ _ _ => (dg_name (pg_name (i := 6) sc_p_pipes_at.nd rfl (Or.inl rfl)))) (fun _ _ _ _ _ => dts_nil) (fun _ _ _ _ _ => (de_lstL da_nil))) (lcUse (by decide) (.inl rfl)))
    (ds_cons (ds_for c.po c.calm (di_enum (by rfl) T.enumerate (da_cons (de_var (pv 0)) da_nil)) (dg_tup c.calm (dg_cons (dg_name (pg_name (i := 4) sc_p_pipes_at.nd rfl (Or.inl rfl))) (dg_cons (dg_name (pg_name (i := 5) sc_p_pipes_at.nd rfl (Or.inl rfl))) dg_nil))) (ds_one (ds_expr (de_meth PySem.F.slot_list_append PySem.F.type_list_append jm_append (de_ix (jo_ix c.u1) (de_var (pv 3)) (de_ix (jo_ix c.u1) (de_var (pv 5)) (de_var (pv 1)) (fun _ _ => rfl)) (fun _ _ => rfl)) (da_cons (de_var (pv 4)) da_nil)))))
    (ds_one (ds_ret (de_var (pv 3)))))))
abbrev st_p_most_counts : Stmt := topS 35
abbrev N_p_most_counts : List Str := ["pipes", "counts", "exits", "entries", "held", "done", "waiting", "box", "many", "place", "pipe", "_"]
theorem sc_p_most_counts : FnScope N_p_most_counts ["pipes", "counts"] (defScope st_p_most_counts) := ⟨rfl, rfl, rfl, by decide +kernel, rfl, by decide +kernel, by decide +kernel⟩
theorem ok_p_most_counts {f : Addr} {fd : FuncData} (F : Fun K "most_counts" "most_counts" st_p_most_counts f fd) (hm : mg "most_counts" = some (.ref f)) (b : Binds K fd ["pipes", "counts"] []) (T : Top K mg) (H_p_firings_in_a_row : Fok P wd ⟨K, mg⟩ base 1 "firings_in_a_row" 4 F_p_firings_in_a_row) (H_p_pipes_at : Fok P wd ⟨K, mg⟩ base 1 "pipes_at" 3 F_p_pipes_at) : Fok P wd ⟨K, mg⟩ base 2 "most_counts" 2 F_p_most_counts :=
  fok_of (N := N_p_most_counts) F sc_p_most_counts hm b (fun cdv A outer s H E c =>
    (ds_cons (ds_set (fun te h => ps_set (i := 2) sc_p_most_counts.nd rfl (Or.inl rfl) h) (de_call H_p_pipes_at (by decide) c.hr c.tk (by rfl) (by rfl) (da_cons (de_var (pv 0)) (da_cons de_int (da_cons (de_callB jc_len (by rfl) T.len (by decide +kernel) (da_cons (de_var (pv 1)) da_nil)) da_nil))) (hlen := (alen_cons (alen_cons (alen_cons alen_nil))))))
    (ds_cons (ds_set (fun te h => ps_set (i := 3) sc_p_most_counts.nd rfl (Or.inl rfl) h) (de_call H_p_pipes_at (by decide) c.hr c.tk (by rfl) (by rfl) (da_cons (de_var (pv 0)) (da_cons de_int (da_cons (de_callB jc_len (by rfl) T.len (by decide +kernel) (da_cons (de_var (pv 1)) da_nil)) da_nil))) (hlen := (alen_cons (alen_cons (alen_cons alen_nil))))))
    (ds_cons (ds_setT (ps_setLc (i := 4) (own := [("pipe", 10)]) c.calm sc_p_most_counts.nd rfl rfl (sw_true rfl rfl rfl (by decide +kernel)) (di_seq (de_var (pv 0))) (blkOk_by (N := N_p_most_counts) (sc := defScope st_p_most_counts) (by decide +kernel)) (fun _ _ _ _ _ => (dg_name (pg_name (i := 10) sc_p_most_counts.nd rfl (Or.inl rfl)))) (fun _ _ _ _ _ => dts_nil) (fun _ _ _ _ _ => (de_ix (jo_ix (c.blk _ _ _ _ _).u1) (de_var (pv 10)) de_int (fun _ _ => rfl)))) (lcUse (by decide) (.inr rfl)))
    (ds_cons (ds_setT (ps_setLc (i := 5) (own := [("_", 11)]) c.calm sc_p_most_counts.nd rfl rfl (sw_true rfl rfl rfl (by decide +kernel)) (di_seq (de_var (pv 1))) (blkOk_by (N := N_p_most_counts) (sc := defScope st_p_most_counts) (by decide +kernel)) (fun _ _ _ _ _ => (dg_name (pg_name (i := 11) sc_p_most_counts.nd rfl (Or.inl rfl)))) (fun _ _ _ _ _ => dts_nil) (fun _ _ _ _ _ => de_int)) (lcUse (by decide) (.inr rfl)))
    (ds_cons (ds_set (fun te h => ps_set (i := 6) sc_p_most_counts.nd rfl (Or.inl rfl) h) (de_lstRgL c.calm (by rfl) T.list (by rfl) T.range (de_callB jc_len (by rfl) T.len (by decide +kernel) (da_cons (de_var (pv 1)) da_nil))))
    (ds_cons (ds_while c.po (dt_truth (de_var (pv 6))) (ds_cons (ds_set (fun te h => ps_set (i := 7) sc_p_most_counts.nd rfl (Or.inl rfl) h) (de_meth0 PySem.F.slot_list_pop PySem.F.type_list_pop jm_pop (de_var (pv 6))))
    (ds_cons (ds_set (fun te h => ps_set (i := 8) sc_p_most_counts.nd rfl (Or.inl rfl) h) (de_call H_p_firings_in_a_row (by decide) c.hr c.tk (by rfl) (by rfl) (da_cons (de_var (pv 0)) (da_cons (de_var (pv 4)) (da_cons (de_ix (jo_ix c.u1) (de_var (pv 3)) (de_var (pv 7)) (fun _ _ => rfl)) (da_cons (de_op jo_sub (de_ix (jo_ix c.u1) (de_var (pv 1)) (de_var (pv 7)) (fun _ _ => rfl)) (de_ix (jo_ix c.u1) (de_var (pv 5)) (de_var (pv 7)) (fun _ _ => rfl))) da_nil)))) (hlen := (alen_cons (alen_cons (alen_cons (alen_cons alen_nil)))))))
    (ds_cons (ds_if (dt_cmp (jo_eq c.u64) (de_var (pv 8)) de_int (nomark _)) (ds_one ds_continue) ds_nil)
    (ds_cons (ds_putAug (de_var (pv 5)) (de_var (pv 7)) (de_var (pv 8)) ji_add c.u1)
    (ds_cons (ds_for c.po c.calm (di_seq (de_ix (jo_ix c.u1) (de_var (pv 3)) (de_var (pv 7)) (fun _ _ => rfl))) (dg_name (pg_name (i := 9) sc_p_most_counts.nd rfl (Or.inl rfl))) (ds_one (ds_putAug (de_var (pv 4)) (de_var (pv 9)) (de_op jo_mul (de_var (pv 8)) (de_ix (jo_ix c.u1) (de_ix (jo_ix c.u1) (de_var (pv 0)) (de_var (pv 9)) (fun _ _ => rfl)) de_int (fun _ _ => rfl))) ji_sub c.u1)))
    (ds_one (ds_for c.po c.calm (di_seq (de_ix (jo_ix c.u1) (de_var (pv 2)) (de_var (pv 7)) (fun _ _ => rfl))) (dg_name (pg_name (i := 9) sc_p_most_counts.nd rfl (Or.inl rfl))) (ds_cons (ds_putAug (de_var (pv 4)) (de_var (pv 9)) (de_op jo_mul (de_var (pv 8)) (de_ix (jo_ix c.u1) (de_ix (jo_ix c.u1) (de_var (pv 0)) (de_var (pv 9)) (fun _ _ => rfl)) de_int (fun _ _ => rfl))) ji_add c.u1)
    (ds_one (ds_expr (de_meth PySem.F.slot_list_append PySem.F.type_list_append jm_append (de_var (pv 6)) (da_cons (de_ix (jo_ix c.u1) (de_ix (jo_ix c.u1) (de_var (pv 0)) (de_var (pv 9)) (fun _ _ => rfl)) de_int (fun _ _ => rfl)) da_nil)))))))))))))
    (ds_one (ds_ret (de_callTy jc_tuple (by rfl) T.tuple (by decide +kernel) (da_cons (de_var (pv 5)) da_nil)))))))))))
abbrev st_p_is_whole : Stmt := topS 17
abbrev N_p_is_whole : List Str := ["value"]
theorem sc_p_is_whole : FnScope N_p_is_whole ["value"] (defScope st_p_is_whole) := ⟨rfl, rfl, rfl, by decide +kernel, rfl, by decide +kernel, by decide +kernel⟩
theorem ok_p_is_whole {f : Addr} {fd : FuncData} (F : Fun K "is_whole" "is_whole" st_p_is_whole f fd) (hm : mg "is_whole" = some (.ref f)) (b : Binds K fd ["value"] []) (T : Top K mg)  : Fok P wd ⟨K, mg⟩ base 1 "is_whole" 1 F_p_is_whole :=
  fok_of (N := N_p_is_whole) F sc_p_is_whole hm b (fun cdv A outer s H E c =>
    (ds_one (ds_ret (de_and (jc_isi (x := "isinstance") (by decide) (de_var (pv 0)) (pe_bltn (v := .ty "int") (by rfl) T.int (by decide +kernel) rfl) (by rfl) T.isinstance) (de_one (de_not (jc_isi (x := "isinstance") (by decide) (de_var (pv 0)) (pe_bltn (v := .ty "bool") (by rfl) T.bool (by decide +kernel) rfl) (by rfl) T.isinstance)))))))
abbrev st_p_is_number : Stmt := topS 18
abbrev N_p_is_number : List Str := ["value", "low", "high"]
theorem sc_p_is_number : FnScope N_p_is_number ["value", "low", "high"] (defScope st_p_is_number) := ⟨rfl, rfl, rfl, by decide +kernel, rfl, by decide +kernel, by decide +kernel⟩
theorem ok_p_is_number {f : Addr} {fd : FuncData} (F : Fun K "is_number" "is_number" st_p_is_number f fd) (hm : mg "is_number" = some (.ref f)) (b : Binds K fd ["value", "low", "high"] []) (T : Top K mg) (H_p_is_whole : Fok P wd ⟨K, mg⟩ base 1 "is_whole" 1 F_p_is_whole) : Fok P wd ⟨K, mg⟩ base 2 "is_number" 3 F_p_is_number :=
  fok_of (N := N_p_is_number) F sc_p_is_number hm b (fun cdv A outer s H E c =>
    (ds_one (ds_ret (de_and (de_call H_p_is_whole (by decide) c.hr c.tk (by rfl) (by rfl) (da_cons (de_var (pv 0)) da_nil) (hlen := (alen_cons alen_nil))) (de_one (de_chain jo_le jo_le (de_var (pv 1)) (de_var (pv 0)) (de_var (pv 2))))))))
abbrev st_p_is_box : Stmt := topS 19
abbrev N_p_is_box : List Str := ["value", "boxes"]
theorem sc_p_is_box : FnScope N_p_is_box ["value", "boxes"] (defScope st_p_is_box) := ⟨rfl, rfl, rfl, by decide +kernel, rfl, by decide +kernel, by decide +kernel⟩
theorem ok_p_is_box {f : Addr} {fd : FuncData} (F : Fun K "is_box" "is_box" st_p_is_box f fd) (hm : mg "is_box" = some (.ref f)) (b : Binds K fd ["value", "boxes"] []) (T : Top K mg) (H_p_is_number : Fok P wd ⟨K, mg⟩ base 2 "is_number" 3 F_p_is_number) : Fok P wd ⟨K, mg⟩ base 3 "is_box" 2 F_p_is_box :=
  fok_of (N := N_p_is_box) F sc_p_is_box hm b (fun cdv A outer s H E c =>
    (ds_one (ds_ret (de_call H_p_is_number (by decide) c.hr c.tk (by rfl) (by rfl) (da_cons (de_var (pv 0)) (da_cons de_int (da_cons (de_op jo_sub (de_var (pv 1)) de_int) da_nil))) (hlen := (alen_cons (alen_cons (alen_cons alen_nil))))))))
abbrev st_p_is_row : Stmt := topS 20
abbrev N_p_is_row : List Str := ["value", "many"]
theorem sc_p_is_row : FnScope N_p_is_row ["value", "many"] (defScope st_p_is_row) := ⟨rfl, rfl, rfl, by decide +kernel, rfl, by decide +kernel, by decide +kernel⟩
theorem ok_p_is_row {f : Addr} {fd : FuncData} (F : Fun K "is_row" "is_row" st_p_is_row f fd) (hm : mg "is_row" = some (.ref f)) (b : Binds K fd ["value", "many"] []) (T : Top K mg)  : Fok P wd ⟨K, mg⟩ base 1 "is_row" 2 F_p_is_row :=
  fok_of (N := N_p_is_row) F sc_p_is_row hm b (fun cdv A outer s H E c =>
    (ds_one (ds_ret (de_and (jc_isi (x := "isinstance") (by decide) (de_var (pv 0)) (pe_bltn (v := .ty "tuple") (by rfl) T.tuple (by decide +kernel) rfl) (by rfl) T.isinstance) (de_one (de_cmp (jo_eq c.u64) (de_callB jc_len (by rfl) T.len (by decide +kernel) (da_cons (de_var (pv 0)) da_nil)) (de_var (pv 1)) (nomark _)))))))
abbrev st_p_is_pipe : Stmt := topS 21
abbrev N_p_is_pipe : List Str := ["value", "boxes", "one", "other", "give", "eat", "start"]
theorem sc_p_is_pipe : FnScope N_p_is_pipe ["value", "boxes"] (defScope st_p_is_pipe) := ⟨rfl, rfl, rfl, by decide +kernel, rfl, by decide +kernel, by decide +kernel⟩
theorem ok_p_is_pipe {f : Addr} {fd : FuncData} (F : Fun K "is_pipe" "is_pipe" st_p_is_pipe f fd) (hm : mg "is_pipe" = some (.ref f)) (b : Binds K fd ["value", "boxes"] []) (T : Top K mg) (H_p_is_box : Fok P wd ⟨K, mg⟩ base 3 "is_box" 2 F_p_is_box) (H_p_is_number : Fok P wd ⟨K, mg⟩ base 2 "is_number" 3 F_p_is_number) (H_p_is_row : Fok P wd ⟨K, mg⟩ base 1 "is_row" 2 F_p_is_row) : Fok P wd ⟨K, mg⟩ base 4 "is_pipe" 2 F_p_is_pipe :=
  fok_of (N := N_p_is_pipe) F sc_p_is_pipe hm b (fun cdv A outer s H E c =>
    (ds_cons (ds_if (dt_not (dt_truth (de_call H_p_is_row (by decide) c.hr c.tk (by rfl) (by rfl) (da_cons (de_var (pv 0)) (da_cons de_int da_nil)) (hlen := (alen_cons (alen_cons alen_nil)))))) (ds_one (ds_ret de_bl)) ds_nil)
    (ds_cons (ds_asg (de_var (pv 0)) (dg_tup c.calm (dg_cons (dg_name (pg_name (i := 2) sc_p_is_pipe.nd rfl (Or.inl rfl))) (dg_cons (dg_name (pg_name (i := 3) sc_p_is_pipe.nd rfl (Or.inl rfl))) (dg_cons (dg_name (pg_name (i := 4) sc_p_is_pipe.nd rfl (Or.inl rfl))) (dg_cons (dg_name (pg_name (i := 5) sc_p_is_pipe.nd rfl (Or.inl rfl))) (dg_cons (dg_name (pg_name (i := 6) sc_p_is_pipe.nd rfl (Or.inl rfl))) dg_nil)))))))
    (ds_cons (ds_if (PW.pt (dw_or (dt_not (dt_truth (de_call H_p_is_box (by decide) c.hr c.tk (by rfl) (by rfl) (da_cons (de_var (pv 2)) (da_cons (de_var (pv 1)) da_nil)) (hlen := (alen_cons (alen_cons alen_nil)))))) (dw_or1 (dt_not (dt_truth (de_call H_p_is_box (by decide) c.hr c.tk (by rfl) (by rfl) (da_cons (de_var (pv 3)) (da_cons (de_var (pv 1)) da_nil)) (hlen := (alen_cons (alen_cons alen_nil))))))))) (ds_one (ds_ret de_bl)) ds_nil)
    (ds_cons (ds_if (PW.pt (dw_or (dt_not (dt_truth (de_call H_p_is_number (by decide) c.hr c.tk (by rfl) (by rfl) (da_cons (de_var (pv 4)) (da_cons de_int (da_cons (de_c (d := .int 999) (pe_glob (v := .int 999) (by rfl) T.c_MOST_RATE.choose_spec ⟨_, rfl⟩) fun _ => rfl) da_nil))) (hlen := (alen_cons (alen_cons (alen_cons alen_nil))))))) (dw_or1 (dt_not (dt_truth (de_call H_p_is_number (by decide) c.hr c.tk (by rfl) (by rfl) (da_cons (de_var (pv 5)) (da_cons de_int (da_cons (de_c (d := .int 999) (pe_glob (v := .int 999) (by rfl) T.c_MOST_RATE.choose_spec ⟨_, rfl⟩) fun _ => rfl) da_nil))) (hlen := (alen_cons (alen_cons (alen_cons alen_nil)))))))))) (ds_one (ds_ret de_bl)) ds_nil)
    (ds_one (ds_ret (de_call H_p_is_number (by decide) c.hr c.tk (by rfl) (by rfl) (da_cons (de_var (pv 6)) (da_cons de_int (da_cons (de_c (d := .int 99999) (pe_glob (v := .int 99999) (by rfl) T.c_MOST_TOKENS.choose_spec ⟨_, rfl⟩) fun _ => rfl) da_nil))) (hlen := (alen_cons (alen_cons (alen_cons alen_nil))))))))))))
abbrev st_p_check_flow : Stmt := topS 22
abbrev N_p_check_flow : List Str := ["flow", "boxes", "pipes", "index", "pipe"]
theorem sc_p_check_flow : FnScope N_p_check_flow ["flow"] (defScope st_p_check_flow) := ⟨rfl, rfl, rfl, by decide +kernel, rfl, by decide +kernel, by decide +kernel⟩
theorem ok_p_check_flow {f : Addr} {fd : FuncData} (F : Fun K "check_flow" "check_flow" st_p_check_flow f fd) (hm : mg "check_flow" = some (.ref f)) (b : Binds K fd ["flow"] []) (T : Top K mg) (H_p_is_number : Fok P wd ⟨K, mg⟩ base 2 "is_number" 3 F_p_is_number) (H_p_is_pipe : Fok P wd ⟨K, mg⟩ base 4 "is_pipe" 2 F_p_is_pipe) (H_p_is_row : Fok P wd ⟨K, mg⟩ base 1 "is_row" 2 F_p_is_row) : Fok P wd ⟨K, mg⟩ base 5 "check_flow" 1 F_p_check_flow :=
  fok_of (N := N_p_check_flow) F sc_p_check_flow hm b (fun cdv A outer s H E c =>
    (ds_cons (ds_if (dt_not (dt_truth (de_call H_p_is_row (by decide) c.hr c.tk (by rfl) (by rfl) (da_cons (de_var (pv 0)) (da_cons de_int da_nil)) (hlen := (alen_cons (alen_cons alen_nil)))))) (ds_one ds_never) ds_nil)
    (ds_cons (ds_asg (de_var (pv 0)) (dg_tup c.calm (dg_cons (dg_name (pg_name (i := 1) sc_p_check_flow.nd rfl (Or.inl rfl))) (dg_cons (dg_name (pg_name (i := 2) sc_p_check_flow.nd rfl (Or.inl rfl))) dg_nil))))
    (ds_cons (ds_if (PW.pt (dw_or (dt_not (dt_truth (de_call H_p_is_number (by decide) c.hr c.tk (by rfl) (by rfl) (da_cons (de_var (pv 1)) (da_cons de_int (da_cons (de_c (d := .int 8) (pe_glob (v := .int 8) (by rfl) T.c_MOST_BOXES.choose_spec ⟨_, rfl⟩) fun _ => rfl) da_nil))) (hlen := (alen_cons (alen_cons (alen_cons alen_nil))))))) (dw_or (dt_not (dt_truth (jc_isi (x := "isinstance") (by decide) (de_var (pv 2)) (pe_bltn (v := .ty "tuple") (by rfl) T.tuple (by decide +kernel) rfl) (by rfl) T.isinstance))) (dw_or1 (dt_cmp jo_gt (de_callB jc_len (by rfl) T.len (by decide +kernel) (da_cons (de_var (pv 2)) da_nil)) (de_c (d := .int 16) (pe_glob (v := .int 16) (by rfl) T.c_MOST_PIPES.choose_spec ⟨_, rfl⟩) fun _ => rfl) (nomark _)))))) (ds_one ds_never) ds_nil)
    (ds_one (ds_for c.po c.calm (di_enum (by rfl) T.enumerate (da_cons (de_var (pv 2)) da_nil)) (dg_tup c.calm (dg_cons (dg_name (pg_name (i := 3) sc_p_check_flow.nd rfl (Or.inl rfl))) (dg_cons (dg_name (pg_name (i := 4) sc_p_check_flow.nd rfl (Or.inl rfl))) dg_nil))) (ds_one (ds_if (dt_not (dt_truth (de_call H_p_is_pipe (by decide) c.hr c.tk (by rfl) (by rfl) (da_cons (de_var (pv 4)) (da_cons (de_var (pv 1)) da_nil)) (hlen := (alen_cons (alen_cons alen_nil)))))) (ds_one ds_never) ds_nil))))))))
abbrev st_p_rate_along : Stmt := topS 47
abbrev N_p_rate_along : List Str := ["pipes", "steps", "above", "below", "place", "forward", "give", "eat", "common"]
theorem sc_p_rate_along : FnScope N_p_rate_along ["pipes", "steps"] (defScope st_p_rate_along) := ⟨rfl, rfl, rfl, by decide +kernel, rfl, by decide +kernel, by decide +kernel⟩
theorem ok_p_rate_along {f : Addr} {fd : FuncData} (F : Fun K "rate_along" "rate_along" st_p_rate_along f fd) (hm : mg "rate_along" = some (.ref f)) (b : Binds K fd ["pipes", "steps"] []) (T : Top K mg)  : Fok P wd ⟨K, mg⟩ base 1 "rate_along" 2 F_p_rate_along :=
  fok_of (N := N_p_rate_along) F sc_p_rate_along hm b (fun cdv A outer s H E c =>
    (ds_cons (ds_asg (de_tup (da_cons de_int (da_cons de_int da_nil))) (dg_tup c.calm (dg_cons (dg_name (pg_name (i := 2) sc_p_rate_along.nd rfl (Or.inl rfl))) (dg_cons (dg_name (pg_name (i := 3) sc_p_rate_along.nd rfl (Or.inl rfl))) dg_nil))))
    (ds_cons (ds_for c.po c.calm (di_seq (de_var (pv 1))) (dg_tup c.calm (dg_cons (dg_name (pg_name (i := 4) sc_p_rate_along.nd rfl (Or.inl rfl))) (dg_cons (dg_name (pg_name (i := 5) sc_p_rate_along.nd rfl (Or.inl rfl))) dg_nil))) (ds_cons (ds_asg (de_slice (de_ix (jo_ix c.u1) (de_var (pv 0)) (de_var (pv 4)) (fun _ _ => rfl)) (dp_some de_int) (dp_some de_int)) (dg_tup c.calm (dg_cons (dg_name (pg_name (i := 6) sc_p_rate_along.nd rfl (Or.inl rfl))) (dg_cons (dg_name (pg_name (i := 7) sc_p_rate_along.nd rfl (Or.inl rfl))) dg_nil))))
    (ds_cons (ds_aug (i := 2) sc_p_rate_along.nd rfl (Or.inl rfl) (de_if (dt_truth (de_var (pv 5))) (de_var (pv 6)) (de_var (pv 7))) ji_mul (.inl rfl))
    (ds_cons (ds_aug (i := 3) sc_p_rate_along.nd rfl (Or.inl rfl) (de_if (dt_truth (de_var (pv 5))) (de_var (pv 7)) (de_var (pv 6))) ji_mul (.inl rfl))
    (ds_cons (ds_set (fun te h => ps_set (i := 8) sc_p_rate_along.nd rfl (Or.inl rfl) h) (de_callBf jc_gcd (by rfl) T.gcd (da_cons (de_var (pv 2)) (da_cons (de_var (pv 3)) da_nil))))
    (ds_one (ds_par (fun t h => ps_par (i := 2) (j := 3) c.calm sc_p_rate_along.nd rfl rfl (by decide) rfl rfl h (by rfl)) (da_cons (de_op jo_div (de_var (pv 2)) (de_var (pv 8))) (da_cons (de_op jo_div (de_var (pv 3)) (de_var (pv 8))) da_nil)))))))))
    (ds_one (ds_ret (de_tup (da_cons (de_var (pv 2)) (da_cons (de_var (pv 3)) da_nil))))))))
abbrev st_p_ring_through : Stmt := topS 48
abbrev N_p_ring_through : List Str := ["place", "to_one", "to_other", "pipe", "forward"]
theorem sc_p_ring_through : FnScope N_p_ring_through ["place", "to_one", "to_other"] (defScope st_p_ring_through) := ⟨rfl, rfl, rfl, by decide +kernel, rfl, by decide +kernel, by decide +kernel⟩
theorem ok_p_ring_through {f : Addr} {fd : FuncData} (F : Fun K "ring_through" "ring_through" st_p_ring_through f fd) (hm : mg "ring_through" = some (.ref f)) (b : Binds K fd ["place", "to_one", "to_other"] []) (T : Top K mg)  : Fok P wd ⟨K, mg⟩ base 1 "ring_through" 3 F_p_ring_through :=
  fok_of (N := N_p_ring_through) F sc_p_ring_through hm b (fun cdv A outer s H E c =>
    (ds_cons (ds_while c.po (PW.pt (dw_and (dt_truth (de_var (pv 1))) (dw_and (dt_truth (de_var (pv 2))) (dw_and1 (dt_cmp (jo_eq c.u64) (de_ix (jo_ix c.u1) (de_var (pv 1)) de_int (fun _ _ => rfl)) (de_ix (jo_ix c.u1) (de_var (pv 2)) de_int (fun _ _ => rfl)) (nomark _)))))) (ds_one (ds_par (fun t h => ps_par (i := 1) (j := 2) c.calm sc_p_ring_through.nd rfl rfl (by decide) rfl rfl h (by rfl)) (da_cons (de_slice (de_var (pv 1)) (dp_some de_int) dp_none) (da_cons (de_slice (de_var (pv 2)) (dp_some de_int) dp_none) da_nil)))))
    (ds_one (ds_ret (de_op jo_add (de_op jo_add (de_var (pv 1)) (de_tup (da_cons (de_tup (da_cons (de_var (pv 0)) (da_cons de_bl da_nil))) da_nil))) (de_callTy jc_tuple (by rfl) T.tuple (by decide +kernel) (da_cons (de_lc (own := [("pipe", 3), ("forward", 4)]) (by decide) (.inl rfl) (pe_lc (own := [("pipe", 3), ("forward", 4)]) c.calm sc_p_ring_through.nd (di_seq (de_rev (de_var (pv 2)))) (blkOk_by (N := N_p_ring_through) (sc := defScope st_p_ring_through) (by decide +kernel)) (fun _ _ _ _ _ => (dg_tup (c.blk _ _ _ _ _).calm (dg_cons (dg_name (pg_name (i := 3) sc_p_ring_through.nd rfl (Or.inl rfl))) (dg_cons (dg_name (pg_name (i := 4) sc_p_ring_through.nd rfl (Or.inl rfl))) dg_nil)))) (fun _ _ _ _ _ => dts_nil) (fun _ _ _ _ _ => (de_tup (da_cons (de_var (pv 3)) (da_cons (de_not (de_var (pv 4))) da_nil)))))) da_nil)))))))
abbrev st_p_reached : Stmt := topS 29
abbrev N_p_reached : List Str := ["links", "box", "found", "waiting", "here", "one", "other"]
theorem sc_p_reached : FnScope N_p_reached ["links", "box"] (defScope st_p_reached) := ⟨rfl, rfl, rfl, by decide +kernel, rfl, by decide +kernel, by decide +kernel⟩
theorem ok_p_reached {f : Addr} {fd : FuncData} (F : Fun K "reached" "reached" st_p_reached f fd) (hm : mg "reached" = some (.ref f)) (b : Binds K fd ["links", "box"] []) (T : Top K mg)  : Fok P wd ⟨K, mg⟩ base 1 "reached" 2 F_p_reached :=
  fok_of (N := N_p_reached) F sc_p_reached hm b (fun cdv A outer s H E c =>
    (ds_cons (ds_set (fun te h => ps_set (i := 2) sc_p_reached.nd rfl (Or.inl rfl) h) (de_disp1L (de_var (pv 1)) de_bl))
    (ds_cons (ds_set (fun te h => ps_set (i := 3) sc_p_reached.nd rfl (Or.inl rfl) h) (de_lstL (da_cons (de_var (pv 1)) da_nil)))
    (ds_cons (ds_while c.po (dt_truth (de_var (pv 3))) (ds_cons (ds_set (fun te h => ps_set (i := 4) sc_p_reached.nd rfl (Or.inl rfl) h) (de_meth0 PySem.F.slot_list_pop PySem.F.type_list_pop jm_pop (de_var (pv 3))))
    (ds_one (ds_for c.po c.calm (di_seq (de_var (pv 0))) (dg_tup c.calm (dg_cons (dg_name (pg_name (i := 5) sc_p_reached.nd rfl (Or.inl rfl))) (dg_cons (dg_name (pg_name (i := 6) sc_p_reached.nd rfl (Or.inl rfl))) dg_nil))) (ds_one (ds_if (PW.pt (dw_and (dt_cmp (jo_eq c.u64) (de_var (pv 5)) (de_var (pv 4)) (nomark _)) (dw_and1 (dt_cmp (jo_nin c.u65) (de_var (pv 6)) (de_var (pv 2)) (by rfl))))) (ds_cons (ds_put (de_var (pv 2)) (de_var (pv 6)) de_bl c.u1)
    (ds_one (ds_expr (de_meth PySem.F.slot_list_append PySem.F.type_list_append jm_append (de_var (pv 3)) (da_cons (de_var (pv 6)) da_nil))))) ds_nil))))))
    (ds_one (ds_ret (de_var (pv 2))))))))
abbrev st_p_grouped : Stmt := topS 30
abbrev N_p_grouped : List Str := ["boxes", "links", "reach", "groups", "box", "group", "other"]
theorem sc_p_grouped : FnScope N_p_grouped ["boxes", "links"] (defScope st_p_grouped) := ⟨rfl, rfl, rfl, by decide +kernel, rfl, by decide +kernel, by decide +kernel⟩
theorem ok_p_grouped {f : Addr} {fd : FuncData} (F : Fun K "grouped" "grouped" st_p_grouped f fd) (hm : mg "grouped" = some (.ref f)) (b : Binds K fd ["boxes", "links"] []) (T : Top K mg) (H_p_reached : Fok P wd ⟨K, mg⟩ base 1 "reached" 2 F_p_reached) : Fok P wd ⟨K, mg⟩ base 2 "grouped" 2 F_p_grouped :=
  fok_of (N := N_p_grouped) F sc_p_grouped hm b (fun cdv A outer s H E c =>
    (ds_cons (ds_set (fun te h => ps_set (i := 2) sc_p_grouped.nd rfl (Or.inr rfl) h) (de_lc (own := [("box", 4)]) (by decide) (.inl rfl) (pe_lc (own := [("box", 4)]) c.calm sc_p_grouped.nd (di_rng1 (by rfl) T.range (da_cons (de_var (pv 0)) da_nil)) (blkOk_by (N := N_p_grouped) (sc := defScope st_p_grouped) (by decide +kernel)) (fun _ _ _ _ _ => (dg_name (pg_name (i := 4) sc_p_grouped.nd rfl (Or.inl rfl)))) (fun _ _ _ _ _ => dts_nil) (fun _ _ _ _ _ => (de_call H_p_reached (by decide) (c.blk _ _ _ _ _).hr (c.blk _ _ _ _ _).tk (by rfl) (by rfl) (da_cons (de_var (pv 1)) (da_cons (de_var (pv 4)) da_nil)) (hlen := (alen_cons (alen_cons alen_nil))))))))
    (ds_cons (ds_set (fun te h => ps_set (i := 3) sc_p_grouped.nd rfl (Or.inl rfl) h) (de_lstL da_nil))
    (ds_cons (ds_for c.po c.calm (di_rng1 (by rfl) T.range (da_cons (de_var (pv 0)) da_nil)) (dg_name (pg_name (i := 4) sc_p_grouped.nd rfl (Or.inr rfl))) (ds_cons (ds_setT (ps_setLc (i := 5) (own := [("other", 6)]) c.calm sc_p_grouped.nd rfl rfl (sw_true rfl rfl rfl (by decide +kernel)) (di_rng1 (by rfl) T.range (da_cons (de_var (pv 0)) da_nil)) (blkOk_by (N := N_p_grouped) (sc := defScope st_p_grouped) (by decide +kernel)) (fun _ _ _ _ _ => (dg_name (pg_name (i := 6) sc_p_grouped.nd rfl (Or.inl rfl)))) (fun _ _ _ _ _ => (dts_one (PW.pt (dw_and (dt_cmp (jo_in (c.blk _ _ _ _ _).u65) (de_var (pv 6)) (de_ix (jo_ix (c.blk _ _ _ _ _).u1) (de_var (pv 2)) (de_var (pv 4)) (fun _ _ => rfl)) (by rfl)) (dw_and1 (dt_cmp (jo_in (c.blk _ _ _ _ _).u65) (de_var (pv 4)) (de_ix (jo_ix (c.blk _ _ _ _ _).u1) (de_var (pv 2)) (de_var (pv 6)) (fun _ _ => rfl)) (by rfl))))))) (fun _ _ _ _ _ => (de_var (pv 6)))) (lcUse (by decide) (.inl rfl)))
    (ds_one (ds_if (dt_cmp (jo_eq c.u64) (de_ix (jo_ix c.u1) (de_var (pv 5)) de_int (fun _ _ => rfl)) (de_var (pv 4)) (nomark _)) (ds_one (ds_expr (de_meth PySem.F.slot_list_append PySem.F.type_list_append jm_append (de_var (pv 3)) (da_cons (de_callTy jc_tuple (by rfl) T.tuple (by decide +kernel) (da_cons (de_var (pv 5)) da_nil)) da_nil)))) ds_nil))))
    (ds_one (ds_ret (de_callTy jc_tuple (by rfl) T.tuple (by decide +kernel) (da_cons (de_var (pv 3)) da_nil))))))))
abbrev st_p_pipe_links : Stmt := topS 28
abbrev N_p_pipe_links : List Str := ["flow", "pipe"]
theorem sc_p_pipe_links : FnScope N_p_pipe_links ["flow"] (defScope st_p_pipe_links) := ⟨rfl, rfl, rfl, by decide +kernel, rfl, by decide +kernel, by decide +kernel⟩
theorem ok_p_pipe_links {f : Addr} {fd : FuncData} (F : Fun K "pipe_links" "pipe_links" st_p_pipe_links f fd) (hm : mg "pipe_links" = some (.ref f)) (b : Binds K fd ["flow"] []) (T : Top K mg)  : Fok P wd ⟨K, mg⟩ base 1 "pipe_links" 1 F_p_pipe_links :=
  fok_of (N := N_p_pipe_links) F sc_p_pipe_links hm b (fun cdv A outer s H E c =>
    (ds_one (ds_ret (de_lc (own := [("pipe", 1)]) (by decide) (.inl rfl) (pe_lc (own := [("pipe", 1)]) c.calm sc_p_pipe_links.nd (di_seq (de_ix (jo_ix c.u1) (de_var (pv 0)) de_int (fun _ _ => rfl))) (blkOk_by (N := N_p_pipe_links) (sc := defScope st_p_pipe_links) (by decide +kernel)) (fun _ _ _ _ _ => (dg_name (pg_name (i := 1) sc_p_pipe_links.nd rfl (Or.inl rfl)))) (fun _ _ _ _ _ => dts_nil) (fun _ _ _ _ _ => (de_tup (da_cons (de_ix (jo_ix (c.blk _ _ _ _ _).u1) (de_var (pv 1)) de_int (fun _ _ => rfl)) (da_cons (de_ix (jo_ix (c.blk _ _ _ _ _).u1) (de_var (pv 1)) de_int (fun _ _ => rfl)) da_nil)))))))))
abbrev st_p_parts : Stmt := topS 26
abbrev N_p_parts : List Str := ["flow", "links", "one", "other"]
theorem sc_p_parts : FnScope N_p_parts ["flow"] (defScope st_p_parts) := ⟨rfl, rfl, rfl, by decide +kernel, rfl, by decide +kernel, by decide +kernel⟩
theorem ok_p_parts {f : Addr} {fd : FuncData} (F : Fun K "parts" "parts" st_p_parts f fd) (hm : mg "parts" = some (.ref f)) (b : Binds K fd ["flow"] []) (T : Top K mg) (H_p_check_flow : Fok P wd ⟨K, mg⟩ base 5 "check_flow" 1 F_p_check_flow) (H_p_grouped : Fok P wd ⟨K, mg⟩ base 2 "grouped" 2 F_p_grouped) (H_p_pipe_links : Fok P wd ⟨K, mg⟩ base 1 "pipe_links" 1 F_p_pipe_links) : Fok P wd ⟨K, mg⟩ base 6 "parts" 1 F_p_parts :=
  fok_of (N := N_p_parts) F sc_p_parts hm b (fun cdv A outer s H E c =>
    (ds_cons (ds_expr (de_call H_p_check_flow (by decide) c.hr c.tk (by rfl) (by rfl) (da_cons (de_var (pv 0)) da_nil) (hlen := (alen_cons alen_nil))))
    (ds_cons (ds_set (fun te h => ps_set (i := 1) sc_p_parts.nd rfl (Or.inl rfl) h) (de_call H_p_pipe_links (by decide) c.hr c.tk (by rfl) (by rfl) (da_cons (de_var (pv 0)) da_nil) (hlen := (alen_cons alen_nil))))
    (ds_one (ds_ret (de_call H_p_grouped (by decide) c.hr c.tk (by rfl) (by rfl) (da_cons (de_ix (jo_ix c.u1) (de_var (pv 0)) de_int (fun _ _ => rfl)) (da_cons (de_op jo_add (de_var (pv 1)) (de_lc (own := [("one", 2), ("other", 3)]) (by decide) (.inl rfl) (pe_lc (own := [("one", 2), ("other", 3)]) c.calm sc_p_parts.nd (di_seq (de_var (pv 1))) (blkOk_by (N := N_p_parts) (sc := defScope st_p_parts) (by decide +kernel)) (fun _ _ _ _ _ => (dg_tup (c.blk _ _ _ _ _).calm (dg_cons (dg_name (pg_name (i := 2) sc_p_parts.nd rfl (Or.inl rfl))) (dg_cons (dg_name (pg_name (i := 3) sc_p_parts.nd rfl (Or.inl rfl))) dg_nil)))) (fun _ _ _ _ _ => dts_nil) (fun _ _ _ _ _ => (de_tup (da_cons (de_var (pv 3)) (da_cons (de_var (pv 2)) da_nil))))))) da_nil)) (hlen := (alen_cons (alen_cons alen_nil)))))))))
abbrev st_p_step_boxes : Stmt := topS 46
abbrev N_p_step_boxes : List Str := ["pipes", "step", "place", "forward", "one", "other"]
theorem sc_p_step_boxes : FnScope N_p_step_boxes ["pipes", "step"] (defScope st_p_step_boxes) := ⟨rfl, rfl, rfl, by decide +kernel, rfl, by decide +kernel, by decide +kernel⟩
theorem ok_p_step_boxes {f : Addr} {fd : FuncData} (F : Fun K "step_boxes" "step_boxes" st_p_step_boxes f fd) (hm : mg "step_boxes" = some (.ref f)) (b : Binds K fd ["pipes", "step"] []) (T : Top K mg)  : Fok P wd ⟨K, mg⟩ base 1 "step_boxes" 2 F_p_step_boxes :=
  fok_of (N := N_p_step_boxes) F sc_p_step_boxes hm b (fun cdv A outer s H E c =>
    (ds_cons (ds_asg (de_var (pv 1)) (dg_tup c.calm (dg_cons (dg_name (pg_name (i := 2) sc_p_step_boxes.nd rfl (Or.inl rfl))) (dg_cons (dg_name (pg_name (i := 3) sc_p_step_boxes.nd rfl (Or.inl rfl))) dg_nil))))
    (ds_cons (ds_asg (de_slice (de_ix (jo_ix c.u1) (de_var (pv 0)) (de_var (pv 2)) (fun _ _ => rfl)) dp_none (dp_some de_int)) (dg_tup c.calm (dg_cons (dg_name (pg_name (i := 4) sc_p_step_boxes.nd rfl (Or.inl rfl))) (dg_cons (dg_name (pg_name (i := 5) sc_p_step_boxes.nd rfl (Or.inl rfl))) dg_nil))))
    (ds_one (ds_ret (de_if (dt_truth (de_var (pv 3))) (de_tup (da_cons (de_var (pv 4)) (da_cons (de_var (pv 5)) da_nil))) (de_tup (da_cons (de_var (pv 5)) (da_cons (de_var (pv 4)) da_nil)))))))))
abbrev st_p_steps_from : Stmt := topS 45
abbrev N_p_steps_from : List Str := ["pipes", "box", "forward", "place", "pipe"]
theorem sc_p_steps_from : FnScope N_p_steps_from ["pipes", "box"] (defScope st_p_steps_from) := ⟨rfl, rfl, rfl, by decide +kernel, rfl, by decide +kernel, by decide +kernel⟩
theorem ok_p_steps_from {f : Addr} {fd : FuncData} (F : Fun K "steps_from" "steps_from" st_p_steps_from f fd) (hm : mg "steps_from" = some (.ref f)) (b : Binds K fd ["pipes", "box"] []) (T : Top K mg)  : Fok P wd ⟨K, mg⟩ base 1 "steps_from" 2 F_p_steps_from :=
  fok_of (N := N_p_steps_from) F sc_p_steps_from hm b (fun cdv A outer s H E c =>
    (ds_cons (ds_setT (ps_setLc (i := 2) (own := [("place", 3), ("pipe", 4)]) c.calm sc_p_steps_from.nd rfl rfl (sw_true rfl rfl rfl (by decide +kernel)) (di_enum (by rfl) T.enumerate (da_cons (de_var (pv 0)) da_nil)) (blkOk_by (N := N_p_steps_from) (sc := defScope st_p_steps_from) (by decide +kernel)) (fun _ _ _ _ _ => (dg_tup (c.blk _ _ _ _ _).calm (dg_cons (dg_name (pg_name (i := 3) sc_p_steps_from.nd rfl (Or.inl rfl))) (dg_cons (dg_name (pg_name (i := 4) sc_p_steps_from.nd rfl (Or.inl rfl))) dg_nil)))) (fun _ _ _ _ _ => (dts_one (dt_cmp (jo_eq (c.blk _ _ _ _ _).u64) (de_ix (jo_ix (c.blk _ _ _ _ _).u1) (de_var (pv 4)) de_int (fun _ _ => rfl)) (de_var (pv 1)) (nomark _)))) (fun _ _ _ _ _ => (de_tup (da_cons (de_var (pv 3)) (da_cons de_bl da_nil))))) (lcUse (by decide) (.inl rfl)))
    (ds_one (ds_ret (de_op jo_add (de_var (pv 2)) (de_lc (own := [("place", 3), ("pipe", 4)]) (by decide) (.inl rfl) (pe_lc (own := [("place", 3), ("pipe", 4)]) c.calm sc_p_steps_from.nd (di_enum (by rfl) T.enumerate (da_cons (de_var (pv 0)) da_nil)) (blkOk_by (N := N_p_steps_from) (sc := defScope st_p_steps_from) (by decide +kernel)) (fun _ _ _ _ _ => (dg_tup (c.blk _ _ _ _ _).calm (dg_cons (dg_name (pg_name (i := 3) sc_p_steps_from.nd rfl (Or.inl rfl))) (dg_cons (dg_name (pg_name (i := 4) sc_p_steps_from.nd rfl (Or.inl rfl))) dg_nil)))) (fun _ _ _ _ _ => (dts_one (dt_cmp (jo_eq (c.blk _ _ _ _ _).u64) (de_ix (jo_ix (c.blk _ _ _ _ _).u1) (de_var (pv 4)) de_int (fun _ _ => rfl)) (de_var (pv 1)) (nomark _)))) (fun _ _ _ _ _ => (de_tup (da_cons (de_var (pv 3)) (da_cons de_bl da_nil)))))))))))
abbrev st_p_spreading_steps : Stmt := topS 44
abbrev N_p_spreading_steps : List Str := ["pipes", "root", "met", "waiting", "steps", "box", "step", "there"]
theorem sc_p_spreading_steps : FnScope N_p_spreading_steps ["pipes", "root"] (defScope st_p_spreading_steps) := ⟨rfl, rfl, rfl, by decide +kernel, rfl, by decide +kernel, by decide +kernel⟩
theorem ok_p_spreading_steps {f : Addr} {fd : FuncData} (F : Fun K "spreading_steps" "spreading_steps" st_p_spreading_steps f fd) (hm : mg "spreading_steps" = some (.ref f)) (b : Binds K fd ["pipes", "root"] []) (T : Top K mg) (H_p_step_boxes : Fok P wd ⟨K, mg⟩ base 1 "step_boxes" 2 F_p_step_boxes) (H_p_steps_from : Fok P wd ⟨K, mg⟩ base 1 "steps_from" 2 F_p_steps_from) : Fok P wd ⟨K, mg⟩ base 2 "spreading_steps" 2 F_p_spreading_steps :=
  fok_of (N := N_p_spreading_steps) F sc_p_spreading_steps hm b (fun cdv A outer s H E c =>
    (ds_cons (ds_set (fun te h => ps_set (i := 2) sc_p_spreading_steps.nd rfl (Or.inl rfl) h) (de_disp1L (de_var (pv 1)) de_bl))
    (ds_cons (ds_set (fun te h => ps_set (i := 3) sc_p_spreading_steps.nd rfl (Or.inl rfl) h) (de_lstL (da_cons (de_var (pv 1)) da_nil)))
    (ds_cons (ds_set (fun te h => ps_set (i := 4) sc_p_spreading_steps.nd rfl (Or.inl rfl) h) (de_lstL da_nil))
    (ds_cons (ds_while c.po (dt_truth (de_var (pv 3))) (ds_cons (ds_set (fun te h => ps_set (i := 5) sc_p_spreading_steps.nd rfl (Or.inl rfl) h) (de_meth0 PySem.F.slot_list_pop PySem.F.type_list_pop jm_pop (de_var (pv 3))))
    (ds_one (ds_for c.po c.calm (di_seq (de_call H_p_steps_from (by decide) c.hr c.tk (by rfl) (by rfl) (da_cons (de_var (pv 0)) (da_cons (de_var (pv 5)) da_nil)) (hlen := (alen_cons (alen_cons alen_nil))))) (dg_name (pg_name (i := 6) sc_p_spreading_steps.nd rfl (Or.inl rfl))) (ds_cons (ds_set (fun te h => ps_set (i := 7) sc_p_spreading_steps.nd rfl (Or.inl rfl) h) (de_ix (jo_ix c.u1) (de_call H_p_step_boxes (by decide) c.hr c.tk (by rfl) (by rfl) (da_cons (de_var (pv 0)) (da_cons (de_var (pv 6)) da_nil)) (hlen := (alen_cons (alen_cons alen_nil)))) de_int (fun _ _ => rfl)))
    (ds_one (ds_if (dt_cmp (jo_nin c.u65) (de_var (pv 7)) (de_var (pv 2)) (by rfl)) (ds_cons (ds_put (de_var (pv 2)) (de_var (pv 7)) de_bl c.u1)
    (ds_cons (ds_expr (de_meth PySem.F.slot_list_append PySem.F.type_list_append jm_append (de_var (pv 3)) (da_cons (de_var (pv 7)) da_nil)))
    (ds_one (ds_expr (de_meth PySem.F.slot_list_append PySem.F.type_list_append jm_append (de_var (pv 4)) (da_cons (de_var (pv 6)) da_nil)))))) ds_nil)))))))
    (ds_one (ds_ret (de_var (pv 4)))))))))
abbrev st_p_trails : Stmt := topS 43
abbrev N_p_trails : List Str := ["flow", "pipes", "found", "part", "step", "here", "there"]
theorem sc_p_trails : FnScope N_p_trails ["flow"] (defScope st_p_trails) := ⟨rfl, rfl, rfl, by decide +kernel, rfl, by decide +kernel, by decide +kernel⟩
theorem ok_p_trails {f : Addr} {fd : FuncData} (F : Fun K "trails" "trails" st_p_trails f fd) (hm : mg "trails" = some (.ref f)) (b : Binds K fd ["flow"] []) (T : Top K mg) (H_p_parts : Fok P wd ⟨K, mg⟩ base 6 "parts" 1 F_p_parts) (H_p_spreading_steps : Fok P wd ⟨K, mg⟩ base 2 "spreading_steps" 2 F_p_spreading_steps) (H_p_step_boxes : Fok P wd ⟨K, mg⟩ base 1 "step_boxes" 2 F_p_step_boxes) : Fok P wd ⟨K, mg⟩ base 7 "trails" 1 F_p_trails :=
  fok_of (N := N_p_trails) F sc_p_trails hm b (fun cdv A outer s H E c =>
    (ds_cons (ds_set (fun te h => ps_set (i := 1) sc_p_trails.nd rfl (Or.inl rfl) h) (de_ix (jo_ix c.u1) (de_var (pv 0)) de_int (fun _ _ => rfl)))
    (ds_cons (ds_set (fun te h => ps_set (i := 2) sc_p_trails.nd rfl (Or.inl rfl) h) de_dctL)
    (ds_cons (ds_for c.po c.calm (di_seq (de_call H_p_parts (by decide) c.hr c.tk (by rfl) (by rfl) (da_cons (de_var (pv 0)) da_nil) (hlen := (alen_cons alen_nil)))) (dg_name (pg_name (i := 3) sc_p_trails.nd rfl (Or.inl rfl))) (ds_cons (ds_put (de_var (pv 2)) (de_ix (jo_ix c.u1) (de_var (pv 3)) de_int (fun _ _ => rfl)) (de_tup da_nil) c.u1)
    (ds_one (ds_for c.po c.calm (di_seq (de_call H_p_spreading_steps (by decide) c.hr c.tk (by rfl) (by rfl) (da_cons (de_var (pv 1)) (da_cons (de_ix (jo_ix c.u1) (de_var (pv 3)) de_int (fun _ _ => rfl)) da_nil)) (hlen := (alen_cons (alen_cons alen_nil))))) (dg_name (pg_name (i := 4) sc_p_trails.nd rfl (Or.inl rfl))) (ds_cons (ds_asg (de_call H_p_step_boxes (by decide) c.hr c.tk (by rfl) (by rfl) (da_cons (de_var (pv 1)) (da_cons (de_var (pv 4)) da_nil)) (hlen := (alen_cons (alen_cons alen_nil)))) (dg_tup c.calm (dg_cons (dg_name (pg_name (i := 5) sc_p_trails.nd rfl (Or.inl rfl))) (dg_cons (dg_name (pg_name (i := 6) sc_p_trails.nd rfl (Or.inl rfl))) dg_nil))))
    (ds_one (ds_put (de_var (pv 2)) (de_var (pv 6)) (de_op jo_add (de_ix (jo_ix c.u1) (de_var (pv 2)) (de_var (pv 5)) (fun _ _ => rfl)) (de_tup (da_cons (de_var (pv 4)) da_nil))) c.u1)))))))
    (ds_one (ds_ret (de_var (pv 2))))))))
abbrev st_p_tilt : Stmt := topS 41
abbrev N_p_tilt : List Str := ["flow", "known", "place", "pipe", "ring"]
theorem sc_p_tilt : FnScope N_p_tilt ["flow"] (defScope st_p_tilt) := ⟨rfl, rfl, rfl, by decide +kernel, rfl, by decide +kernel, by decide +kernel⟩
theorem ok_p_tilt {f : Addr} {fd : FuncData} (F : Fun K "tilt" "tilt" st_p_tilt f fd) (hm : mg "tilt" = some (.ref f)) (b : Binds K fd ["flow"] []) (T : Top K mg) (H_p_check_flow : Fok P wd ⟨K, mg⟩ base 5 "check_flow" 1 F_p_check_flow) (H_p_rate_along : Fok P wd ⟨K, mg⟩ base 1 "rate_along" 2 F_p_rate_along) (H_p_ring_through : Fok P wd ⟨K, mg⟩ base 1 "ring_through" 3 F_p_ring_through) (H_p_trails : Fok P wd ⟨K, mg⟩ base 7 "trails" 1 F_p_trails) : Fok P wd ⟨K, mg⟩ base 8 "tilt" 1 F_p_tilt :=
  fok_of (N := N_p_tilt) F sc_p_tilt hm b (fun cdv A outer s H E c =>
    (ds_cons (ds_expr (de_call H_p_check_flow (by decide) c.hr c.tk (by rfl) (by rfl) (da_cons (de_var (pv 0)) da_nil) (hlen := (alen_cons alen_nil))))
    (ds_cons (ds_set (fun te h => ps_set (i := 1) sc_p_tilt.nd rfl (Or.inl rfl) h) (de_call H_p_trails (by decide) c.hr c.tk (by rfl) (by rfl) (da_cons (de_var (pv 0)) da_nil) (hlen := (alen_cons alen_nil))))
    (ds_cons (ds_for c.po c.calm (di_enum (by rfl) T.enumerate (da_cons (de_ix (jo_ix c.u1) (de_var (pv 0)) de_int (fun _ _ => rfl)) da_nil)) (dg_tup c.calm (dg_cons (dg_name (pg_name (i := 2) sc_p_tilt.nd rfl (Or.inl rfl))) (dg_cons (dg_name (pg_name (i := 3) sc_p_tilt.nd rfl (Or.inl rfl))) dg_nil))) (ds_cons (ds_set (fun te h => ps_set (i := 4) sc_p_tilt.nd rfl (Or.inl rfl) h) (de_call H_p_ring_through (by decide) c.hr c.tk (by rfl) (by rfl) (da_cons (de_var (pv 2)) (da_cons (de_ix (jo_ix c.u1) (de_var (pv 1)) (de_ix (jo_ix c.u1) (de_var (pv 3)) de_int (fun _ _ => rfl)) (fun _ _ => rfl)) (da_cons (de_ix (jo_ix c.u1) (de_var (pv 1)) (de_ix (jo_ix c.u1) (de_var (pv 3)) de_int (fun _ _ => rfl)) (fun _ _ => rfl)) da_nil))) (hlen := (alen_cons (alen_cons (alen_cons alen_nil))))))
    (ds_one (ds_if (dt_cmp (jo_ne c.u64) (de_call H_p_rate_along (by decide) c.hr c.tk (by rfl) (by rfl) (da_cons (de_ix (jo_ix c.u1) (de_var (pv 0)) de_int (fun _ _ => rfl)) (da_cons (de_var (pv 4)) da_nil)) (hlen := (alen_cons (alen_cons alen_nil)))) (de_tup (da_cons de_int (da_cons de_int da_nil))) (nomark _)) (ds_one (ds_ret (de_var (pv 4)))) ds_nil))))
    (ds_one (ds_ret de_non))))))
abbrev st_p_check_balanced : Stmt := topS 42
abbrev N_p_check_balanced : List Str := ["flow"]
theorem sc_p_check_balanced : FnScope N_p_check_balanced ["flow"] (defScope st_p_check_balanced) := ⟨rfl, rfl, rfl, by decide +kernel, rfl, by decide +kernel, by decide +kernel⟩
theorem ok_p_check_balanced {f : Addr} {fd : FuncData} (F : Fun K "check_balanced" "check_balanced" st_p_check_balanced f fd) (hm : mg "check_balanced" = some (.ref f)) (b : Binds K fd ["flow"] []) (T : Top K mg) (H_p_tilt : Fok P wd ⟨K, mg⟩ base 8 "tilt" 1 F_p_tilt) : Fok P wd ⟨K, mg⟩ base 9 "check_balanced" 1 F_p_check_balanced :=
  fok_of (N := N_p_check_balanced) F sc_p_check_balanced hm b (fun cdv A outer s H E c =>
    (ds_one (ds_if (dt_notN (de_call H_p_tilt (by decide) c.hr c.tk (by rfl) (by rfl) (da_cons (de_var (pv 0)) da_nil) (hlen := (alen_cons alen_nil)))) (ds_one ds_never) ds_nil)))
abbrev st_p_repetitions : Stmt := topS 40
abbrev N_p_repetitions : List Str := ["flow", "shares", "counts", "part", "whole", "box", "steps"]
theorem sc_p_repetitions : FnScope N_p_repetitions ["flow"] (defScope st_p_repetitions) := ⟨rfl, rfl, rfl, by decide +kernel, rfl, by decide +kernel, by decide +kernel⟩
theorem ok_p_repetitions {f : Addr} {fd : FuncData} (F : Fun K "repetitions" "repetitions" st_p_repetitions f fd) (hm : mg "repetitions" = some (.ref f)) (b : Binds K fd ["flow"] []) (T : Top K mg) (H_p_check_balanced : Fok P wd ⟨K, mg⟩ base 9 "check_balanced" 1 F_p_check_balanced) (H_p_parts : Fok P wd ⟨K, mg⟩ base 6 "parts" 1 F_p_parts) (H_p_rate_along : Fok P wd ⟨K, mg⟩ base 1 "rate_along" 2 F_p_rate_along) (H_p_trails : Fok P wd ⟨K, mg⟩ base 7 "trails" 1 F_p_trails) : Fok P wd ⟨K, mg⟩ base 10 "repetitions" 1 F_p_repetitions :=
  fok_of (N := N_p_repetitions) F sc_p_repetitions hm b (fun cdv A outer s H E c =>
    (ds_cons (ds_expr (de_call H_p_check_balanced (by decide) c.hr c.tk (by rfl) (by rfl) (da_cons (de_var (pv 0)) da_nil) (hlen := (alen_cons alen_nil))))
    (ds_cons (ds_setT (ps_setDc (i := 1) (own := [("box", 5), ("steps", 6)]) c.calm sc_p_repetitions.nd rfl rfl (sw_trueD rfl rfl rfl (by decide +kernel)) (di_items (de_call H_p_trails (by decide) c.hr c.tk (by rfl) (by rfl) (da_cons (de_var (pv 0)) da_nil) (hlen := (alen_cons alen_nil)))) (blkOk_by (N := N_p_repetitions) (sc := defScope st_p_repetitions) (by decide +kernel)) (fun _ _ _ _ _ => (dg_tup (c.blk _ _ _ _ _).calm (dg_cons (dg_name (pg_name (i := 5) sc_p_repetitions.nd rfl (Or.inl rfl))) (dg_cons (dg_name (pg_name (i := 6) sc_p_repetitions.nd rfl (Or.inl rfl))) dg_nil)))) (fun _ _ _ _ _ => dts_nil) (fun _ _ _ _ _ => (de_var (pv 5))) (fun _ _ _ _ _ => (de_call H_p_rate_along (by decide) (c.blk _ _ _ _ _).hr (c.blk _ _ _ _ _).tk (by rfl) (by rfl) (da_cons (de_ix (jo_ix (c.blk _ _ _ _ _).u1) (de_var (pv 0)) de_int (fun _ _ => rfl)) (da_cons (de_var (pv 6)) da_nil)) (hlen := (alen_cons (alen_cons alen_nil)))))) (dcUse (by decide)))
    (ds_cons (ds_set (fun te h => ps_set (i := 2) sc_p_repetitions.nd rfl (Or.inr rfl) h) de_dctL)
    (ds_cons (ds_for c.po c.calm (di_seq (de_call H_p_parts (by decide) c.hr c.tk (by rfl) (by rfl) (da_cons (de_var (pv 0)) da_nil) (hlen := (alen_cons alen_nil)))) (dg_name (pg_name (i := 3) sc_p_repetitions.nd rfl (Or.inl rfl))) (ds_cons (ds_set (fun te h => ps_set (i := 4) sc_p_repetitions.nd rfl (Or.inl rfl) h) de_int)
    (ds_cons (ds_for c.po c.calm (di_seq (de_var (pv 3))) (dg_name (pg_name (i := 5) sc_p_repetitions.nd rfl (Or.inl rfl))) (ds_one (ds_set (fun te h => ps_set (i := 4) sc_p_repetitions.nd rfl (Or.inl rfl) h) (de_callBf jc_lcm (by rfl) T.lcm (da_cons (de_var (pv 4)) (da_cons (de_ix (jo_ix c.u1) (de_ix (jo_ix c.u1) (de_var (pv 1)) (de_var (pv 5)) (fun _ _ => rfl)) de_int (fun _ _ => rfl)) da_nil))))))
    (ds_one (ds_for c.po c.calm (di_seq (de_var (pv 3))) (dg_name (pg_name (i := 5) sc_p_repetitions.nd rfl (Or.inl rfl))) (ds_one (ds_put (de_var (pv 2)) (de_var (pv 5)) (de_op jo_div (de_op jo_mul (de_ix (jo_ix c.u1) (de_ix (jo_ix c.u1) (de_var (pv 1)) (de_var (pv 5)) (fun _ _ => rfl)) de_int (fun _ _ => rfl)) (de_var (pv 4))) (de_ix (jo_ix c.u1) (de_ix (jo_ix c.u1) (de_var (pv 1)) (de_var (pv 5)) (fun _ _ => rfl)) de_int (fun _ _ => rfl))) c.u1)))))))
    (ds_one (ds_ret (de_callTy jc_tuple (by rfl) T.tuple (by decide +kernel) (da_cons (de_lc (own := [("box", 5)]) (by decide) (.inl rfl) (pe_lc (own := [("box", 5)]) c.calm sc_p_repetitions.nd (di_rng1 (by rfl) T.range (da_cons (de_ix (jo_ix c.u1) (de_var (pv 0)) de_int (fun _ _ => rfl)) da_nil)) (blkOk_by (N := N_p_repetitions) (sc := defScope st_p_repetitions) (by decide +kernel)) (fun _ _ _ _ _ => (dg_name (pg_name (i := 5) sc_p_repetitions.nd rfl (Or.inl rfl)))) (fun _ _ _ _ _ => dts_nil) (fun _ _ _ _ _ => (de_ix (jo_ix (c.blk _ _ _ _ _).u1) (de_var (pv 2)) (de_var (pv 5)) (fun _ _ => rfl))))) da_nil)))))))))
abbrev st_p_round_counts : Stmt := topS 50
abbrev N_p_round_counts : List Str := ["flow", "counts"]
theorem sc_p_round_counts : FnScope N_p_round_counts ["flow"] (defScope st_p_round_counts) := ⟨rfl, rfl, rfl, by decide +kernel, rfl, by decide +kernel, by decide +kernel⟩
theorem ok_p_round_counts {f : Addr} {fd : FuncData} (F : Fun K "round_counts" "round_counts" st_p_round_counts f fd) (hm : mg "round_counts" = some (.ref f)) (b : Binds K fd ["flow"] []) (T : Top K mg) (H_p_repetitions : Fok P wd ⟨K, mg⟩ base 10 "repetitions" 1 F_p_repetitions) : Fok P wd ⟨K, mg⟩ base 11 "round_counts" 1 F_p_round_counts :=
  fok_of (N := N_p_round_counts) F sc_p_round_counts hm b (fun cdv A outer s H E c =>
    (ds_cons (ds_set (fun te h => ps_set (i := 1) sc_p_round_counts.nd rfl (Or.inl rfl) h) (de_call H_p_repetitions (by decide) c.hr c.tk (by rfl) (by rfl) (da_cons (de_var (pv 0)) da_nil) (hlen := (alen_cons alen_nil))))
    (ds_cons (ds_if (dt_cmp jo_gt (de_callB (jc_sum c.calm) (by rfl) T.sum (by decide +kernel) (da_cons (de_var (pv 1)) da_nil)) (de_c (d := .int 2000) (pe_glob (v := .int 2000) (by rfl) T.c_MOST_FIRINGS.choose_spec ⟨_, rfl⟩) fun _ => rfl) (nomark _)) (ds_one ds_never) ds_nil)
    (ds_one (ds_ret (de_var (pv 1)))))))
abbrev st_p_live_counts : Stmt := topS 51
abbrev N_p_live_counts : List Str := ["flow", "counts"]
theorem sc_p_live_counts : FnScope N_p_live_counts ["flow"] (defScope st_p_live_counts) := ⟨rfl, rfl, rfl, by decide +kernel, rfl, by decide +kernel, by decide +kernel⟩
theorem ok_p_live_counts {f : Addr} {fd : FuncData} (F : Fun K "live_counts" "live_counts" st_p_live_counts f fd) (hm : mg "live_counts" = some (.ref f)) (b : Binds K fd ["flow"] []) (T : Top K mg) (H_p_most_counts : Fok P wd ⟨K, mg⟩ base 2 "most_counts" 2 F_p_most_counts) (H_p_round_counts : Fok P wd ⟨K, mg⟩ base 11 "round_counts" 1 F_p_round_counts) : Fok P wd ⟨K, mg⟩ base 12 "live_counts" 1 F_p_live_counts :=
  fok_of (N := N_p_live_counts) F sc_p_live_counts hm b (fun cdv A outer s H E c =>
    (ds_cons (ds_set (fun te h => ps_set (i := 1) sc_p_live_counts.nd rfl (Or.inl rfl) h) (de_call H_p_round_counts (by decide) c.hr c.tk (by rfl) (by rfl) (da_cons (de_var (pv 0)) da_nil) (hlen := (alen_cons alen_nil))))
    (ds_cons (ds_if (dt_cmp (jo_ne c.u64) (de_call H_p_most_counts (by decide) c.hr c.tk (by rfl) (by rfl) (da_cons (de_ix (jo_ix c.u1) (de_var (pv 0)) de_int (fun _ _ => rfl)) (da_cons (de_var (pv 1)) da_nil)) (hlen := (alen_cons (alen_cons alen_nil)))) (de_var (pv 1)) (nomark _)) (ds_one ds_never) ds_nil)
    (ds_one (ds_ret (de_var (pv 1)))))))
abbrev st_p_unrolled_counts : Stmt := topS 56
abbrev N_p_unrolled_counts : List Str := ["flow", "counts"]
theorem sc_p_unrolled_counts : FnScope N_p_unrolled_counts ["flow"] (defScope st_p_unrolled_counts) := ⟨rfl, rfl, rfl, by decide +kernel, rfl, by decide +kernel, by decide +kernel⟩
theorem ok_p_unrolled_counts {f : Addr} {fd : FuncData} (F : Fun K "unrolled_counts" "unrolled_counts" st_p_unrolled_counts f fd) (hm : mg "unrolled_counts" = some (.ref f)) (b : Binds K fd ["flow"] []) (T : Top K mg) (H_p_live_counts : Fok P wd ⟨K, mg⟩ base 12 "live_counts" 1 F_p_live_counts) : Fok P wd ⟨K, mg⟩ base 13 "unrolled_counts" 1 F_p_unrolled_counts :=
  fok_of (N := N_p_unrolled_counts) F sc_p_unrolled_counts hm b (fun cdv A outer s H E c =>
    (ds_cons (ds_set (fun te h => ps_set (i := 1) sc_p_unrolled_counts.nd rfl (Or.inl rfl) h) (de_call H_p_live_counts (by decide) c.hr c.tk (by rfl) (by rfl) (da_cons (de_var (pv 0)) da_nil) (hlen := (alen_cons alen_nil))))
    (ds_cons (ds_if (dt_cmp jo_gt (de_callB (jc_sum c.calm) (by rfl) T.sum (by decide +kernel) (da_cons (de_var (pv 1)) da_nil)) (de_c (d := .int 120) (pe_glob (v := .int 120) (by rfl) T.c_MOST_UNROLLED.choose_spec ⟨_, rfl⟩) fun _ => rfl) (nomark _)) (ds_one ds_never) ds_nil)
    (ds_one (ds_ret (de_var (pv 1)))))))
abbrev st_p_needs : Stmt := topS 55
abbrev N_p_needs : List Str := ["flow", "counts", "found", "pipe", "one", "other", "number", "last", "step"]
theorem sc_p_needs : FnScope N_p_needs ["flow"] (defScope st_p_needs) := ⟨rfl, rfl, rfl, by decide +kernel, rfl, by decide +kernel, by decide +kernel⟩
theorem ok_p_needs {f : Addr} {fd : FuncData} (F : Fun K "needs" "needs" st_p_needs f fd) (hm : mg "needs" = some (.ref f)) (b : Binds K fd ["flow"] []) (T : Top K mg) (H_p_last_needed : Fok P wd ⟨K, mg⟩ base 1 "last_needed" 2 F_p_last_needed) (H_p_unrolled_counts : Fok P wd ⟨K, mg⟩ base 13 "unrolled_counts" 1 F_p_unrolled_counts) : Fok P wd ⟨K, mg⟩ base 14 "needs" 1 F_p_needs :=
  fok_of (N := N_p_needs) F sc_p_needs hm b (fun cdv A outer s H E c =>
    (ds_cons (ds_set (fun te h => ps_set (i := 1) sc_p_needs.nd rfl (Or.inl rfl) h) (de_call H_p_unrolled_counts (by decide) c.hr c.tk (by rfl) (by rfl) (da_cons (de_var (pv 0)) da_nil) (hlen := (alen_cons alen_nil))))
    (ds_cons (ds_set (fun te h => ps_set (i := 2) sc_p_needs.nd rfl (Or.inl rfl) h) de_dctNL)
    (ds_cons (ds_for c.po c.calm (di_seq (de_ix (jo_ix c.u1) (de_var (pv 0)) de_int (fun _ _ => rfl))) (dg_name (pg_name (i := 3) sc_p_needs.nd rfl (Or.inl rfl))) (ds_cons (ds_asg (de_slice (de_var (pv 3)) dp_none (dp_some de_int)) (dg_tup c.calm (dg_cons (dg_name (pg_name (i := 4) sc_p_needs.nd rfl (Or.inl rfl))) (dg_cons (dg_name (pg_name (i := 5) sc_p_needs.nd rfl (Or.inl rfl))) dg_nil))))
    (ds_one (ds_for c.po c.calm (di_rng1 (by rfl) T.range (da_cons (de_ix (jo_ix c.u1) (de_var (pv 1)) (de_var (pv 5)) (fun _ _ => rfl)) da_nil)) (dg_name (pg_name (i := 6) sc_p_needs.nd rfl (Or.inl rfl))) (ds_cons (ds_set (fun te h => ps_set (i := 7) sc_p_needs.nd rfl (Or.inl rfl) h) (de_call H_p_last_needed (by decide) c.hr c.tk (by rfl) (by rfl) (da_cons (de_var (pv 3)) (da_cons (de_var (pv 6)) da_nil)) (hlen := (alen_cons (alen_cons alen_nil)))))
    (ds_cons (ds_set (fun te h => ps_set (i := 8) sc_p_needs.nd rfl (Or.inl rfl) h) (de_tup (da_cons (de_tup (da_cons (de_var (pv 4)) (da_cons (de_op jo_mod (de_var (pv 7)) (de_ix (jo_ix c.u1) (de_var (pv 1)) (de_var (pv 4)) (fun _ _ => rfl))) da_nil))) (da_cons (de_tup (da_cons (de_var (pv 5)) (da_cons (de_var (pv 6)) da_nil))) (da_cons (de_un ju_neg (de_op jo_div (de_var (pv 7)) (de_ix (jo_ix c.u1) (de_var (pv 1)) (de_var (pv 4)) (fun _ _ => rfl)))) da_nil)))))
    (ds_one (ds_putN (de_var (pv 2)) (de_var (pv 8)) de_bl c.u64))))))))
    (ds_one (ds_ret (de_callTy jc_tuple (by rfl) T.tuple (by decide +kernel) (da_cons (de_callB (jc_sortedD c.u64) (by rfl) T.sorted (by decide +kernel) (da_cons (de_callTy (jc_listN c.calm) (by rfl) T.list (by decide +kernel) (da_cons (de_var (pv 2)) da_nil)) da_nil)) da_nil))))))))
abbrev st_p_all_steps : Stmt := topS 59
abbrev N_p_all_steps : List Str := ["flow", "counts", "steps", "box", "many", "number"]
theorem sc_p_all_steps : FnScope N_p_all_steps ["flow", "counts"] (defScope st_p_all_steps) := ⟨rfl, rfl, rfl, by decide +kernel, rfl, by decide +kernel, by decide +kernel⟩
theorem ok_p_all_steps {f : Addr} {fd : FuncData} (F : Fun K "all_steps" "all_steps" st_p_all_steps f fd) (hm : mg "all_steps" = some (.ref f)) (b : Binds K fd ["flow", "counts"] []) (T : Top K mg) (H_p_needs : Fok P wd ⟨K, mg⟩ base 14 "needs" 1 F_p_needs) : Fok P wd ⟨K, mg⟩ base 15 "all_steps" 2 F_p_all_steps :=
  fok_of (N := N_p_all_steps) F sc_p_all_steps hm b (fun cdv A outer s H E c =>
    (ds_cons (ds_set (fun te h => ps_set (i := 2) sc_p_all_steps.nd rfl (Or.inl rfl) h) (de_callTy jc_listL (by rfl) T.list (by decide +kernel) (da_cons (de_call H_p_needs (by decide) c.hr c.tk (by rfl) (by rfl) (da_cons (de_var (pv 0)) da_nil) (hlen := (alen_cons alen_nil))) da_nil)))
    (ds_cons (ds_for c.po c.calm (di_enum (by rfl) T.enumerate (da_cons (de_var (pv 1)) da_nil)) (dg_tup c.calm (dg_cons (dg_name (pg_name (i := 3) sc_p_all_steps.nd rfl (Or.inr rfl))) (dg_cons (dg_name (pg_name (i := 4) sc_p_all_steps.nd rfl (Or.inl rfl))) dg_nil))) (ds_cons (ds_expr (de_meth PySem.F.slot_list_extend PySem.F.type_list_extend jm_extendS (de_var (pv 2)) (da_cons (de_lc (own := [("number", 5)]) (by decide) (.inl rfl) (pe_lc (own := [("number", 5)]) c.calm sc_p_all_steps.nd (di_rng1 (by rfl) T.range (da_cons (de_op jo_sub (de_var (pv 4)) de_int) da_nil)) (blkOk_by (N := N_p_all_steps) (sc := defScope st_p_all_steps) (by decide +kernel)) (fun _ _ _ _ _ => (dg_name (pg_name (i := 5) sc_p_all_steps.nd rfl (Or.inl rfl)))) (fun _ _ _ _ _ => dts_nil) (fun _ _ _ _ _ => (de_tup (da_cons (de_tup (da_cons (de_var (pv 3)) (da_cons (de_var (pv 5)) da_nil))) (da_cons (de_tup (da_cons (de_var (pv 3)) (da_cons (de_op jo_add (de_var (pv 5)) de_int) da_nil))) (da_cons de_int da_nil))))))) da_nil)))
    (ds_one (ds_expr (de_meth PySem.F.slot_list_append PySem.F.type_list_append jm_append (de_var (pv 2)) (da_cons (de_tup (da_cons (de_tup (da_cons (de_var (pv 3)) (da_cons (de_op jo_sub (de_var (pv 4)) de_int) da_nil))) (da_cons (de_tup (da_cons (de_var (pv 3)) (da_cons de_int da_nil))) (da_cons de_int da_nil)))) da_nil))))))
    (ds_one (ds_ret (de_var (pv 2)))))))
abbrev st_p_check_times : Stmt := topS 23
abbrev N_p_check_times : List Str := ["flow", "times", "index", "time"]
theorem sc_p_check_times : FnScope N_p_check_times ["flow", "times"] (defScope st_p_check_times) := ⟨rfl, rfl, rfl, by decide +kernel, rfl, by decide +kernel, by decide +kernel⟩
theorem ok_p_check_times {f : Addr} {fd : FuncData} (F : Fun K "check_times" "check_times" st_p_check_times f fd) (hm : mg "check_times" = some (.ref f)) (b : Binds K fd ["flow", "times"] []) (T : Top K mg) (H_p_is_number : Fok P wd ⟨K, mg⟩ base 2 "is_number" 3 F_p_is_number) (H_p_is_row : Fok P wd ⟨K, mg⟩ base 1 "is_row" 2 F_p_is_row) : Fok P wd ⟨K, mg⟩ base 3 "check_times" 2 F_p_check_times :=
  fok_of (N := N_p_check_times) F sc_p_check_times hm b (fun cdv A outer s H E c =>
    (ds_cons (ds_if (dt_not (dt_truth (de_call H_p_is_row (by decide) c.hr c.tk (by rfl) (by rfl) (da_cons (de_var (pv 1)) (da_cons (de_ix (jo_ix c.u1) (de_var (pv 0)) de_int (fun _ _ => rfl)) da_nil)) (hlen := (alen_cons (alen_cons alen_nil)))))) (ds_one ds_never) ds_nil)
    (ds_one (ds_for c.po c.calm (di_enum (by rfl) T.enumerate (da_cons (de_var (pv 1)) da_nil)) (dg_tup c.calm (dg_cons (dg_name (pg_name (i := 2) sc_p_check_times.nd rfl (Or.inl rfl))) (dg_cons (dg_name (pg_name (i := 3) sc_p_check_times.nd rfl (Or.inl rfl))) dg_nil))) (ds_one (ds_if (dt_not (dt_truth (de_call H_p_is_number (by decide) c.hr c.tk (by rfl) (by rfl) (da_cons (de_var (pv 3)) (da_cons de_int (da_cons (de_c (d := .int 99) (pe_glob (v := .int 99) (by rfl) T.c_MOST_DURATION.choose_spec ⟨_, rfl⟩) fun _ => rfl) da_nil))) (hlen := (alen_cons (alen_cons (alen_cons alen_nil))))))) (ds_one ds_never) ds_nil))))))
abbrev st_p_knots : Stmt := topS 27
abbrev N_p_knots : List Str := ["flow"]
theorem sc_p_knots : FnScope N_p_knots ["flow"] (defScope st_p_knots) := ⟨rfl, rfl, rfl, by decide +kernel, rfl, by decide +kernel, by decide +kernel⟩
theorem ok_p_knots {f : Addr} {fd : FuncData} (F : Fun K "knots" "knots" st_p_knots f fd) (hm : mg "knots" = some (.ref f)) (b : Binds K fd ["flow"] []) (T : Top K mg) (H_p_check_flow : Fok P wd ⟨K, mg⟩ base 5 "check_flow" 1 F_p_check_flow) (H_p_grouped : Fok P wd ⟨K, mg⟩ base 2 "grouped" 2 F_p_grouped) (H_p_pipe_links : Fok P wd ⟨K, mg⟩ base 1 "pipe_links" 1 F_p_pipe_links) : Fok P wd ⟨K, mg⟩ base 6 "knots" 1 F_p_knots :=
  fok_of (N := N_p_knots) F sc_p_knots hm b (fun cdv A outer s H E c =>
    (ds_cons (ds_expr (de_call H_p_check_flow (by decide) c.hr c.tk (by rfl) (by rfl) (da_cons (de_var (pv 0)) da_nil) (hlen := (alen_cons alen_nil))))
    (ds_one (ds_ret (de_call H_p_grouped (by decide) c.hr c.tk (by rfl) (by rfl) (da_cons (de_ix (jo_ix c.u1) (de_var (pv 0)) de_int (fun _ _ => rfl)) (da_cons (de_call H_p_pipe_links (by decide) c.hr c.tk (by rfl) (by rfl) (da_cons (de_var (pv 0)) da_nil) (hlen := (alen_cons alen_nil))) da_nil)) (hlen := (alen_cons (alen_cons alen_nil))))))))
abbrev st_p_ring_mean : Stmt := topS 60
abbrev N_p_ring_mean : List Str := ["ring", "times", "time", "rounds", "common", "first", "_", "ago"]
theorem sc_p_ring_mean : FnScope N_p_ring_mean ["ring", "times"] (defScope st_p_ring_mean) := ⟨rfl, rfl, rfl, by decide +kernel, rfl, by decide +kernel, by decide +kernel⟩
theorem ok_p_ring_mean {f : Addr} {fd : FuncData} (F : Fun K "ring_mean" "ring_mean" st_p_ring_mean f fd) (hm : mg "ring_mean" = some (.ref f)) (b : Binds K fd ["ring", "times"] []) (T : Top K mg)  : Fok P wd ⟨K, mg⟩ base 1 "ring_mean" 2 F_p_ring_mean :=
  fok_of (N := N_p_ring_mean) F sc_p_ring_mean hm b (fun cdv A outer s H E c =>
    (ds_cons (ds_set (fun te h => ps_set (i := 2) sc_p_ring_mean.nd rfl (Or.inl rfl) h) (de_callB (jc_sum c.calm) (by rfl) T.sum (by decide +kernel) (da_cons (de_lc (own := [("first", 5), ("_", 6)]) (by decide) (.inl rfl) (pe_lc (own := [("first", 5), ("_", 6)]) c.calm sc_p_ring_mean.nd (di_seq (de_var (pv 0))) (blkOk_by (N := N_p_ring_mean) (sc := defScope st_p_ring_mean) (by decide +kernel)) (fun _ _ _ _ _ => (dg_tup (c.blk _ _ _ _ _).calm (dg_cons (dg_name (pg_name (i := 5) sc_p_ring_mean.nd rfl (Or.inl rfl))) (dg_cons (dg_name (pg_name (i := 6) sc_p_ring_mean.nd rfl (Or.inl rfl))) (dg_cons (dg_name (pg_name (i := 6) sc_p_ring_mean.nd rfl (Or.inl rfl))) dg_nil))))) (fun _ _ _ _ _ => dts_nil) (fun _ _ _ _ _ => (de_ix (jo_ix (c.blk _ _ _ _ _).u1) (de_var (pv 1)) (de_ix (jo_ix (c.blk _ _ _ _ _).u1) (de_var (pv 5)) de_int (fun _ _ => rfl)) (fun _ _ => rfl))))) da_nil)))
    (ds_cons (ds_set (fun te h => ps_set (i := 3) sc_p_ring_mean.nd rfl (Or.inl rfl) h) (de_callB (jc_sum c.calm) (by rfl) T.sum (by decide +kernel) (da_cons (de_lc (own := [("_", 6), ("ago", 7)]) (by decide) (.inl rfl) (pe_lc (own := [("_", 6), ("ago", 7)]) c.calm sc_p_ring_mean.nd (di_seq (de_var (pv 0))) (blkOk_by (N := N_p_ring_mean) (sc := defScope st_p_ring_mean) (by decide +kernel)) (fun _ _ _ _ _ => (dg_tup (c.blk _ _ _ _ _).calm (dg_cons (dg_name (pg_name (i := 6) sc_p_ring_mean.nd rfl (Or.inl rfl))) (dg_cons (dg_name (pg_name (i := 6) sc_p_ring_mean.nd rfl (Or.inl rfl))) (dg_cons (dg_name (pg_name (i := 7) sc_p_ring_mean.nd rfl (Or.inl rfl))) dg_nil))))) (fun _ _ _ _ _ => dts_nil) (fun _ _ _ _ _ => (de_var (pv 7))))) da_nil)))
    (ds_cons (ds_set (fun te h => ps_set (i := 4) sc_p_ring_mean.nd rfl (Or.inl rfl) h) (de_callBf jc_gcd (by rfl) T.gcd (da_cons (de_var (pv 2)) (da_cons (de_var (pv 3)) da_nil))))
    (ds_one (ds_ret (de_tup (da_cons (de_op jo_div (de_var (pv 2)) (de_var (pv 4))) (da_cons (de_op jo_div (de_var (pv 3)) (de_var (pv 4))) da_nil)))))))))
abbrev st_p_ring_to : Stmt := topS 65
abbrev N_p_ring_to : List Str := ["last", "firing", "ring"]
theorem sc_p_ring_to : FnScope N_p_ring_to ["last", "firing"] (defScope st_p_ring_to) := ⟨rfl, rfl, rfl, by decide +kernel, rfl, by decide +kernel, by decide +kernel⟩
theorem ok_p_ring_to {f : Addr} {fd : FuncData} (F : Fun K "ring_to" "ring_to" st_p_ring_to f fd) (hm : mg "ring_to" = some (.ref f)) (b : Binds K fd ["last", "firing"] []) (T : Top K mg)  : Fok P wd ⟨K, mg⟩ base 1 "ring_to" 2 F_p_ring_to :=
  fok_of (N := N_p_ring_to) F sc_p_ring_to hm b (fun cdv A outer s H E c =>
    (ds_cons (ds_set (fun te h => ps_set (i := 2) sc_p_ring_to.nd rfl (Or.inl rfl) h) (de_lstL (da_cons (de_ix (jo_ixT c.u1) (de_var (pv 0)) (de_var (pv 1)) (fun _ _ => rfl)) da_nil)))
    (ds_cons (ds_while c.po (dt_cmp (jo_ne c.u64) (de_ix (jo_ix c.u1) (de_ix (jo_ix c.u1) (de_var (pv 2)) de_int (fun _ _ => rfl)) de_int (fun _ _ => rfl)) (de_var (pv 1)) (nomark _)) (ds_one (ds_expr (de_meth PySem.F.slot_list_insert PySem.F.type_list_insert jm_insert (de_var (pv 2)) (da_cons de_int (da_cons (de_ix (jo_ixT c.u1) (de_var (pv 0)) (de_ix (jo_ix c.u1) (de_ix (jo_ix c.u1) (de_var (pv 2)) de_int (fun _ _ => rfl)) de_int (fun _ _ => rfl)) (fun _ _ => rfl)) da_nil))))))
    (ds_one (ds_ret (de_callTy jc_tuple (by rfl) T.tuple (by decide +kernel) (da_cons (de_var (pv 2)) da_nil)))))))
abbrev st_p_closed_ring : Stmt := topS 64
abbrev N_p_closed_ring : List Str := ["last", "met", "start", "firing"]
theorem sc_p_closed_ring : FnScope N_p_closed_ring ["last"] (defScope st_p_closed_ring) := ⟨rfl, rfl, rfl, by decide +kernel, rfl, by decide +kernel, by decide +kernel⟩
theorem ok_p_closed_ring {f : Addr} {fd : FuncData} (F : Fun K "closed_ring" "closed_ring" st_p_closed_ring f fd) (hm : mg "closed_ring" = some (.ref f)) (b : Binds K fd ["last"] []) (T : Top K mg) (H_p_ring_to : Fok P wd ⟨K, mg⟩ base 1 "ring_to" 2 F_p_ring_to) : Fok P wd ⟨K, mg⟩ base 2 "closed_ring" 1 F_p_closed_ring :=
  fok_of (N := N_p_closed_ring) F sc_p_closed_ring hm b (fun cdv A outer s H E c =>
    (ds_cons (ds_set (fun te h => ps_set (i := 1) sc_p_closed_ring.nd rfl (Or.inl rfl) h) de_dctTL)
    (ds_cons (ds_for c.po c.calm (di_iterT (de_var (pv 0))) (dg_name (pg_name (i := 2) sc_p_closed_ring.nd rfl (Or.inl rfl))) (ds_cons (ds_set (fun te h => ps_set (i := 3) sc_p_closed_ring.nd rfl (Or.inl rfl) h) (de_var (pv 2)))
    (ds_cons (ds_while c.po (PW.pt (dw_and (dt_cmp (jo_inT c.u65) (de_var (pv 3)) (de_var (pv 0)) (by rfl)) (dw_and1 (dt_cmp (jo_ninT c.u65) (de_var (pv 3)) (de_var (pv 1)) (by rfl))))) (ds_cons (ds_put (de_var (pv 1)) (de_var (pv 3)) (de_var (pv 2)) c.u1)
    (ds_one (ds_set (fun te h => ps_set (i := 3) sc_p_closed_ring.nd rfl (Or.inl rfl) h) (de_ix (jo_ix c.u1) (de_ix (jo_ixT c.u1) (de_var (pv 0)) (de_var (pv 3)) (fun _ _ => rfl)) de_int (fun _ _ => rfl))))))
    (ds_one (ds_if (PW.pt (dw_and (dt_cmp (jo_inT c.u65) (de_var (pv 3)) (de_var (pv 0)) (by rfl)) (dw_and1 (dt_cmp (jo_eq c.u64) (de_ix (jo_ixT c.u1) (de_var (pv 1)) (de_var (pv 3)) (fun _ _ => rfl)) (de_var (pv 2)) (nomark _))))) (ds_one (ds_ret (de_call H_p_ring_to (by decide) c.hr c.tk (by rfl) (by rfl) (da_cons (de_var (pv 0)) (da_cons (de_var (pv 3)) da_nil)) (hlen := (alen_cons (alen_cons alen_nil)))))) ds_nil)))))
    (ds_one (ds_ret de_non)))))
abbrev st_p_slower_ring : Stmt := topS 63
abbrev N_p_slower_ring : List Str := ["steps", "times", "mean", "time", "rounds", "worth", "last", "moved", "step", "first", "second", "ago", "more", "ring", "_"]
theorem sc_p_slower_ring : FnScope N_p_slower_ring ["steps", "times", "mean"] (defScope st_p_slower_ring) := ⟨rfl, rfl, rfl, by decide +kernel, rfl, by decide +kernel, by decide +kernel⟩
theorem ok_p_slower_ring {f : Addr} {fd : FuncData} (F : Fun K "slower_ring" "slower_ring" st_p_slower_ring f fd) (hm : mg "slower_ring" = some (.ref f)) (b : Binds K fd ["steps", "times", "mean"] []) (T : Top K mg) (H_p_closed_ring : Fok P wd ⟨K, mg⟩ base 2 "closed_ring" 1 F_p_closed_ring) : Fok P wd ⟨K, mg⟩ base 3 "slower_ring" 3 F_p_slower_ring :=
  fok_of (N := N_p_slower_ring) F sc_p_slower_ring hm b (fun cdv A outer s H E c =>
    (ds_cons (ds_asg (de_var (pv 2)) (dg_tup c.calm (dg_cons (dg_name (pg_name (i := 3) sc_p_slower_ring.nd rfl (Or.inl rfl))) (dg_cons (dg_name (pg_name (i := 4) sc_p_slower_ring.nd rfl (Or.inl rfl))) dg_nil))))
    (ds_cons (ds_setDcX (i := 5) insT_ok dkT_ok (own := [("_", 14), ("second", 10)]) (by decide) c.u64 c.calm sc_p_slower_ring.nd rfl rfl (sw_trueD rfl rfl rfl (by decide +kernel)) (di_seq (de_var (pv 0))) (blkOk_by (N := N_p_slower_ring) (sc := defScope st_p_slower_ring) (by decide +kernel)) (fun _ _ _ _ _ => (dg_tup (c.blk _ _ _ _ _).calm (dg_cons (dg_name (pg_name (i := 14) sc_p_slower_ring.nd rfl (Or.inl rfl))) (dg_cons (dg_name (pg_name (i := 10) sc_p_slower_ring.nd rfl (Or.inl rfl))) (dg_cons (dg_name (pg_name (i := 14) sc_p_slower_ring.nd rfl (Or.inl rfl))) dg_nil))))) (fun _ _ _ _ _ => (de_var (pv 10))) (fun _ _ _ _ _ => de_int))
    (ds_cons (ds_set (fun te h => ps_set (i := 6) sc_p_slower_ring.nd rfl (Or.inl rfl) h) de_dctTL)
    (ds_cons (ds_set (fun te h => ps_set (i := 7) sc_p_slower_ring.nd rfl (Or.inl rfl) h) de_bl)
    (ds_cons (ds_while c.po (dt_truth (de_var (pv 7))) (ds_cons (ds_set (fun te h => ps_set (i := 7) sc_p_slower_ring.nd rfl (Or.inl rfl) h) de_bl)
    (ds_cons (ds_for c.po c.calm (di_seq (de_var (pv 0))) (dg_name (pg_name (i := 8) sc_p_slower_ring.nd rfl (Or.inl rfl))) (ds_cons (ds_asg (de_var (pv 8)) (dg_tup c.calm (dg_cons (dg_name (pg_name (i := 9) sc_p_slower_ring.nd rfl (Or.inl rfl))) (dg_cons (dg_name (pg_name (i := 10) sc_p_slower_ring.nd rfl (Or.inl rfl))) (dg_cons (dg_name (pg_name (i := 11) sc_p_slower_ring.nd rfl (Or.inl rfl))) dg_nil)))))
    (ds_cons (ds_set (fun te h => ps_set (i := 12) sc_p_slower_ring.nd rfl (Or.inl rfl) h) (de_op jo_sub (de_op jo_add (de_ix (jo_ixT c.u1) (de_var (pv 5)) (de_var (pv 9)) (fun _ _ => rfl)) (de_op jo_mul (de_var (pv 4)) (de_ix (jo_ix c.u1) (de_var (pv 1)) (de_ix (jo_ix c.u1) (de_var (pv 9)) de_int (fun _ _ => rfl)) (fun _ _ => rfl)))) (de_op jo_mul (de_var (pv 3)) (de_var (pv 11)))))
    (ds_one (ds_if (dt_cmp jo_gt (de_var (pv 12)) (de_ix (jo_ixT c.u1) (de_var (pv 5)) (de_var (pv 10)) (fun _ _ => rfl)) (nomark _)) (ds_cons (ds_put (de_var (pv 5)) (de_var (pv 10)) (de_var (pv 12)) c.u1)
    (ds_cons (ds_put (de_var (pv 6)) (de_var (pv 10)) (de_var (pv 8)) c.u1)
    (ds_one (ds_set (fun te h => ps_set (i := 7) sc_p_slower_ring.nd rfl (Or.inl rfl) h) de_bl)))) ds_nil)))))
    (ds_cons (ds_set (fun te h => ps_set (i := 13) sc_p_slower_ring.nd rfl (Or.inl rfl) h) (de_callFz H_p_closed_ring (by decide) c.hr (by rfl) (de_var (pv 6))))
    (ds_one (ds_if (dt_notN (de_var (pv 13))) (ds_one (ds_ret (de_var (pv 13)))) ds_nil))))))
    (ds_one (ds_ret de_non))))))))
abbrev st_p_slowest_ring : Stmt := topS 62
abbrev N_p_slowest_ring : List Str := ["steps", "times", "found", "ring"]
theorem sc_p_slowest_ring : FnScope N_p_slowest_ring ["steps", "times"] (defScope st_p_slowest_ring) := ⟨rfl, rfl, rfl, by decide +kernel, rfl, by decide +kernel, by decide +kernel⟩
theorem ok_p_slowest_ring {f : Addr} {fd : FuncData} (F : Fun K "slowest_ring" "slowest_ring" st_p_slowest_ring f fd) (hm : mg "slowest_ring" = some (.ref f)) (b : Binds K fd ["steps", "times"] []) (T : Top K mg) (H_p_ring_mean : Fok P wd ⟨K, mg⟩ base 1 "ring_mean" 2 F_p_ring_mean) (H_p_slower_ring : Fok P wd ⟨K, mg⟩ base 3 "slower_ring" 3 F_p_slower_ring) : Fok P wd ⟨K, mg⟩ base 4 "slowest_ring" 2 F_p_slowest_ring :=
  fok_of (N := N_p_slowest_ring) F sc_p_slowest_ring hm b (fun cdv A outer s H E c =>
    (ds_cons (ds_set (fun te h => ps_set (i := 2) sc_p_slowest_ring.nd rfl (Or.inl rfl) h) (de_call H_p_slower_ring (by decide) c.hr c.tk (by rfl) (by rfl) (da_cons (de_var (pv 0)) (da_cons (de_var (pv 1)) (da_cons (de_tup (da_cons de_int (da_cons de_int da_nil))) da_nil))) (hlen := (alen_cons (alen_cons (alen_cons alen_nil))))))
    (ds_cons (ds_set (fun te h => ps_set (i := 3) sc_p_slowest_ring.nd rfl (Or.inl rfl) h) (de_var (pv 2)))
    (ds_cons (ds_while c.po (dt_notN (de_var (pv 2))) (ds_cons (ds_set (fun te h => ps_set (i := 3) sc_p_slowest_ring.nd rfl (Or.inl rfl) h) (de_var (pv 2)))
    (ds_one (ds_set (fun te h => ps_set (i := 2) sc_p_slowest_ring.nd rfl (Or.inl rfl) h) (de_call H_p_slower_ring (by decide) c.hr c.tk (by rfl) (by rfl) (da_cons (de_var (pv 0)) (da_cons (de_var (pv 1)) (da_cons (de_call H_p_ring_mean (by decide) c.hr c.tk (by rfl) (by rfl) (da_cons (de_var (pv 3)) (da_cons (de_var (pv 1)) da_nil)) (hlen := (alen_cons (alen_cons alen_nil)))) da_nil))) (hlen := (alen_cons (alen_cons (alen_cons alen_nil)))))))))
    (ds_one (ds_ret (de_var (pv 3))))))))
abbrev st_p_knot_rings : Stmt := topS 77
abbrev N_p_knot_rings : List Str := ["flow", "times", "counts", "steps", "rings", "knot", "inner", "step"]
theorem sc_p_knot_rings : FnScope N_p_knot_rings ["flow", "times"] (defScope st_p_knot_rings) := ⟨rfl, rfl, rfl, by decide +kernel, rfl, by decide +kernel, by decide +kernel⟩
theorem ok_p_knot_rings {f : Addr} {fd : FuncData} (F : Fun K "knot_rings" "knot_rings" st_p_knot_rings f fd) (hm : mg "knot_rings" = some (.ref f)) (b : Binds K fd ["flow", "times"] []) (T : Top K mg) (H_p_all_steps : Fok P wd ⟨K, mg⟩ base 15 "all_steps" 2 F_p_all_steps) (H_p_check_times : Fok P wd ⟨K, mg⟩ base 3 "check_times" 2 F_p_check_times) (H_p_knots : Fok P wd ⟨K, mg⟩ base 6 "knots" 1 F_p_knots) (H_p_slowest_ring : Fok P wd ⟨K, mg⟩ base 4 "slowest_ring" 2 F_p_slowest_ring) (H_p_unrolled_counts : Fok P wd ⟨K, mg⟩ base 13 "unrolled_counts" 1 F_p_unrolled_counts) : Fok P wd ⟨K, mg⟩ base 16 "knot_rings" 2 F_p_knot_rings :=
  fok_of (N := N_p_knot_rings) F sc_p_knot_rings hm b (fun cdv A outer s H E c =>
    (ds_cons (ds_set (fun te h => ps_set (i := 2) sc_p_knot_rings.nd rfl (Or.inl rfl) h) (de_call H_p_unrolled_counts (by decide) c.hr c.tk (by rfl) (by rfl) (da_cons (de_var (pv 0)) da_nil) (hlen := (alen_cons alen_nil))))
    (ds_cons (ds_expr (de_call H_p_check_times (by decide) c.hr c.tk (by rfl) (by rfl) (da_cons (de_var (pv 0)) (da_cons (de_var (pv 1)) da_nil)) (hlen := (alen_cons (alen_cons alen_nil)))))
    (ds_cons (ds_set (fun te h => ps_set (i := 3) sc_p_knot_rings.nd rfl (Or.inl rfl) h) (de_call H_p_all_steps (by decide) c.hr c.tk (by rfl) (by rfl) (da_cons (de_var (pv 0)) (da_cons (de_var (pv 2)) da_nil)) (hlen := (alen_cons (alen_cons alen_nil)))))
    (ds_cons (ds_set (fun te h => ps_set (i := 4) sc_p_knot_rings.nd rfl (Or.inl rfl) h) (de_lstL da_nil))
    (ds_cons (ds_for c.po c.calm (di_seq (de_call H_p_knots (by decide) c.hr c.tk (by rfl) (by rfl) (da_cons (de_var (pv 0)) da_nil) (hlen := (alen_cons alen_nil)))) (dg_name (pg_name (i := 5) sc_p_knot_rings.nd rfl (Or.inr rfl))) (ds_cons (ds_setT (ps_setLc (i := 6) (own := [("step", 7)]) c.calm sc_p_knot_rings.nd rfl rfl (sw_true rfl rfl rfl (by decide +kernel)) (di_seq (de_var (pv 3))) (blkOk_by (N := N_p_knot_rings) (sc := defScope st_p_knot_rings) (by decide +kernel)) (fun _ _ _ _ _ => (dg_name (pg_name (i := 7) sc_p_knot_rings.nd rfl (Or.inl rfl)))) (fun _ _ _ _ _ => (dts_one (PW.pt (dw_and (dt_cmp (jo_in (c.blk _ _ _ _ _).u65) (de_ix (jo_ix (c.blk _ _ _ _ _).u1) (de_ix (jo_ix (c.blk _ _ _ _ _).u1) (de_var (pv 7)) de_int (fun _ _ => rfl)) de_int (fun _ _ => rfl)) (de_var (pv 5)) (by rfl)) (dw_and1 (dt_cmp (jo_in (c.blk _ _ _ _ _).u65) (de_ix (jo_ix (c.blk _ _ _ _ _).u1) (de_ix (jo_ix (c.blk _ _ _ _ _).u1) (de_var (pv 7)) de_int (fun _ _ => rfl)) de_int (fun _ _ => rfl)) (de_var (pv 5)) (by rfl))))))) (fun _ _ _ _ _ => (de_var (pv 7)))) (lcUse (by decide) (.inl rfl)))
    (ds_one (ds_expr (de_meth PySem.F.slot_list_append PySem.F.type_list_append jm_append (de_var (pv 4)) (da_cons (de_call H_p_slowest_ring (by decide) c.hr c.tk (by rfl) (by rfl) (da_cons (de_var (pv 6)) (da_cons (de_var (pv 1)) da_nil)) (hlen := (alen_cons (alen_cons alen_nil)))) da_nil))))))
    (ds_one (ds_ret (de_var (pv 4))))))))))
abbrev st_p_box_means : Stmt := topS 74
abbrev N_p_box_means : List Str := ["flow", "times", "rings", "links", "means", "box", "before", "slowest", "ring", "mean", "one", "other"]
theorem sc_p_box_means : FnScope N_p_box_means ["flow", "times"] (defScope st_p_box_means) := ⟨rfl, rfl, rfl, by decide +kernel, rfl, by decide +kernel, by decide +kernel⟩
theorem ok_p_box_means {f : Addr} {fd : FuncData} (F : Fun K "box_means" "box_means" st_p_box_means f fd) (hm : mg "box_means" = some (.ref f)) (b : Binds K fd ["flow", "times"] []) (T : Top K mg) (H_p_is_greater : Fok P wd ⟨K, mg⟩ base 1 "is_greater" 2 F_p_is_greater) (H_p_knot_rings : Fok P wd ⟨K, mg⟩ base 16 "knot_rings" 2 F_p_knot_rings) (H_p_pipe_links : Fok P wd ⟨K, mg⟩ base 1 "pipe_links" 1 F_p_pipe_links) (H_p_reached : Fok P wd ⟨K, mg⟩ base 1 "reached" 2 F_p_reached) (H_p_ring_mean : Fok P wd ⟨K, mg⟩ base 1 "ring_mean" 2 F_p_ring_mean) : Fok P wd ⟨K, mg⟩ base 17 "box_means" 2 F_p_box_means :=
  fok_of (N := N_p_box_means) F sc_p_box_means hm b (fun cdv A outer s H E c =>
    (ds_cons (ds_set (fun te h => ps_set (i := 2) sc_p_box_means.nd rfl (Or.inl rfl) h) (de_call H_p_knot_rings (by decide) c.hr c.tk (by rfl) (by rfl) (da_cons (de_var (pv 0)) (da_cons (de_var (pv 1)) da_nil)) (hlen := (alen_cons (alen_cons alen_nil)))))
    (ds_cons (ds_setT (ps_setLc (i := 3) (own := [("one", 10), ("other", 11)]) c.calm sc_p_box_means.nd rfl rfl (sw_true rfl rfl rfl (by decide +kernel)) (di_seq (de_call H_p_pipe_links (by decide) c.hr c.tk (by rfl) (by rfl) (da_cons (de_var (pv 0)) da_nil) (hlen := (alen_cons alen_nil)))) (blkOk_by (N := N_p_box_means) (sc := defScope st_p_box_means) (by decide +kernel)) (fun _ _ _ _ _ => (dg_tup (c.blk _ _ _ _ _).calm (dg_cons (dg_name (pg_name (i := 10) sc_p_box_means.nd rfl (Or.inl rfl))) (dg_cons (dg_name (pg_name (i := 11) sc_p_box_means.nd rfl (Or.inl rfl))) dg_nil)))) (fun _ _ _ _ _ => dts_nil) (fun _ _ _ _ _ => (de_tup (da_cons (de_var (pv 11)) (da_cons (de_var (pv 10)) da_nil))))) (lcUse (by decide) (.inl rfl)))
    (ds_cons (ds_set (fun te h => ps_set (i := 4) sc_p_box_means.nd rfl (Or.inl rfl) h) (de_lstL da_nil))
    (ds_cons (ds_for c.po c.calm (di_rng1 (by rfl) T.range (da_cons (de_ix (jo_ix c.u1) (de_var (pv 0)) de_int (fun _ _ => rfl)) da_nil)) (dg_name (pg_name (i := 5) sc_p_box_means.nd rfl (Or.inl rfl))) (ds_cons (ds_set (fun te h => ps_set (i := 6) sc_p_box_means.nd rfl (Or.inl rfl) h) (de_call H_p_reached (by decide) c.hr c.tk (by rfl) (by rfl) (da_cons (de_var (pv 3)) (da_cons (de_var (pv 5)) da_nil)) (hlen := (alen_cons (alen_cons alen_nil)))))
    (ds_cons (ds_set (fun te h => ps_set (i := 7) sc_p_box_means.nd rfl (Or.inl rfl) h) (de_tup (da_cons de_int (da_cons de_int da_nil))))
    (ds_cons (ds_for c.po c.calm (di_seq (de_var (pv 2))) (dg_name (pg_name (i := 8) sc_p_box_means.nd rfl (Or.inl rfl))) (ds_cons (ds_set (fun te h => ps_set (i := 9) sc_p_box_means.nd rfl (Or.inl rfl) h) (de_call H_p_ring_mean (by decide) c.hr c.tk (by rfl) (by rfl) (da_cons (de_var (pv 8)) (da_cons (de_var (pv 1)) da_nil)) (hlen := (alen_cons (alen_cons alen_nil)))))
    (ds_one (ds_if (PW.pt (dw_and (dt_cmp (jo_in c.u65) (de_ix (jo_ix c.u1) (de_ix (jo_ix c.u1) (de_ix (jo_ix c.u1) (de_var (pv 8)) de_int (fun _ _ => rfl)) de_int (fun _ _ => rfl)) de_int (fun _ _ => rfl)) (de_var (pv 6)) (by rfl)) (dw_and1 (dt_truth (de_call H_p_is_greater (by decide) c.hr c.tk (by rfl) (by rfl) (da_cons (de_var (pv 9)) (da_cons (de_var (pv 7)) da_nil)) (hlen := (alen_cons (alen_cons alen_nil)))))))) (ds_one (ds_set (fun te h => ps_set (i := 7) sc_p_box_means.nd rfl (Or.inl rfl) h) (de_var (pv 9)))) ds_nil))))
    (ds_one (ds_expr (de_meth PySem.F.slot_list_append PySem.F.type_list_append jm_append (de_var (pv 4)) (da_cons (de_var (pv 7)) da_nil))))))))
    (ds_one (ds_ret (de_callTy jc_tuple (by rfl) T.tuple (by decide +kernel) (da_cons (de_var (pv 4)) da_nil)))))))))
abbrev st_p_firings : Stmt := topS 54
abbrev N_p_firings : List Str := ["flow", "counts", "box", "many", "number"]
theorem sc_p_firings : FnScope N_p_firings ["flow"] (defScope st_p_firings) := ⟨rfl, rfl, rfl, by decide +kernel, rfl, by decide +kernel, by decide +kernel⟩
theorem ok_p_firings {f : Addr} {fd : FuncData} (F : Fun K "firings" "firings" st_p_firings f fd) (hm : mg "firings" = some (.ref f)) (b : Binds K fd ["flow"] []) (T : Top K mg) (H_p_unrolled_counts : Fok P wd ⟨K, mg⟩ base 13 "unrolled_counts" 1 F_p_unrolled_counts) : Fok P wd ⟨K, mg⟩ base 14 "firings" 1 F_p_firings :=
  fok_of (N := N_p_firings) F sc_p_firings hm b (fun cdv A outer s H E c =>
    (ds_cons (ds_set (fun te h => ps_set (i := 1) sc_p_firings.nd rfl (Or.inl rfl) h) (de_call H_p_unrolled_counts (by decide) c.hr c.tk (by rfl) (by rfl) (da_cons (de_var (pv 0)) da_nil) (hlen := (alen_cons alen_nil))))
    (ds_one (ds_ret (de_callTy jc_tuple (by rfl) T.tuple (by decide +kernel) (da_cons (de_lc2 (own := [("box", 2), ("many", 3), ("number", 4)]) (own1 := [("number", 4)]) (by decide) (by decide) (.inl rfl) (pe_lc2 (own := [("box", 2), ("many", 3), ("number", 4)]) (vs1 := List.map (·.2) [("number", 4)]) c.calm sc_p_firings.nd (di_enum (by rfl) T.enumerate (da_cons (de_var (pv 1)) da_nil)) (blkOk_by (N := N_p_firings) (sc := defScope st_p_firings) (by decide +kernel)) (by decide) (fun _ _ _ _ _ => (dg_tup (c.blk _ _ _ _ _).calm (dg_cons (dg_name (pg_name (i := 2) sc_p_firings.nd rfl (Or.inl rfl))) (dg_cons (dg_name (pg_name (i := 3) sc_p_firings.nd rfl (Or.inl rfl))) dg_nil)))) (fun _ _ _ _ _ => dts_nil) (fun _ _ _ _ _ => (di_rng1 (by rfl) T.range (da_cons (de_var (pv 3)) da_nil))) (fun _ _ _ _ _ => (dg_name (pg_name (i := 4) sc_p_firings.nd rfl (Or.inl rfl)))) (fun _ _ _ _ _ => dts_nil) (fun _ _ _ _ _ => (de_tup (da_cons (de_var (pv 2)) (da_cons (de_var (pv 4)) da_nil)))))) da_nil))))))
abbrev st_p_check_rounds : Stmt := topS 24
abbrev N_p_check_rounds : List Str := ["many"]
theorem sc_p_check_rounds : FnScope N_p_check_rounds ["many"] (defScope st_p_check_rounds) := ⟨rfl, rfl, rfl, by decide +kernel, rfl, by decide +kernel, by decide +kernel⟩
theorem ok_p_check_rounds {f : Addr} {fd : FuncData} (F : Fun K "check_rounds" "check_rounds" st_p_check_rounds f fd) (hm : mg "check_rounds" = some (.ref f)) (b : Binds K fd ["many"] []) (T : Top K mg) (H_p_is_number : Fok P wd ⟨K, mg⟩ base 2 "is_number" 3 F_p_is_number) : Fok P wd ⟨K, mg⟩ base 3 "check_rounds" 1 F_p_check_rounds :=
  fok_of (N := N_p_check_rounds) F sc_p_check_rounds hm b (fun cdv A outer s H E c =>
    (ds_one (ds_if (dt_not (dt_truth (de_call H_p_is_number (by decide) c.hr c.tk (by rfl) (by rfl) (da_cons (de_var (pv 0)) (da_cons de_int (da_cons (de_c (d := .int 60) (pe_glob (v := .int 60) (by rfl) T.c_MOST_ROUNDS.choose_spec ⟨_, rfl⟩) fun _ => rfl) da_nil))) (hlen := (alen_cons (alen_cons (alen_cons alen_nil))))))) (ds_one ds_never) ds_nil)))
abbrev st_p_held_behind : Stmt := topS 33
abbrev N_p_held_behind : List Str := ["pipes", "held", "box", "behind", "place", "one", "other", "give", "eat", "_"]
theorem sc_p_held_behind : FnScope N_p_held_behind ["pipes", "held", "box"] (defScope st_p_held_behind) := ⟨rfl, rfl, rfl, by decide +kernel, rfl, by decide +kernel, by decide +kernel⟩
theorem ok_p_held_behind {f : Addr} {fd : FuncData} (F : Fun K "held_behind" "held_behind" st_p_held_behind f fd) (hm : mg "held_behind" = some (.ref f)) (b : Binds K fd ["pipes", "held", "box"] []) (T : Top K mg)  : Fok P wd ⟨K, mg⟩ base 1 "held_behind" 3 F_p_held_behind :=
  fok_of (N := N_p_held_behind) F sc_p_held_behind hm b (fun cdv A outer s H E c =>
    (ds_cons (ds_set (fun te h => ps_set (i := 3) sc_p_held_behind.nd rfl (Or.inl rfl) h) (de_callTy jc_listL (by rfl) T.list (by decide +kernel) (da_cons (de_var (pv 1)) da_nil)))
    (ds_cons (ds_for c.po c.calm (di_enum (by rfl) T.enumerate (da_cons (de_var (pv 0)) da_nil)) (dg_tup c.calm (dg_cons (dg_name (pg_name (i := 4) sc_p_held_behind.nd rfl (Or.inl rfl))) (dg_cons (dg_tup c.calm (dg_cons (dg_name (pg_name (i := 5) sc_p_held_behind.nd rfl (Or.inl rfl))) (dg_cons (dg_name (pg_name (i := 6) sc_p_held_behind.nd rfl (Or.inl rfl))) (dg_cons (dg_name (pg_name (i := 7) sc_p_held_behind.nd rfl (Or.inl rfl))) (dg_cons (dg_name (pg_name (i := 8) sc_p_held_behind.nd rfl (Or.inl rfl))) (dg_cons (dg_name (pg_name (i := 9) sc_p_held_behind.nd rfl (Or.inl rfl))) dg_nil)))))) dg_nil))) (ds_cons (ds_if (dt_cmp (jo_eq c.u64) (de_var (pv 6)) (de_var (pv 2)) (nomark _)) (ds_one (ds_putAug (de_var (pv 3)) (de_var (pv 4)) (de_var (pv 8)) ji_sub c.u1)) ds_nil)
    (ds_one (ds_if (dt_cmp (jo_eq c.u64) (de_var (pv 5)) (de_var (pv 2)) (nomark _)) (ds_one (ds_putAug (de_var (pv 3)) (de_var (pv 4)) (de_var (pv 7)) ji_add c.u1)) ds_nil))))
    (ds_one (ds_ret (de_callTy jc_tuple (by rfl) T.tuple (by decide +kernel) (da_cons (de_var (pv 3)) da_nil)))))))
abbrev st_p_short_pipes : Stmt := topS 32
abbrev N_p_short_pipes : List Str := ["pipes", "held", "box", "place", "pipe"]
theorem sc_p_short_pipes : FnScope N_p_short_pipes ["pipes", "held", "box"] (defScope st_p_short_pipes) := ⟨rfl, rfl, rfl, by decide +kernel, rfl, by decide +kernel, by decide +kernel⟩
theorem ok_p_short_pipes {f : Addr} {fd : FuncData} (F : Fun K "short_pipes" "short_pipes" st_p_short_pipes f fd) (hm : mg "short_pipes" = some (.ref f)) (b : Binds K fd ["pipes", "held", "box"] []) (T : Top K mg)  : Fok P wd ⟨K, mg⟩ base 1 "short_pipes" 3 F_p_short_pipes :=
  fok_of (N := N_p_short_pipes) F sc_p_short_pipes hm b (fun cdv A outer s H E c =>
    (ds_one (ds_ret (de_lc (own := [("place", 3), ("pipe", 4)]) (by decide) (.inl rfl) (pe_lc (own := [("place", 3), ("pipe", 4)]) c.calm sc_p_short_pipes.nd (di_enum (by rfl) T.enumerate (da_cons (de_var (pv 0)) da_nil)) (blkOk_by (N := N_p_short_pipes) (sc := defScope st_p_short_pipes) (by decide +kernel)) (fun _ _ _ _ _ => (dg_tup (c.blk _ _ _ _ _).calm (dg_cons (dg_name (pg_name (i := 3) sc_p_short_pipes.nd rfl (Or.inl rfl))) (dg_cons (dg_name (pg_name (i := 4) sc_p_short_pipes.nd rfl (Or.inl rfl))) dg_nil)))) (fun _ _ _ _ _ => (dts_one (PW.pt (dw_and (dt_cmp (jo_eq (c.blk _ _ _ _ _).u64) (de_ix (jo_ix (c.blk _ _ _ _ _).u1) (de_var (pv 4)) de_int (fun _ _ => rfl)) (de_var (pv 2)) (nomark _)) (dw_and1 (dt_cmp jo_lt (de_ix (jo_ix (c.blk _ _ _ _ _).u1) (de_var (pv 1)) (de_var (pv 3)) (fun _ _ => rfl)) (de_ix (jo_ix (c.blk _ _ _ _ _).u1) (de_var (pv 4)) de_int (fun _ _ => rfl)) (nomark _))))))) (fun _ _ _ _ _ => (de_var (pv 3))))))))
abbrev st_p_least_word : Stmt := topS 38
abbrev N_p_least_word : List Str := ["pipes", "counts", "held", "left", "word", "box", "pipe", "many"]
theorem sc_p_least_word : FnScope N_p_least_word ["pipes", "counts"] (defScope st_p_least_word) := ⟨rfl, rfl, rfl, by decide +kernel, rfl, by decide +kernel, by decide +kernel⟩
theorem ok_p_least_word {f : Addr} {fd : FuncData} (F : Fun K "least_word" "least_word" st_p_least_word f fd) (hm : mg "least_word" = some (.ref f)) (b : Binds K fd ["pipes", "counts"] []) (T : Top K mg) (H_p_held_behind : Fok P wd ⟨K, mg⟩ base 1 "held_behind" 3 F_p_held_behind) (H_p_most_counts : Fok P wd ⟨K, mg⟩ base 2 "most_counts" 2 F_p_most_counts) (H_p_short_pipes : Fok P wd ⟨K, mg⟩ base 1 "short_pipes" 3 F_p_short_pipes) : Fok P wd ⟨K, mg⟩ base 3 "least_word" 2 F_p_least_word :=
  fok_of (N := N_p_least_word) F sc_p_least_word hm b (fun cdv A outer s H E c =>
    (ds_cons (ds_if (dt_cmp (jo_ne c.u64) (de_call H_p_most_counts (by decide) c.hr c.tk (by rfl) (by rfl) (da_cons (de_var (pv 0)) (da_cons (de_var (pv 1)) da_nil)) (hlen := (alen_cons (alen_cons alen_nil)))) (de_var (pv 1)) (nomark _)) (ds_one (ds_ret de_non)) ds_nil)
    (ds_cons (ds_set (fun te h => ps_set (i := 2) sc_p_least_word.nd rfl (Or.inr rfl) h) (de_callTy jc_tuple (by rfl) T.tuple (by decide +kernel) (da_cons (de_lc (own := [("pipe", 6)]) (by decide) (.inl rfl) (pe_lc (own := [("pipe", 6)]) c.calm sc_p_least_word.nd (di_seq (de_var (pv 0))) (blkOk_by (N := N_p_least_word) (sc := defScope st_p_least_word) (by decide +kernel)) (fun _ _ _ _ _ => (dg_name (pg_name (i := 6) sc_p_least_word.nd rfl (Or.inl rfl)))) (fun _ _ _ _ _ => dts_nil) (fun _ _ _ _ _ => (de_ix (jo_ix (c.blk _ _ _ _ _).u1) (de_var (pv 6)) de_int (fun _ _ => rfl))))) da_nil)))
    (ds_cons (ds_set (fun te h => ps_set (i := 3) sc_p_least_word.nd rfl (Or.inl rfl) h) (de_callTy jc_listL (by rfl) T.list (by decide +kernel) (da_cons (de_var (pv 1)) da_nil)))
    (ds_cons (ds_set (fun te h => ps_set (i := 4) sc_p_least_word.nd rfl (Or.inl rfl) h) (de_lstL da_nil))
    (ds_cons (ds_while c.po (dt_truth (de_callB (jc_any c.calm) (by rfl) T.any (by decide +kernel) (da_cons (de_var (pv 3)) da_nil))) (ds_cons (ds_set (fun te h => ps_set (i := 5) sc_p_least_word.nd rfl (Or.inl rfl) h) (de_callB (jc_min1 c.calm c.u1) (by rfl) T.min (by decide +kernel) (da_cons (de_lc (own := [("box", 5), ("many", 7)]) (by decide) (.inl rfl) (pe_lc (own := [("box", 5), ("many", 7)]) c.calm sc_p_least_word.nd (di_enum (by rfl) T.enumerate (da_cons (de_var (pv 3)) da_nil)) (blkOk_by (N := N_p_least_word) (sc := defScope st_p_least_word) (by decide +kernel)) (fun _ _ _ _ _ => (dg_tup (c.blk _ _ _ _ _).calm (dg_cons (dg_name (pg_name (i := 5) sc_p_least_word.nd rfl (Or.inl rfl))) (dg_cons (dg_name (pg_name (i := 7) sc_p_least_word.nd rfl (Or.inl rfl))) dg_nil)))) (fun _ _ _ _ _ => (dts_one (PW.pt (dw_and (dt_truth (de_var (pv 7))) (dw_and1 (dt_not (dt_truth (de_call H_p_short_pipes (by decide) (c.blk _ _ _ _ _).hr (c.blk _ _ _ _ _).tk (by rfl) (by rfl) (da_cons (de_var (pv 0)) (da_cons (de_var (pv 2)) (da_cons (de_var (pv 5)) da_nil))) (hlen := (alen_cons (alen_cons (alen_cons alen_nil)))))))))))) (fun _ _ _ _ _ => (de_var (pv 5))))) da_nil)))
    (ds_cons (ds_putAug (de_var (pv 3)) (de_var (pv 5)) de_int ji_sub c.u1)
    (ds_cons (ds_expr (de_meth PySem.F.slot_list_append PySem.F.type_list_append jm_append (de_var (pv 4)) (da_cons (de_var (pv 5)) da_nil)))
    (ds_one (ds_set (fun te h => ps_set (i := 2) sc_p_least_word.nd rfl (Or.inr rfl) h) (de_call H_p_held_behind (by decide) c.hr c.tk (by rfl) (by rfl) (da_cons (de_var (pv 0)) (da_cons (de_var (pv 2)) (da_cons (de_var (pv 5)) da_nil))) (hlen := (alen_cons (alen_cons (alen_cons alen_nil)))))))))))
    (ds_one (ds_ret (de_callTy jc_tuple (by rfl) T.tuple (by decide +kernel) (da_cons (de_var (pv 4)) da_nil))))))))))
abbrev st_p_starts : Stmt := topS 76
abbrev N_p_starts : List Str := ["pipes", "counts", "times", "many", "entries", "found", "box", "number", "ready", "place", "one", "last", "_"]
theorem sc_p_starts : FnScope N_p_starts ["pipes", "counts", "times", "many"] (defScope st_p_starts) := ⟨rfl, rfl, rfl, by decide +kernel, rfl, by decide +kernel, by decide +kernel⟩
theorem ok_p_starts {f : Addr} {fd : FuncData} (F : Fun K "starts" "starts" st_p_starts f fd) (hm : mg "starts" = some (.ref f)) (b : Binds K fd ["pipes", "counts", "times", "many"] []) (T : Top K mg) (H_p_last_needed : Fok P wd ⟨K, mg⟩ base 1 "last_needed" 2 F_p_last_needed) (H_p_least_word : Fok P wd ⟨K, mg⟩ base 3 "least_word" 2 F_p_least_word) (H_p_pipes_at : Fok P wd ⟨K, mg⟩ base 1 "pipes_at" 3 F_p_pipes_at) : Fok P wd ⟨K, mg⟩ base 4 "starts" 4 F_p_starts :=
  fok_of (N := N_p_starts) F sc_p_starts hm b (fun cdv A outer s H E c =>
    (ds_cons (ds_set (fun te h => ps_set (i := 4) sc_p_starts.nd rfl (Or.inl rfl) h) (de_call H_p_pipes_at (by decide) c.hr c.tk (by rfl) (by rfl) (da_cons (de_var (pv 0)) (da_cons de_int (da_cons (de_callB jc_len (by rfl) T.len (by decide +kernel) (da_cons (de_var (pv 1)) da_nil)) da_nil))) (hlen := (alen_cons (alen_cons (alen_cons alen_nil))))))
    (ds_cons (ds_setT (ps_setLc (i := 5) (own := [("_", 12)]) c.calm sc_p_starts.nd rfl rfl (sw_true rfl rfl rfl (by decide +kernel)) (di_seq (de_var (pv 1))) (blkOk_by (N := N_p_starts) (sc := defScope st_p_starts) (by decide +kernel)) (fun _ _ _ _ _ => (dg_name (pg_name (i := 12) sc_p_starts.nd rfl (Or.inl rfl)))) (fun _ _ _ _ _ => dts_nil) (fun _ _ _ _ _ => (de_lstL da_nil))) (lcUse (by decide) (.inl rfl)))
    (ds_cons (ds_forN c.po c.calm (di_seq (de_op jo_mulQ (de_var (pv 3)) (de_call H_p_least_word (by decide) c.hr c.tk (by rfl) (by rfl) (da_cons (de_var (pv 0)) (da_cons (de_var (pv 1)) da_nil)) (hlen := (alen_cons (alen_cons alen_nil)))))) (dg_name (pg_name (i := 6) sc_p_starts.nd rfl (Or.inl rfl))) (ds_cons (ds_set (fun te h => ps_set (i := 7) sc_p_starts.nd rfl (Or.inl rfl) h) (de_callB jc_len (by rfl) T.len (by decide +kernel) (da_cons (de_ix (jo_ix c.u1) (de_var (pv 5)) (de_var (pv 6)) (fun _ _ => rfl)) da_nil)))
    (ds_cons (ds_set (fun te h => ps_set (i := 8) sc_p_starts.nd rfl (Or.inl rfl) h) (de_if (dt_truth (de_ix (jo_ix c.u1) (de_var (pv 5)) (de_var (pv 6)) (fun _ _ => rfl))) (de_lstL (da_cons (de_op jo_add (de_ix (jo_ix c.u1) (de_ix (jo_ix c.u1) (de_var (pv 5)) (de_var (pv 6)) (fun _ _ => rfl)) (de_un ju_neg de_int) (fun _ _ => rfl)) (de_ix (jo_ix c.u1) (de_var (pv 2)) (de_var (pv 6)) (fun _ _ => rfl))) da_nil)) (de_lstL (da_cons de_int da_nil))))
    (ds_cons (ds_forN c.po c.calm (di_seq (de_ix (jo_ix c.u1) (de_var (pv 4)) (de_var (pv 6)) (fun _ _ => rfl))) (dg_name (pg_name (i := 9) sc_p_starts.nd rfl (Or.inl rfl))) (ds_cons (ds_set (fun te h => ps_set (i := 10) sc_p_starts.nd rfl (Or.inl rfl) h) (de_ix (jo_ix c.u1) (de_ix (jo_ix c.u1) (de_var (pv 0)) (de_var (pv 9)) (fun _ _ => rfl)) de_int (fun _ _ => rfl)))
    (ds_cons (ds_set (fun te h => ps_set (i := 11) sc_p_starts.nd rfl (Or.inl rfl) h) (de_call H_p_last_needed (by decide) c.hr c.tk (by rfl) (by rfl) (da_cons (de_ix (jo_ix c.u1) (de_var (pv 0)) (de_var (pv 9)) (fun _ _ => rfl)) (da_cons (de_var (pv 7)) da_nil)) (hlen := (alen_cons (alen_cons alen_nil)))))
    (ds_one (ds_if (dt_cmp jo_ge (de_var (pv 11)) de_int (nomark _)) (ds_one (ds_expr (de_meth PySem.F.slot_list_append PySem.F.type_list_append jm_append (de_var (pv 8)) (da_cons (de_op jo_add (de_ix (jo_ix c.u1) (de_ix (jo_ix c.u1) (de_var (pv 5)) (de_var (pv 10)) (fun _ _ => rfl)) (de_var (pv 11)) (fun _ _ => rfl)) (de_ix (jo_ix c.u1) (de_var (pv 2)) (de_var (pv 10)) (fun _ _ => rfl))) da_nil)))) ds_nil)))))
    (ds_one (ds_expr (de_meth PySem.F.slot_list_append PySem.F.type_list_append jm_append (de_ix (jo_ix c.u1) (de_var (pv 5)) (de_var (pv 6)) (fun _ _ => rfl)) (da_cons (de_callB (jc_max1 c.calm c.u1) (by rfl) T.max (by decide +kernel) (da_cons (de_var (pv 8)) da_nil)) da_nil))))))))
    (ds_one (ds_ret (de_var (pv 5))))))))
abbrev st_p_start_times : Stmt := topS 69
abbrev N_p_start_times : List Str := ["flow", "times", "many", "counts", "row"]
theorem sc_p_start_times : FnScope N_p_start_times ["flow", "times", "many"] (defScope st_p_start_times) := ⟨rfl, rfl, rfl, by decide +kernel, rfl, by decide +kernel, by decide +kernel⟩
theorem ok_p_start_times {f : Addr} {fd : FuncData} (F : Fun K "start_times" "start_times" st_p_start_times f fd) (hm : mg "start_times" = some (.ref f)) (b : Binds K fd ["flow", "times", "many"] []) (T : Top K mg) (H_p_check_rounds : Fok P wd ⟨K, mg⟩ base 3 "check_rounds" 1 F_p_check_rounds) (H_p_check_times : Fok P wd ⟨K, mg⟩ base 3 "check_times" 2 F_p_check_times) (H_p_starts : Fok P wd ⟨K, mg⟩ base 4 "starts" 4 F_p_starts) (H_p_unrolled_counts : Fok P wd ⟨K, mg⟩ base 13 "unrolled_counts" 1 F_p_unrolled_counts) : Fok P wd ⟨K, mg⟩ base 14 "start_times" 3 F_p_start_times :=
  fok_of (N := N_p_start_times) F sc_p_start_times hm b (fun cdv A outer s H E c =>
    (ds_cons (ds_set (fun te h => ps_set (i := 3) sc_p_start_times.nd rfl (Or.inl rfl) h) (de_call H_p_unrolled_counts (by decide) c.hr c.tk (by rfl) (by rfl) (da_cons (de_var (pv 0)) da_nil) (hlen := (alen_cons alen_nil))))
    (ds_cons (ds_expr (de_call H_p_check_times (by decide) c.hr c.tk (by rfl) (by rfl) (da_cons (de_var (pv 0)) (da_cons (de_var (pv 1)) da_nil)) (hlen := (alen_cons (alen_cons alen_nil)))))
    (ds_cons (ds_expr (de_call H_p_check_rounds (by decide) c.hr c.tk (by rfl) (by rfl) (da_cons (de_var (pv 2)) da_nil) (hlen := (alen_cons alen_nil))))
    (ds_one (ds_ret (de_callTy jc_tuple (by rfl) T.tuple (by decide +kernel) (da_cons (de_lc (own := [("row", 4)]) (by decide) (.inl rfl) (pe_lc (own := [("row", 4)]) c.calm sc_p_start_times.nd (di_seq (de_call H_p_starts (by decide) c.hr c.tk (by rfl) (by rfl) (da_cons (de_ix (jo_ix c.u1) (de_var (pv 0)) de_int (fun _ _ => rfl)) (da_cons (de_var (pv 3)) (da_cons (de_var (pv 1)) (da_cons (de_var (pv 2)) da_nil)))) (hlen := (alen_cons (alen_cons (alen_cons (alen_cons alen_nil))))))) (blkOk_by (N := N_p_start_times) (sc := defScope st_p_start_times) (by decide +kernel)) (fun _ _ _ _ _ => (dg_name (pg_name (i := 4) sc_p_start_times.nd rfl (Or.inl rfl)))) (fun _ _ _ _ _ => dts_nil) (fun _ _ _ _ _ => (de_callTy jc_tuple (by rfl) T.tuple (by decide +kernel) (da_cons (de_var (pv 4)) da_nil))))) da_nil))))))))
abbrev st_p_first_time : Stmt := topS 70
abbrev N_p_first_time : List Str := ["flow", "times", "rows", "row", "time"]
theorem sc_p_first_time : FnScope N_p_first_time ["flow", "times"] (defScope st_p_first_time) := ⟨rfl, rfl, rfl, by decide +kernel, rfl, by decide +kernel, by decide +kernel⟩
theorem ok_p_first_time {f : Addr} {fd : FuncData} (F : Fun K "first_time" "first_time" st_p_first_time f fd) (hm : mg "first_time" = some (.ref f)) (b : Binds K fd ["flow", "times"] []) (T : Top K mg) (H_p_start_times : Fok P wd ⟨K, mg⟩ base 14 "start_times" 3 F_p_start_times) : Fok P wd ⟨K, mg⟩ base 15 "first_time" 2 F_p_first_time :=
  fok_of (N := N_p_first_time) F sc_p_first_time hm b (fun cdv A outer s H E c =>
    (ds_cons (ds_set (fun te h => ps_set (i := 2) sc_p_first_time.nd rfl (Or.inl rfl) h) (de_call H_p_start_times (by decide) c.hr c.tk (by rfl) (by rfl) (da_cons (de_var (pv 0)) (da_cons (de_var (pv 1)) (da_cons de_int da_nil))) (hlen := (alen_cons (alen_cons (alen_cons alen_nil))))))
    (ds_one (ds_ret (de_callB (jc_max1 c.calm c.u1) (by rfl) T.max (by decide +kernel) (da_cons (de_lc (own := [("row", 3), ("time", 4)]) (by decide) (.inl rfl) (pe_lc (own := [("row", 3), ("time", 4)]) c.calm sc_p_first_time.nd (di_zip (by rfl) T.zip (da_cons (de_var (pv 2)) (da_cons (de_var (pv 1)) da_nil))) (blkOk_by (N := N_p_first_time) (sc := defScope st_p_first_time) (by decide +kernel)) (fun _ _ _ _ _ => (dg_tup (c.blk _ _ _ _ _).calm (dg_cons (dg_name (pg_name (i := 3) sc_p_first_time.nd rfl (Or.inl rfl))) (dg_cons (dg_name (pg_name (i := 4) sc_p_first_time.nd rfl (Or.inl rfl))) dg_nil)))) (fun _ _ _ _ _ => dts_nil) (fun _ _ _ _ _ => (de_op jo_add (de_ix (jo_ix (c.blk _ _ _ _ _).u1) (de_var (pv 3)) (de_un ju_neg de_int) (fun _ _ => rfl)) (de_var (pv 4)))))) da_nil))))))
abbrev st_p_slow_ring : Stmt := topS 72
abbrev N_p_slow_ring : List Str := ["flow", "times", "slowest", "ring"]
theorem sc_p_slow_ring : FnScope N_p_slow_ring ["flow", "times"] (defScope st_p_slow_ring) := ⟨rfl, rfl, rfl, by decide +kernel, rfl, by decide +kernel, by decide +kernel⟩
theorem ok_p_slow_ring {f : Addr} {fd : FuncData} (F : Fun K "slow_ring" "slow_ring" st_p_slow_ring f fd) (hm : mg "slow_ring" = some (.ref f)) (b : Binds K fd ["flow", "times"] []) (T : Top K mg) (H_p_is_greater : Fok P wd ⟨K, mg⟩ base 1 "is_greater" 2 F_p_is_greater) (H_p_knot_rings : Fok P wd ⟨K, mg⟩ base 16 "knot_rings" 2 F_p_knot_rings) (H_p_ring_mean : Fok P wd ⟨K, mg⟩ base 1 "ring_mean" 2 F_p_ring_mean) : Fok P wd ⟨K, mg⟩ base 17 "slow_ring" 2 F_p_slow_ring :=
  fok_of (N := N_p_slow_ring) F sc_p_slow_ring hm b (fun cdv A outer s H E c =>
    (ds_cons (ds_set (fun te h => ps_set (i := 2) sc_p_slow_ring.nd rfl (Or.inl rfl) h) de_non)
    (ds_cons (ds_for c.po c.calm (di_seq (de_call H_p_knot_rings (by decide) c.hr c.tk (by rfl) (by rfl) (da_cons (de_var (pv 0)) (da_cons (de_var (pv 1)) da_nil)) (hlen := (alen_cons (alen_cons alen_nil))))) (dg_name (pg_name (i := 3) sc_p_slow_ring.nd rfl (Or.inl rfl))) (ds_one (ds_if (PW.pt (dw_or (dt_isN (de_var (pv 2))) (dw_or1 (dt_truth (de_call H_p_is_greater (by decide) c.hr c.tk (by rfl) (by rfl) (da_cons (de_call H_p_ring_mean (by decide) c.hr c.tk (by rfl) (by rfl) (da_cons (de_var (pv 3)) (da_cons (de_var (pv 1)) da_nil)) (hlen := (alen_cons (alen_cons alen_nil)))) (da_cons (de_call H_p_ring_mean (by decide) c.hr c.tk (by rfl) (by rfl) (da_cons (de_var (pv 2)) (da_cons (de_var (pv 1)) da_nil)) (hlen := (alen_cons (alen_cons alen_nil)))) da_nil)) (hlen := (alen_cons (alen_cons alen_nil)))))))) (ds_one (ds_set (fun te h => ps_set (i := 2) sc_p_slow_ring.nd rfl (Or.inl rfl) h) (de_var (pv 3)))) ds_nil)))
    (ds_one (ds_ret (de_var (pv 2)))))))
abbrev st_p_mean_time : Stmt := topS 71
abbrev N_p_mean_time : List Str := ["flow", "times"]
theorem sc_p_mean_time : FnScope N_p_mean_time ["flow", "times"] (defScope st_p_mean_time) := ⟨rfl, rfl, rfl, by decide +kernel, rfl, by decide +kernel, by decide +kernel⟩
theorem ok_p_mean_time {f : Addr} {fd : FuncData} (F : Fun K "mean_time" "mean_time" st_p_mean_time f fd) (hm : mg "mean_time" = some (.ref f)) (b : Binds K fd ["flow", "times"] []) (T : Top K mg) (H_p_ring_mean : Fok P wd ⟨K, mg⟩ base 1 "ring_mean" 2 F_p_ring_mean) (H_p_slow_ring : Fok P wd ⟨K, mg⟩ base 17 "slow_ring" 2 F_p_slow_ring) : Fok P wd ⟨K, mg⟩ base 18 "mean_time" 2 F_p_mean_time :=
  fok_of (N := N_p_mean_time) F sc_p_mean_time hm b (fun cdv A outer s H E c =>
    (ds_one (ds_ret (de_call H_p_ring_mean (by decide) c.hr c.tk (by rfl) (by rfl) (da_cons (de_call H_p_slow_ring (by decide) c.hr c.tk (by rfl) (by rfl) (da_cons (de_var (pv 0)) (da_cons (de_var (pv 1)) da_nil)) (hlen := (alen_cons (alen_cons alen_nil)))) (da_cons (de_var (pv 1)) da_nil)) (hlen := (alen_cons (alen_cons alen_nil)))))))
abbrev st_p_even_gap : Stmt := topS 79
abbrev N_p_even_gap : List Str := ["row", "other", "gaps", "early", "late"]
theorem sc_p_even_gap : FnScope N_p_even_gap ["row", "other"] (defScope st_p_even_gap) := ⟨rfl, rfl, rfl, by decide +kernel, rfl, by decide +kernel, by decide +kernel⟩
theorem ok_p_even_gap {f : Addr} {fd : FuncData} (F : Fun K "even_gap" "even_gap" st_p_even_gap f fd) (hm : mg "even_gap" = some (.ref f)) (b : Binds K fd ["row", "other"] []) (T : Top K mg)  : Fok P wd ⟨K, mg⟩ base 1 "even_gap" 2 F_p_even_gap :=
  fok_of (N := N_p_even_gap) F sc_p_even_gap hm b (fun cdv A outer s H E c =>
    (ds_cons (ds_setT (ps_setLc (i := 2) (own := [("early", 3), ("late", 4)]) c.calm sc_p_even_gap.nd rfl rfl (sw_true rfl rfl rfl (by decide +kernel)) (di_zip (by rfl) T.zip (da_cons (de_var (pv 0)) (da_cons (de_var (pv 1)) da_nil))) (blkOk_by (N := N_p_even_gap) (sc := defScope st_p_even_gap) (by decide +kernel)) (fun _ _ _ _ _ => (dg_tup (c.blk _ _ _ _ _).calm (dg_cons (dg_name (pg_name (i := 3) sc_p_even_gap.nd rfl (Or.inl rfl))) (dg_cons (dg_name (pg_name (i := 4) sc_p_even_gap.nd rfl (Or.inl rfl))) dg_nil)))) (fun _ _ _ _ _ => dts_nil) (fun _ _ _ _ _ => (de_op jo_sub (de_var (pv 4)) (de_var (pv 3))))) (lcUse (by decide) (.inl rfl)))
    (ds_one (ds_ret (de_if (dt_cmp (jo_eq c.u64) (de_meth PySem.F.slot_list_count PySem.F.type_list_count jm_countI (de_var (pv 2)) (da_cons (de_ix (jo_ix c.u1) (de_var (pv 2)) de_int (fun _ _ => rfl)) da_nil)) (de_callB jc_len (by rfl) T.len (by decide +kernel) (da_cons (de_var (pv 2)) da_nil)) (nomark _)) (de_ix (jo_ix c.u1) (de_var (pv 2)) de_int (fun _ _ => rfl)) de_non)))))
abbrev st_p_round_rows : Stmt := topS 78
abbrev N_p_round_rows : List Str := ["flow", "counts", "times", "found", "rows", "at", "row", "box", "many"]
theorem sc_p_round_rows : FnScope N_p_round_rows ["flow", "counts", "times"] (defScope st_p_round_rows) := ⟨rfl, rfl, rfl, by decide +kernel, rfl, by decide +kernel, by decide +kernel⟩
theorem ok_p_round_rows {f : Addr} {fd : FuncData} (F : Fun K "round_rows" "round_rows" st_p_round_rows f fd) (hm : mg "round_rows" = some (.ref f)) (b : Binds K fd ["flow", "counts", "times"] []) (T : Top K mg) (H_p_starts : Fok P wd ⟨K, mg⟩ base 4 "starts" 4 F_p_starts) : Fok P wd ⟨K, mg⟩ base 5 "round_rows" 3 F_p_round_rows :=
  fok_of (N := N_p_round_rows) F sc_p_round_rows hm b (fun cdv A outer s H E c =>
    (ds_cons (ds_set (fun te h => ps_set (i := 3) sc_p_round_rows.nd rfl (Or.inl rfl) h) (de_call H_p_starts (by decide) c.hr c.tk (by rfl) (by rfl) (da_cons (de_ix (jo_ix c.u1) (de_var (pv 0)) de_int (fun _ _ => rfl)) (da_cons (de_var (pv 1)) (da_cons (de_var (pv 2)) (da_cons (de_c (d := .int 60) (pe_glob (v := .int 60) (by rfl) T.c_MOST_ROUNDS.choose_spec ⟨_, rfl⟩) fun _ => rfl) da_nil)))) (hlen := (alen_cons (alen_cons (alen_cons (alen_cons alen_nil)))))))
    (ds_cons (ds_set (fun te h => ps_set (i := 4) sc_p_round_rows.nd rfl (Or.inl rfl) h) (de_lstL da_nil))
    (ds_cons (ds_forN c.po c.calm (di_rng1 (by rfl) T.range (da_cons (de_c (d := .int 60) (pe_glob (v := .int 60) (by rfl) T.c_MOST_ROUNDS.choose_spec ⟨_, rfl⟩) fun _ => rfl) da_nil)) (dg_name (pg_name (i := 5) sc_p_round_rows.nd rfl (Or.inl rfl))) (ds_cons (ds_set (fun te h => ps_set (i := 6) sc_p_round_rows.nd rfl (Or.inl rfl) h) (de_lstL da_nil))
    (ds_cons (ds_forN c.po c.calm (di_enum (by rfl) T.enumerate (da_cons (de_var (pv 1)) da_nil)) (dg_tup c.calm (dg_cons (dg_name (pg_name (i := 7) sc_p_round_rows.nd rfl (Or.inl rfl))) (dg_cons (dg_name (pg_name (i := 8) sc_p_round_rows.nd rfl (Or.inl rfl))) dg_nil))) (ds_one (ds_expr (de_meth PySem.F.slot_list_extend PySem.F.type_list_extend jm_extendS (de_var (pv 6)) (da_cons (de_slice (de_ix (jo_ix c.u1) (de_var (pv 3)) (de_var (pv 7)) (fun _ _ => rfl)) (dp_some (de_op jo_mul (de_var (pv 5)) (de_var (pv 8)))) (dp_some (de_op jo_mul (de_op jo_add (de_var (pv 5)) de_int) (de_var (pv 8))))) da_nil)))))
    (ds_one (ds_expr (de_meth PySem.F.slot_list_append PySem.F.type_list_append jm_append (de_var (pv 4)) (da_cons (de_var (pv 6)) da_nil)))))))
    (ds_one (ds_ret (de_var (pv 4))))))))
abbrev st_p_settled : Stmt := topS 75
abbrev N_p_settled : List Str := ["flow", "times", "counts", "rows", "far", "rounds", "gaps", "head", "gap", "_", "ago", "at"]
theorem sc_p_settled : FnScope N_p_settled ["flow", "times"] (defScope st_p_settled) := ⟨rfl, rfl, rfl, by decide +kernel, rfl, by decide +kernel, by decide +kernel⟩
theorem ok_p_settled {f : Addr} {fd : FuncData} (F : Fun K "settled" "settled" st_p_settled f fd) (hm : mg "settled" = some (.ref f)) (b : Binds K fd ["flow", "times"] []) (T : Top K mg) (H_p_all_steps : Fok P wd ⟨K, mg⟩ base 15 "all_steps" 2 F_p_all_steps) (H_p_check_times : Fok P wd ⟨K, mg⟩ base 3 "check_times" 2 F_p_check_times) (H_p_even_gap : Fok P wd ⟨K, mg⟩ base 1 "even_gap" 2 F_p_even_gap) (H_p_round_rows : Fok P wd ⟨K, mg⟩ base 5 "round_rows" 3 F_p_round_rows) (H_p_unrolled_counts : Fok P wd ⟨K, mg⟩ base 13 "unrolled_counts" 1 F_p_unrolled_counts) : Fok P wd ⟨K, mg⟩ base 16 "settled" 2 F_p_settled :=
  fok_of (N := N_p_settled) F sc_p_settled hm b (fun cdv A outer s H E c =>
    (ds_cons (ds_set (fun te h => ps_set (i := 2) sc_p_settled.nd rfl (Or.inl rfl) h) (de_call H_p_unrolled_counts (by decide) c.hr c.tk (by rfl) (by rfl) (da_cons (de_var (pv 0)) da_nil) (hlen := (alen_cons alen_nil))))
    (ds_cons (ds_expr (de_call H_p_check_times (by decide) c.hr c.tk (by rfl) (by rfl) (da_cons (de_var (pv 0)) (da_cons (de_var (pv 1)) da_nil)) (hlen := (alen_cons (alen_cons alen_nil)))))
    (ds_cons (ds_set (fun te h => ps_set (i := 3) sc_p_settled.nd rfl (Or.inr rfl) h) (de_call H_p_round_rows (by decide) c.hr c.tk (by rfl) (by rfl) (da_cons (de_var (pv 0)) (da_cons (de_var (pv 2)) (da_cons (de_var (pv 1)) da_nil))) (hlen := (alen_cons (alen_cons (alen_cons alen_nil))))))
    (ds_cons (ds_set (fun te h => ps_set (i := 4) sc_p_settled.nd rfl (Or.inl rfl) h) (de_callB (jc_max1 c.calm c.u1) (by rfl) T.max (by decide +kernel) (da_cons (de_lc (own := [("_", 9), ("ago", 10)]) (by decide) (.inl rfl) (pe_lc (own := [("_", 9), ("ago", 10)]) c.calm sc_p_settled.nd (di_seq (de_call H_p_all_steps (by decide) c.hr c.tk (by rfl) (by rfl) (da_cons (de_var (pv 0)) (da_cons (de_var (pv 2)) da_nil)) (hlen := (alen_cons (alen_cons alen_nil))))) (blkOk_by (N := N_p_settled) (sc := defScope st_p_settled) (by decide +kernel)) (fun _ _ _ _ _ => (dg_tup (c.blk _ _ _ _ _).calm (dg_cons (dg_name (pg_name (i := 9) sc_p_settled.nd rfl (Or.inl rfl))) (dg_cons (dg_name (pg_name (i := 9) sc_p_settled.nd rfl (Or.inl rfl))) (dg_cons (dg_name (pg_name (i := 10) sc_p_settled.nd rfl (Or.inl rfl))) dg_nil))))) (fun _ _ _ _ _ => dts_nil) (fun _ _ _ _ _ => (de_var (pv 10))))) da_nil)))
    (ds_cons (ds_for c.po c.calm (di_rng2 (by rfl) T.range (da_cons de_int (da_cons (de_op jo_add (de_op jo_sub (de_c (d := .int 60) (pe_glob (v := .int 60) (by rfl) T.c_MOST_ROUNDS.choose_spec ⟨_, rfl⟩) fun _ => rfl) (de_var (pv 4))) de_int) da_nil))) (dg_name (pg_name (i := 5) sc_p_settled.nd rfl (Or.inr rfl))) (ds_cons (ds_setT (ps_setLc (i := 6) (own := [("at", 11)]) c.calm sc_p_settled.nd rfl rfl (sw_true rfl rfl rfl (by decide +kernel)) (di_rng1 (by rfl) T.range (da_cons (de_op jo_sub (de_c (d := .int 60) (pe_glob (v := .int 60) (by rfl) T.c_MOST_ROUNDS.choose_spec ⟨_, rfl⟩) fun _ => rfl) (de_var (pv 5))) da_nil)) (blkOk_by (N := N_p_settled) (sc := defScope st_p_settled) (by decide +kernel)) (fun _ _ _ _ _ => (dg_name (pg_name (i := 11) sc_p_settled.nd rfl (Or.inl rfl)))) (fun _ _ _ _ _ => dts_nil) (fun _ _ _ _ _ => (de_call H_p_even_gap (by decide) (c.blk _ _ _ _ _).hr (c.blk _ _ _ _ _).tk (by rfl) (by rfl) (da_cons (de_ix (jo_ix (c.blk _ _ _ _ _).u1) (de_var (pv 3)) (de_var (pv 11)) (fun _ _ => rfl)) (da_cons (de_ix (jo_ix (c.blk _ _ _ _ _).u1) (de_var (pv 3)) (de_op jo_add (de_var (pv 11)) (de_var (pv 5))) (fun _ _ => rfl)) da_nil)) (hlen := (alen_cons (alen_cons alen_nil)))))) (lcUse (by decide) (.inl rfl)))
    (ds_one (ds_for c.po c.calm (di_rng1 (by rfl) T.range (da_cons (de_op jo_add (de_op jo_sub (de_op jo_sub (de_c (d := .int 60) (pe_glob (v := .int 60) (by rfl) T.c_MOST_ROUNDS.choose_spec ⟨_, rfl⟩) fun _ => rfl) (de_var (pv 4))) (de_var (pv 5))) de_int) da_nil)) (dg_name (pg_name (i := 7) sc_p_settled.nd rfl (Or.inl rfl))) (ds_cons (ds_set (fun te h => ps_set (i := 8) sc_p_settled.nd rfl (Or.inl rfl) h) (de_ix (jo_ix c.u1) (de_var (pv 6)) (de_var (pv 7)) (fun _ _ => rfl)))
    (ds_one (ds_if (PW.pt (dw_and (dt_notN (de_var (pv 8))) (dw_and1 (dt_cmp (jo_eq c.u64) (de_meth PySem.F.slot_list_count PySem.F.type_list_count jm_countI (de_slice (de_var (pv 6)) (dp_some (de_var (pv 7))) (dp_some (de_op jo_add (de_var (pv 7)) (de_var (pv 4))))) (da_cons (de_var (pv 8)) da_nil)) (de_var (pv 4)) (nomark _))))) (ds_one (ds_ret (de_tup (da_cons (de_var (pv 7)) (da_cons (de_var (pv 5)) (da_cons (de_var (pv 8)) da_nil)))))) ds_nil)))))))
    (ds_one (ds_ret de_non))))))))
abbrev st_p_is_like_step : Stmt := topS 67
abbrev N_p_is_like_step : List Str := ["value", "number"]
theorem sc_p_is_like_step : FnScope N_p_is_like_step ["value"] (defScope st_p_is_like_step) := ⟨rfl, rfl, rfl, by decide +kernel, rfl, by decide +kernel, by decide +kernel⟩
theorem ok_p_is_like_step {f : Addr} {fd : FuncData} (F : Fun K "is_like_step" "is_like_step" st_p_is_like_step f fd) (hm : mg "is_like_step" = some (.ref f)) (b : Binds K fd ["value"] []) (T : Top K mg) (H_p_is_row : Fok P wd ⟨K, mg⟩ base 1 "is_row" 2 F_p_is_row) (H_p_is_whole : Fok P wd ⟨K, mg⟩ base 1 "is_whole" 1 F_p_is_whole) : Fok P wd ⟨K, mg⟩ base 2 "is_like_step" 1 F_p_is_like_step :=
  fok_of (N := N_p_is_like_step) F sc_p_is_like_step hm b (fun cdv A outer s H E c =>
    (ds_cons (ds_if (PW.pt (dw_or (dt_not (dt_truth (de_call H_p_is_row (by decide) c.hr c.tk (by rfl) (by rfl) (da_cons (de_var (pv 0)) (da_cons de_int da_nil)) (hlen := (alen_cons (alen_cons alen_nil)))))) (dw_or (dt_not (dt_truth (de_call H_p_is_row (by decide) c.hr c.tk (by rfl) (by rfl) (da_cons (de_ix (jo_ix c.u1) (de_var (pv 0)) de_int (fun _ _ => rfl)) (da_cons de_int da_nil)) (hlen := (alen_cons (alen_cons alen_nil)))))) (dw_or1 (dt_not (dt_truth (de_call H_p_is_row (by decide) c.hr c.tk (by rfl) (by rfl) (da_cons (de_ix (jo_ix c.u1) (de_var (pv 0)) de_int (fun _ _ => rfl)) (da_cons de_int da_nil)) (hlen := (alen_cons (alen_cons alen_nil)))))))))) (ds_one (ds_ret de_bl)) ds_nil)
    (ds_one (ds_ret (de_callB (jc_all c.calm) (by rfl) T.all (by decide +kernel) (da_cons (de_lc (own := [("number", 1)]) (by decide) (.inl rfl) (pe_lc (own := [("number", 1)]) c.calm sc_p_is_like_step.nd (di_seq (de_op jo_add (de_op jo_add (de_ix (jo_ix c.u1) (de_var (pv 0)) de_int (fun _ _ => rfl)) (de_ix (jo_ix c.u1) (de_var (pv 0)) de_int (fun _ _ => rfl))) (de_slice (de_var (pv 0)) (dp_some de_int) dp_none))) (blkOk_by (N := N_p_is_like_step) (sc := defScope st_p_is_like_step) (by decide +kernel)) (fun _ _ _ _ _ => (dg_name (pg_name (i := 1) sc_p_is_like_step.nd rfl (Or.inl rfl)))) (fun _ _ _ _ _ => dts_nil) (fun _ _ _ _ _ => (de_call H_p_is_whole (by decide) (c.blk _ _ _ _ _).hr (c.blk _ _ _ _ _).tk (by rfl) (by rfl) (da_cons (de_var (pv 1)) da_nil) (hlen := (alen_cons alen_nil)))))) da_nil))))))
abbrev st_p_is_ring : Stmt := topS 66
abbrev N_p_is_ring : List Str := ["steps", "value", "known", "step", "at"]
theorem sc_p_is_ring : FnScope N_p_is_ring ["steps", "value"] (defScope st_p_is_ring) := ⟨rfl, rfl, rfl, by decide +kernel, rfl, by decide +kernel, by decide +kernel⟩
theorem ok_p_is_ring {f : Addr} {fd : FuncData} (F : Fun K "is_ring" "is_ring" st_p_is_ring f fd) (hm : mg "is_ring" = some (.ref f)) (b : Binds K fd ["steps", "value"] []) (T : Top K mg) (H_p_is_like_step : Fok P wd ⟨K, mg⟩ base 2 "is_like_step" 1 F_p_is_like_step) : Fok P wd ⟨K, mg⟩ base 3 "is_ring" 2 F_p_is_ring :=
  fok_of (N := N_p_is_ring) F sc_p_is_ring hm b (fun cdv A outer s H E c =>
    (ds_cons (ds_if (PW.pt (dw_or (dt_not (dt_truth (jc_isi (x := "isinstance") (by decide) (de_var (pv 1)) (pe_bltn (v := .ty "tuple") (by rfl) T.tuple (by decide +kernel) rfl) (by rfl) T.isinstance))) (dw_or1 (dt_not (dt_truth (de_var (pv 1))))))) (ds_one (ds_ret de_bl)) ds_nil)
    (ds_cons (ds_set (fun te h => ps_set (i := 2) sc_p_is_ring.nd rfl (Or.inr rfl) h) (de_dcX insN_ok dkN_ok (own := [("step", 3)]) (by decide) c.u64 c.calm sc_p_is_ring.nd (di_seq (de_var (pv 0))) (blkOk_by (N := N_p_is_ring) (sc := defScope st_p_is_ring) (by decide +kernel)) (fun _ _ _ _ _ => (dg_name (pg_name (i := 3) sc_p_is_ring.nd rfl (Or.inl rfl)))) (fun _ _ _ _ _ => (de_var (pv 3))) (fun _ _ _ _ _ => de_bl)))
    (ds_cons (ds_if (dt_not (dt_truth (de_callB (jc_all c.calm) (by rfl) T.all (by decide +kernel) (da_cons (de_lc (own := [("step", 3)]) (by decide) (.inl rfl) (pe_lc (own := [("step", 3)]) c.calm sc_p_is_ring.nd (di_seq (de_var (pv 1))) (blkOk_by (N := N_p_is_ring) (sc := defScope st_p_is_ring) (by decide +kernel)) (fun _ _ _ _ _ => (dg_name (pg_name (i := 3) sc_p_is_ring.nd rfl (Or.inl rfl)))) (fun _ _ _ _ _ => dts_nil) (fun _ _ _ _ _ => (de_and (de_call H_p_is_like_step (by decide) (c.blk _ _ _ _ _).hr (c.blk _ _ _ _ _).tk (by rfl) (by rfl) (da_cons (de_var (pv 3)) da_nil) (hlen := (alen_cons alen_nil))) (de_one (de_cmp (jo_inN (c.blk _ _ _ _ _).u64) (de_var (pv 3)) (de_var (pv 2)) (by rfl))))))) da_nil)))) (ds_one (ds_ret de_bl)) ds_nil)
    (ds_one (ds_ret (de_callB (jc_all c.calm) (by rfl) T.all (by decide +kernel) (da_cons (de_lc (own := [("at", 4)]) (by decide) (.inl rfl) (pe_lc (own := [("at", 4)]) c.calm sc_p_is_ring.nd (di_rng1 (by rfl) T.range (da_cons (de_callB jc_len (by rfl) T.len (by decide +kernel) (da_cons (de_var (pv 1)) da_nil)) da_nil)) (blkOk_by (N := N_p_is_ring) (sc := defScope st_p_is_ring) (by decide +kernel)) (fun _ _ _ _ _ => (dg_name (pg_name (i := 4) sc_p_is_ring.nd rfl (Or.inl rfl)))) (fun _ _ _ _ _ => dts_nil) (fun _ _ _ _ _ => (de_cmp (jo_eq (c.blk _ _ _ _ _).u64) (de_ix (jo_ix (c.blk _ _ _ _ _).u1) (de_ix (jo_ix (c.blk _ _ _ _ _).u1) (de_var (pv 1)) (de_op jo_sub (de_var (pv 4)) de_int) (fun _ _ => rfl)) de_int (fun _ _ => rfl)) (de_ix (jo_ix (c.blk _ _ _ _ _).u1) (de_ix (jo_ix (c.blk _ _ _ _ _).u1) (de_var (pv 1)) (de_var (pv 4)) (fun _ _ => rfl)) de_int (fun _ _ => rfl)) (nomark _))))) da_nil))))))))
abbrev st_p_shows_slow_ring : Stmt := topS 73
abbrev N_p_shows_slow_ring : List Str := ["flow", "times", "value", "mean"]
theorem sc_p_shows_slow_ring : FnScope N_p_shows_slow_ring ["flow", "times", "value"] (defScope st_p_shows_slow_ring) := ⟨rfl, rfl, rfl, by decide +kernel, rfl, by decide +kernel, by decide +kernel⟩
theorem ok_p_shows_slow_ring {f : Addr} {fd : FuncData} (F : Fun K "shows_slow_ring" "shows_slow_ring" st_p_shows_slow_ring f fd) (hm : mg "shows_slow_ring" = some (.ref f)) (b : Binds K fd ["flow", "times", "value"] []) (T : Top K mg) (H_p_all_steps : Fok P wd ⟨K, mg⟩ base 15 "all_steps" 2 F_p_all_steps) (H_p_is_ring : Fok P wd ⟨K, mg⟩ base 3 "is_ring" 2 F_p_is_ring) (H_p_mean_time : Fok P wd ⟨K, mg⟩ base 18 "mean_time" 2 F_p_mean_time) (H_p_ring_mean : Fok P wd ⟨K, mg⟩ base 1 "ring_mean" 2 F_p_ring_mean) (H_p_unrolled_counts : Fok P wd ⟨K, mg⟩ base 13 "unrolled_counts" 1 F_p_unrolled_counts) : Fok P wd ⟨K, mg⟩ base 19 "shows_slow_ring" 3 F_p_shows_slow_ring :=
  fok_of (N := N_p_shows_slow_ring) F sc_p_shows_slow_ring hm b (fun cdv A outer s H E c =>
    (ds_cons (ds_set (fun te h => ps_set (i := 3) sc_p_shows_slow_ring.nd rfl (Or.inl rfl) h) (de_call H_p_mean_time (by decide) c.hr c.tk (by rfl) (by rfl) (da_cons (de_var (pv 0)) (da_cons (de_var (pv 1)) da_nil)) (hlen := (alen_cons (alen_cons alen_nil)))))
    (ds_one (ds_ret (de_and (de_call H_p_is_ring (by decide) c.hr c.tk (by rfl) (by rfl) (da_cons (de_call H_p_all_steps (by decide) c.hr c.tk (by rfl) (by rfl) (da_cons (de_var (pv 0)) (da_cons (de_call H_p_unrolled_counts (by decide) c.hr c.tk (by rfl) (by rfl) (da_cons (de_var (pv 0)) da_nil) (hlen := (alen_cons alen_nil))) da_nil)) (hlen := (alen_cons (alen_cons alen_nil)))) (da_cons (de_var (pv 2)) da_nil)) (hlen := (alen_cons (alen_cons alen_nil)))) (de_one (de_cmp (jo_eq c.u64) (de_call H_p_ring_mean (by decide) c.hr c.tk (by rfl) (by rfl) (da_cons (de_var (pv 2)) (da_cons (de_var (pv 1)) da_nil)) (hlen := (alen_cons (alen_cons alen_nil)))) (de_var (pv 3)) (nomark _))))))))
abbrev st_p_law : Stmt := topS 82
abbrev N_p_law : List Str := ["script", "row", "pair", "ring", "found", "due", "step", "wide"]
theorem sc_p_law : FnScope N_p_law ["script"] (defScope st_p_law) := ⟨rfl, rfl, rfl, by decide +kernel, rfl, by decide +kernel, by decide +kernel⟩
theorem ok_p_law {f : Addr} {fd : FuncData} (F : Fun K "law" "law" st_p_law f fd) (T : Top K mg) (H_p_law_alike : Fok P wd ⟨K, mg⟩ base 9 "_law_alike" 2 (F_p_law_alike 8)) (H_p_box_means : Fok P wd ⟨K, mg⟩ base 17 "box_means" 2 F_p_box_means) (H_p_firings : Fok P wd ⟨K, mg⟩ base 14 "firings" 1 F_p_firings) (H_p_first_time : Fok P wd ⟨K, mg⟩ base 15 "first_time" 2 F_p_first_time) (H_p_mean_time : Fok P wd ⟨K, mg⟩ base 18 "mean_time" 2 F_p_mean_time) (H_p_needs : Fok P wd ⟨K, mg⟩ base 14 "needs" 1 F_p_needs) (H_p_settled : Fok P wd ⟨K, mg⟩ base 16 "settled" 2 F_p_settled) (H_p_shows_slow_ring : Fok P wd ⟨K, mg⟩ base 19 "shows_slow_ring" 3 F_p_shows_slow_ring) (H_p_slow_ring : Fok P wd ⟨K, mg⟩ base 17 "slow_ring" 2 F_p_slow_ring) (H_p_start_times : Fok P wd ⟨K, mg⟩ base 14 "start_times" 3 F_p_start_times) : FnOk P wd K mg base (L2.CX P wd) 20 f fd ["script"] (spF ⟨K, mg⟩ 1 F_p_law) :=
  fn_ok (N := N_p_law) F sc_p_law (fun cdv A outer s H E c =>
    (ds_cons (ds_drop [0, 1] (ds_set (fun te h => ps_set (i := 1) sc_p_law.nd rfl (Or.inl rfl) h) (de_lst (da_cons (de_var (pv 0)) (da_cons de_int (da_cons de_int (da_cons de_int da_nil)))))))
    (ds_cons (ds_asg (de_tup (da_cons (de_tup (da_cons de_int (da_cons (de_tup (da_cons (de_tup (da_cons de_int (da_cons de_int (da_cons de_int (da_cons de_int (da_cons de_int da_nil)))))) da_nil)) da_nil))) (da_cons (de_tup (da_cons de_int (da_cons (de_tup (da_cons (de_tup (da_cons de_int (da_cons de_int (da_cons de_int (da_cons de_int (da_cons de_int da_nil)))))) (da_cons (de_tup (da_cons de_int (da_cons de_int (da_cons de_int (da_cons de_int (da_cons de_int da_nil)))))) da_nil))) da_nil))) da_nil))) (dg_tup c.calm (dg_cons (dg_name (pg_name (i := 2) sc_p_law.nd rfl (Or.inl rfl))) (dg_cons (dg_name (pg_name (i := 3) sc_p_law.nd rfl (Or.inl rfl))) dg_nil))))
    (ds_cons (ds_set (fun te h => ps_set (i := 4) sc_p_law.nd rfl (Or.inl rfl) h) (de_lst (da_cons (de_call H_p_firings (by decide) c.hr c.tk (by rfl) (by rfl) (da_cons (de_var (pv 2)) da_nil) (hlen := (alen_cons alen_nil))) (da_cons (de_call H_p_needs (by decide) c.hr c.tk (by rfl) (by rfl) (da_cons (de_var (pv 2)) da_nil) (hlen := (alen_cons alen_nil))) (da_cons (de_call H_p_needs (by decide) c.hr c.tk (by rfl) (by rfl) (da_cons (de_var (pv 3)) da_nil) (hlen := (alen_cons alen_nil))) (da_cons (de_call H_p_needs (by decide) c.hr c.tk (by rfl) (by rfl) (da_cons (de_tup (da_cons de_int (da_cons (de_tup da_nil) da_nil))) da_nil) (hlen := (alen_cons alen_nil))) (da_cons (de_call H_p_needs (by decide) c.hr c.tk (by rfl) (by rfl) (da_cons (de_tup (da_cons de_int (da_cons (de_tup (da_cons (de_tup (da_cons de_int (da_cons de_int (da_cons de_int (da_cons de_int (da_cons de_int da_nil)))))) da_nil)) da_nil))) da_nil) (hlen := (alen_cons alen_nil))) da_nil)))))))
    (ds_cons (ds_set (fun te h => ps_set (i := 5) sc_p_law.nd rfl (Or.inl rfl) h) (de_lst (da_cons (de_tup (da_cons (de_tup (da_cons de_int (da_cons de_int da_nil))) (da_cons (de_tup (da_cons de_int (da_cons de_int da_nil))) (da_cons (de_tup (da_cons de_int (da_cons de_int da_nil))) (da_cons (de_tup (da_cons de_int (da_cons de_int da_nil))) (da_cons (de_tup (da_cons de_int (da_cons de_int da_nil))) da_nil)))))) (da_cons (de_tup (da_cons (de_tup (da_cons (de_tup (da_cons de_int (da_cons de_int da_nil))) (da_cons (de_tup (da_cons de_int (da_cons de_int da_nil))) (da_cons de_int da_nil)))) (da_cons (de_tup (da_cons (de_tup (da_cons de_int (da_cons de_int da_nil))) (da_cons (de_tup (da_cons de_int (da_cons de_int da_nil))) (da_cons de_int da_nil)))) da_nil))) da_nil))))
    (ds_cons (ds_set (fun te h => ps_set (i := 5) sc_p_law.nd rfl (Or.inl rfl) h) (de_op jo_add (de_var (pv 5)) (de_lst (da_cons (de_tup (da_cons (de_tup (da_cons (de_tup (da_cons de_int (da_cons de_int da_nil))) (da_cons (de_tup (da_cons de_int (da_cons de_int da_nil))) (da_cons de_int da_nil)))) (da_cons (de_tup (da_cons (de_tup (da_cons de_int (da_cons de_int da_nil))) (da_cons (de_tup (da_cons de_int (da_cons de_int da_nil))) (da_cons de_int da_nil)))) da_nil))) (da_cons (de_tup da_nil) (da_cons (de_tup (da_cons (de_tup (da_cons (de_tup (da_cons de_int (da_cons de_int da_nil))) (da_cons (de_tup (da_cons de_int (da_cons de_int da_nil))) (da_cons de_int da_nil)))) da_nil)) da_nil))))))
    (ds_cons (ds_if (dt_not (dt_truth (de_call H_p_law_alike (by decide) c.hr c.tk (by rfl) (by rfl) (da_cons (de_var (pv 4)) (da_cons (de_var (pv 5)) da_nil)) (hlen := (alen_cons (alen_cons alen_nil)))))) (ds_one (ds_ret de_bl)) ds_nil)
    (ds_cons (ds_set (fun te h => ps_set (i := 4) sc_p_law.nd rfl (Or.inl rfl) h) (de_lst (da_cons (de_call H_p_start_times (by decide) c.hr c.tk (by rfl) (by rfl) (da_cons (de_var (pv 2)) (da_cons (de_tup (da_cons de_int (da_cons de_int da_nil))) (da_cons de_int da_nil))) (hlen := (alen_cons (alen_cons (alen_cons alen_nil))))) (da_cons (de_call H_p_first_time (by decide) c.hr c.tk (by rfl) (by rfl) (da_cons (de_var (pv 2)) (da_cons (de_tup (da_cons de_int (da_cons de_int da_nil))) da_nil)) (hlen := (alen_cons (alen_cons alen_nil)))) (da_cons (de_call H_p_mean_time (by decide) c.hr c.tk (by rfl) (by rfl) (da_cons (de_var (pv 2)) (da_cons (de_tup (da_cons de_int (da_cons de_int da_nil))) da_nil)) (hlen := (alen_cons (alen_cons alen_nil)))) da_nil)))))
    (ds_cons (ds_set (fun te h => ps_set (i := 4) sc_p_law.nd rfl (Or.inl rfl) h) (de_op jo_add (de_var (pv 4)) (de_lst (da_cons (de_call H_p_box_means (by decide) c.hr c.tk (by rfl) (by rfl) (da_cons (de_var (pv 2)) (da_cons (de_tup (da_cons de_int (da_cons de_int da_nil))) da_nil)) (hlen := (alen_cons (alen_cons alen_nil)))) (da_cons (de_call H_p_mean_time (by decide) c.hr c.tk (by rfl) (by rfl) (da_cons (de_var (pv 2)) (da_cons (de_tup (da_cons de_int (da_cons de_int da_nil))) da_nil)) (hlen := (alen_cons (alen_cons alen_nil)))) (da_cons (de_call H_p_box_means (by decide) c.hr c.tk (by rfl) (by rfl) (da_cons (de_var (pv 2)) (da_cons (de_tup (da_cons de_int (da_cons de_int da_nil))) da_nil)) (hlen := (alen_cons (alen_cons alen_nil)))) da_nil))))))
    (ds_cons (ds_if (dt_not (dt_truth (de_call H_p_law_alike (by decide) c.hr c.tk (by rfl) (by rfl) (da_cons (de_var (pv 4)) (da_cons (de_lst (da_cons (de_tup (da_cons (de_tup (da_cons de_int (da_cons de_int (da_cons de_int da_nil)))) (da_cons (de_tup (da_cons de_int (da_cons de_int da_nil))) da_nil))) (da_cons de_int (da_cons (de_tup (da_cons de_int (da_cons de_int da_nil))) (da_cons (de_tup (da_cons (de_tup (da_cons de_int (da_cons de_int da_nil))) (da_cons (de_tup (da_cons de_int (da_cons de_int da_nil))) da_nil))) (da_cons (de_tup (da_cons de_int (da_cons de_int da_nil))) (da_cons (de_tup (da_cons (de_tup (da_cons de_int (da_cons de_int da_nil))) (da_cons (de_tup (da_cons de_int (da_cons de_int da_nil))) da_nil))) da_nil))))))) da_nil)) (hlen := (alen_cons (alen_cons alen_nil)))))) (ds_one (ds_ret de_bl)) ds_nil)
    (ds_cons (ds_set (fun te h => ps_set (i := 4) sc_p_law.nd rfl (Or.inl rfl) h) (de_lst (da_cons (de_call H_p_mean_time (by decide) c.hr c.tk (by rfl) (by rfl) (da_cons (de_var (pv 3)) (da_cons (de_tup (da_cons de_int (da_cons de_int da_nil))) da_nil)) (hlen := (alen_cons (alen_cons alen_nil)))) (da_cons (de_call H_p_slow_ring (by decide) c.hr c.tk (by rfl) (by rfl) (da_cons (de_var (pv 3)) (da_cons (de_tup (da_cons de_int (da_cons de_int da_nil))) da_nil)) (hlen := (alen_cons (alen_cons alen_nil)))) (da_cons (de_call H_p_settled (by decide) c.hr c.tk (by rfl) (by rfl) (da_cons (de_var (pv 3)) (da_cons (de_tup (da_cons de_int (da_cons de_int da_nil))) da_nil)) (hlen := (alen_cons (alen_cons alen_nil)))) da_nil)))))
    (ds_cons (ds_set (fun te h => ps_set (i := 4) sc_p_law.nd rfl (Or.inl rfl) h) (de_op jo_add (de_var (pv 4)) (de_lst (da_cons (de_call H_p_start_times (by decide) c.hr c.tk (by rfl) (by rfl) (da_cons (de_var (pv 3)) (da_cons (de_tup (da_cons de_int (da_cons de_int da_nil))) (da_cons de_int da_nil))) (hlen := (alen_cons (alen_cons (alen_cons alen_nil))))) (da_cons (de_call H_p_settled (by decide) c.hr c.tk (by rfl) (by rfl) (da_cons (de_var (pv 2)) (da_cons (de_tup (da_cons de_int (da_cons de_int da_nil))) da_nil)) (hlen := (alen_cons (alen_cons alen_nil)))) (da_cons (de_call H_p_settled (by decide) c.hr c.tk (by rfl) (by rfl) (da_cons (de_var (pv 2)) (da_cons (de_tup (da_cons de_int (da_cons de_int da_nil))) da_nil)) (hlen := (alen_cons (alen_cons alen_nil)))) da_nil))))))
    (ds_cons (ds_set (fun te h => ps_set (i := 6) sc_p_law.nd rfl (Or.inl rfl) h) (de_tup (da_cons (de_tup (da_cons (de_tup (da_cons de_int (da_cons de_int da_nil))) (da_cons (de_tup (da_cons de_int (da_cons de_int da_nil))) (da_cons de_int da_nil)))) (da_cons (de_tup (da_cons (de_tup (da_cons de_int (da_cons de_int da_nil))) (da_cons (de_tup (da_cons de_int (da_cons de_int da_nil))) (da_cons de_int da_nil)))) da_nil))))
    (ds_cons (ds_if (dt_not (dt_truth (de_call H_p_law_alike (by decide) c.hr c.tk (by rfl) (by rfl) (da_cons (de_op jo_add (de_lst (da_cons (de_ix (jo_ix c.u1) (de_var (pv 4)) de_int (fun _ _ => rfl)) da_nil)) (de_slice (de_var (pv 4)) (dp_some de_int) dp_none)) (da_cons (de_lst (da_cons (de_tup (da_cons de_int (da_cons de_int da_nil))) (da_cons (de_tup (da_cons de_int (da_cons de_int (da_cons de_int da_nil)))) (da_cons (de_tup (da_cons (de_tup (da_cons de_int (da_cons de_int da_nil))) (da_cons (de_tup (da_cons de_int (da_cons de_int da_nil))) da_nil))) (da_cons de_non (da_cons (de_tup (da_cons de_int (da_cons de_int (da_cons de_int da_nil)))) da_nil)))))) da_nil)) (hlen := (alen_cons (alen_cons alen_nil)))))) (ds_one (ds_ret de_bl)) ds_nil)
    (ds_cons (ds_if (dt_cmp (jo_nin c.u65) (de_ix (jo_ix c.u1) (de_var (pv 4)) de_int (fun _ _ => rfl)) (de_lst (da_cons (de_var (pv 6)) (da_cons (de_rev (de_var (pv 6))) da_nil))) (by rfl)) (ds_one (ds_ret de_bl)) ds_nil)
    (ds_cons (ds_set (fun te h => ps_set (i := 7) sc_p_law.nd rfl (Or.inl rfl) h) (de_tup (da_cons de_int (da_cons (de_tup (da_cons (de_tup (da_cons de_int (da_cons de_int (da_cons de_int (da_cons de_int (da_cons de_int da_nil)))))) (da_cons (de_tup (da_cons de_int (da_cons de_int (da_cons de_int (da_cons de_int (da_cons de_int da_nil)))))) da_nil))) da_nil))))
    (ds_cons (ds_set (fun te h => ps_set (i := 4) sc_p_law.nd rfl (Or.inl rfl) h) (de_lst (da_cons (de_call H_p_mean_time (by decide) c.hr c.tk (by rfl) (by rfl) (da_cons (de_var (pv 7)) (da_cons (de_tup (da_cons de_int (da_cons de_int da_nil))) da_nil)) (hlen := (alen_cons (alen_cons alen_nil)))) (da_cons (de_call H_p_mean_time (by decide) c.hr c.tk (by rfl) (by rfl) (da_cons (de_var (pv 7)) (da_cons (de_tup (da_cons de_int (da_cons de_int da_nil))) da_nil)) (hlen := (alen_cons (alen_cons alen_nil)))) da_nil))))
    (ds_cons (ds_set (fun te h => ps_set (i := 4) sc_p_law.nd rfl (Or.inl rfl) h) (de_op jo_add (de_var (pv 4)) (de_lst (da_cons (de_call H_p_shows_slow_ring (by decide) c.hr c.tk (by rfl) (by rfl) (da_cons (de_var (pv 7)) (da_cons (de_tup (da_cons de_int (da_cons de_int da_nil))) (da_cons (de_tup (da_cons (de_tup (da_cons (de_tup (da_cons de_int (da_cons de_int da_nil))) (da_cons (de_tup (da_cons de_int (da_cons de_int da_nil))) (da_cons de_int da_nil)))) da_nil)) da_nil))) (hlen := (alen_cons (alen_cons (alen_cons alen_nil))))) (da_cons (de_call H_p_shows_slow_ring (by decide) c.hr c.tk (by rfl) (by rfl) (da_cons (de_var (pv 7)) (da_cons (de_tup (da_cons de_int (da_cons de_int da_nil))) (da_cons (de_var (pv 6)) da_nil))) (hlen := (alen_cons (alen_cons (alen_cons alen_nil))))) da_nil)))))
    (ds_cons (ds_set (fun te h => ps_set (i := 4) sc_p_law.nd rfl (Or.inl rfl) h) (de_op jo_add (de_var (pv 4)) (de_lst (da_cons (de_call H_p_mean_time (by decide) c.hr c.tk (by rfl) (by rfl) (da_cons (de_tup (da_cons de_int (da_cons (de_tup (da_cons (de_tup (da_cons de_int (da_cons de_int (da_cons de_int (da_cons de_int (da_cons de_int da_nil)))))) da_nil)) da_nil))) (da_cons (de_tup (da_cons de_int da_nil)) da_nil)) (hlen := (alen_cons (alen_cons alen_nil)))) da_nil))))
    (ds_one (ds_ret (de_call H_p_law_alike (by decide) c.hr c.tk (by rfl) (by rfl) (da_cons (de_var (pv 4)) (da_cons (de_lst (da_cons (de_tup (da_cons de_int (da_cons de_int da_nil))) (da_cons (de_tup (da_cons de_int (da_cons de_int da_nil))) (da_cons de_bl (da_cons de_bl (da_cons (de_tup (da_cons de_int (da_cons de_int da_nil))) da_nil)))))) da_nil)) (hlen := (alen_cons (alen_cons alen_nil)))))))))))))))))))))))))
end
end K51
set_option Elab.async false
set_option linter.all false
set_option maxRecDepth 100000
set_option maxHeartbeats 4000000
namespace K51
open PySem PySem.Spec PyProof.Rows L2 J
def spLaw (K : PySem.W.Frag) : Sp := fun vs H Q _ => ∃ (a : Addr) (ns : List Int), vs = [.ref a] ∧ SqL K H a (ns.map V.int) ∧ ns.length ≤ 63 ∧ ∀ H', Q (.bl true) H'
theorem ints_rd {g : G} {w : W} : ∀ ns : List Int, RDs g w (ns.map D.int) (ns.map V.int)
  | [] => rfl
  | n :: ns => RDs.cons (show RD g w (.int n) (.int n) from rfl) (ints_rd ns)
theorem law_sp {g : G} (ok : ∀ ns : List Int, ns.length ≤ 63 → ∃ S, F_p_law [.rdl (ns.map D.int)] [] = .ok (.bl true) S) : ∀ vs H Q E, spLaw g.K vs H Q E → spF g 1 F_p_law vs H Q E := fun vs H Q E ⟨a, ns, e, hS, hl, q⟩ => by
  obtain ⟨S, hF⟩ := ok ns hl
  refine ⟨⟨fun _ => False, [], H⟩, [.rdl (ns.map D.int)], [], rfl, ⟨List.nodup_nil, by simp, fun _ z => z.elim, fun _ z => z.elim⟩, ?_, ⟨rfl, by simp⟩, rfl, ?_⟩
  · subst e
    refine RDs.one ⟨a, _, rfl, ?_, ints_rd ns⟩
    exact hS.elim (fun h => .inl ⟨h, fun z => z⟩) .inr
  · rw [hF]
    intro v w' _ _ _ r _
    cases r
    exact q _

theorem all_mk {l : PySem.W.OpenLaw} {w : World} {K : PySem.W.Frag} {h : Heap} {mg : Str → Option Value} {fa : Addr} (X : K.In h) (G : h.Ns mainGlobals mg) (hfa : mg "law" = some (.ref fa))
    (ok : ∀ ns : List Int, ns.length ≤ 63 → ∃ S, F_p_law [.rdl (ns.map D.int)] [] = .ok (.bl true) S)
    {f0 : Addr} {od0 an0 : Option Addr} {sl0 : Array (Option Value)} {oc0 kV0 dc0 pm0 cd0 ct0 : Value}
    {f1 : Addr} {od1 an1 : Option Addr} {sl1 : Array (Option Value)} {oc1 kV1 dc1 pm1 cd1 ct1 : Value}
    {f2 : Addr} {od2 an2 : Option Addr} {sl2 : Array (Option Value)} {oc2 kV2 dc2 pm2 cd2 ct2 : Value}
    {f3 : Addr} {od3 an3 : Option Addr} {sl3 : Array (Option Value)} {oc3 kV3 dc3 pm3 cd3 ct3 : Value}
    {f4 : Addr} {od4 an4 : Option Addr} {sl4 : Array (Option Value)} {oc4 kV4 dc4 pm4 cd4 ct4 : Value}
    {f5 : Addr} {od5 an5 : Option Addr} {sl5 : Array (Option Value)} {oc5 kV5 dc5 pm5 cd5 ct5 : Value}
    {f6 : Addr} {od6 an6 : Option Addr} {sl6 : Array (Option Value)} {oc6 kV6 dc6 pm6 cd6 ct6 : Value}
    {f7 : Addr} {od7 an7 : Option Addr} {sl7 : Array (Option Value)} {oc7 kV7 dc7 pm7 cd7 ct7 : Value}
    {f8 : Addr} {od8 an8 : Option Addr} {sl8 : Array (Option Value)} {oc8 kV8 dc8 pm8 cd8 ct8 : Value}
    {f9 : Addr} {od9 an9 : Option Addr} {sl9 : Array (Option Value)} {oc9 kV9 dc9 pm9 cd9 ct9 : Value}
    {f10 : Addr} {od10 an10 : Option Addr} {sl10 : Array (Option Value)} {oc10 kV10 dc10 pm10 cd10 ct10 : Value}
    {f11 : Addr} {od11 an11 : Option Addr} {sl11 : Array (Option Value)} {oc11 kV11 dc11 pm11 cd11 ct11 : Value}
    {f12 : Addr} {od12 an12 : Option Addr} {sl12 : Array (Option Value)} {oc12 kV12 dc12 pm12 cd12 ct12 : Value}
    {f13 : Addr} {od13 an13 : Option Addr} {sl13 : Array (Option Value)} {oc13 kV13 dc13 pm13 cd13 ct13 : Value}
    {f14 : Addr} {od14 an14 : Option Addr} {sl14 : Array (Option Value)} {oc14 kV14 dc14 pm14 cd14 ct14 : Value}
    {f15 : Addr} {od15 an15 : Option Addr} {sl15 : Array (Option Value)} {oc15 kV15 dc15 pm15 cd15 ct15 : Value}
    {f16 : Addr} {od16 an16 : Option Addr} {sl16 : Array (Option Value)} {oc16 kV16 dc16 pm16 cd16 ct16 : Value}
    {f17 : Addr} {od17 an17 : Option Addr} {sl17 : Array (Option Value)} {oc17 kV17 dc17 pm17 cd17 ct17 : Value}
    {f18 : Addr} {od18 an18 : Option Addr} {sl18 : Array (Option Value)} {oc18 kV18 dc18 pm18 cd18 ct18 : Value}
    {f19 : Addr} {od19 an19 : Option Addr} {sl19 : Array (Option Value)} {oc19 kV19 dc19 pm19 cd19 ct19 : Value}
    {f20 : Addr} {od20 an20 : Option Addr} {sl20 : Array (Option Value)} {oc20 kV20 dc20 pm20 cd20 ct20 : Value}
    {f21 : Addr} {od21 an21 : Option Addr} {sl21 : Array (Option Value)} {oc21 kV21 dc21 pm21 cd21 ct21 : Value}
    {f22 : Addr} {od22 an22 : Option Addr} {sl22 : Array (Option Value)} {oc22 kV22 dc22 pm22 cd22 ct22 : Value}
    {f23 : Addr} {od23 an23 : Option Addr} {sl23 : Array (Option Value)} {oc23 kV23 dc23 pm23 cd23 ct23 : Value}
    {f24 : Addr} {od24 an24 : Option Addr} {sl24 : Array (Option Value)} {oc24 kV24 dc24 pm24 cd24 ct24 : Value}
    {f25 : Addr} {od25 an25 : Option Addr} {sl25 : Array (Option Value)} {oc25 kV25 dc25 pm25 cd25 ct25 : Value}
    {f26 : Addr} {od26 an26 : Option Addr} {sl26 : Array (Option Value)} {oc26 kV26 dc26 pm26 cd26 ct26 : Value}
    {f27 : Addr} {od27 an27 : Option Addr} {sl27 : Array (Option Value)} {oc27 kV27 dc27 pm27 cd27 ct27 : Value}
    {f28 : Addr} {od28 an28 : Option Addr} {sl28 : Array (Option Value)} {oc28 kV28 dc28 pm28 cd28 ct28 : Value}
    {f29 : Addr} {od29 an29 : Option Addr} {sl29 : Array (Option Value)} {oc29 kV29 dc29 pm29 cd29 ct29 : Value}
    {f30 : Addr} {od30 an30 : Option Addr} {sl30 : Array (Option Value)} {oc30 kV30 dc30 pm30 cd30 ct30 : Value}
    {f31 : Addr} {od31 an31 : Option Addr} {sl31 : Array (Option Value)} {oc31 kV31 dc31 pm31 cd31 ct31 : Value}
    {f32 : Addr} {od32 an32 : Option Addr} {sl32 : Array (Option Value)} {oc32 kV32 dc32 pm32 cd32 ct32 : Value}
    {f33 : Addr} {od33 an33 : Option Addr} {sl33 : Array (Option Value)} {oc33 kV33 dc33 pm33 cd33 ct33 : Value}
    {f34 : Addr} {od34 an34 : Option Addr} {sl34 : Array (Option Value)} {oc34 kV34 dc34 pm34 cd34 ct34 : Value}
    {f35 : Addr} {od35 an35 : Option Addr} {sl35 : Array (Option Value)} {oc35 kV35 dc35 pm35 cd35 ct35 : Value}
    {f36 : Addr} {od36 an36 : Option Addr} {sl36 : Array (Option Value)} {oc36 kV36 dc36 pm36 cd36 ct36 : Value}
    {f37 : Addr} {od37 an37 : Option Addr} {sl37 : Array (Option Value)} {oc37 kV37 dc37 pm37 cd37 ct37 : Value}
    {f38 : Addr} {od38 an38 : Option Addr} {sl38 : Array (Option Value)} {oc38 kV38 dc38 pm38 cd38 ct38 : Value}
    {f39 : Addr} {od39 an39 : Option Addr} {sl39 : Array (Option Value)} {oc39 kV39 dc39 pm39 cd39 ct39 : Value}
    {f40 : Addr} {od40 an40 : Option Addr} {sl40 : Array (Option Value)} {oc40 kV40 dc40 pm40 cd40 ct40 : Value}
    {f41 : Addr} {od41 an41 : Option Addr} {sl41 : Array (Option Value)} {oc41 kV41 dc41 pm41 cd41 ct41 : Value}
    {f42 : Addr} {od42 an42 : Option Addr} {sl42 : Array (Option Value)} {oc42 kV42 dc42 pm42 cd42 ct42 : Value}
    {f43 : Addr} {od43 an43 : Option Addr} {sl43 : Array (Option Value)} {oc43 kV43 dc43 pm43 cd43 ct43 : Value}
    {f44 : Addr} {od44 an44 : Option Addr} {sl44 : Array (Option Value)} {oc44 kV44 dc44 pm44 cd44 ct44 : Value}
    {f45 : Addr} {od45 an45 : Option Addr} {sl45 : Array (Option Value)} {oc45 kV45 dc45 pm45 cd45 ct45 : Value}
    {f46 : Addr} {od46 an46 : Option Addr} {sl46 : Array (Option Value)} {oc46 kV46 dc46 pm46 cd46 ct46 : Value}
    {f47 : Addr} {od47 an47 : Option Addr} {sl47 : Array (Option Value)} {oc47 kV47 dc47 pm47 cd47 ct47 : Value}
    {f48 : Addr} {od48 an48 : Option Addr} {sl48 : Array (Option Value)} {oc48 kV48 dc48 pm48 cd48 ct48 : Value}
    {f49 : Addr} {od49 an49 : Option Addr} {sl49 : Array (Option Value)} {oc49 kV49 dc49 pm49 cd49 ct49 : Value}
    {f50 : Addr} {od50 an50 : Option Addr} {sl50 : Array (Option Value)} {oc50 kV50 dc50 pm50 cd50 ct50 : Value}
    {f51 : Addr} {od51 an51 : Option Addr} {sl51 : Array (Option Value)} {oc51 kV51 dc51 pm51 cd51 ct51 : Value}
    {f52 : Addr} {od52 an52 : Option Addr} {sl52 : Array (Option Value)} {oc52 kV52 dc52 pm52 cd52 ct52 : Value}
    {f53 : Addr} {od53 an53 : Option Addr} {sl53 : Array (Option Value)} {oc53 kV53 dc53 pm53 cd53 ct53 : Value}
    {f54 : Addr} {od54 an54 : Option Addr} {sl54 : Array (Option Value)} {oc54 kV54 dc54 pm54 cd54 ct54 : Value}
    {f55 : Addr} {od55 an55 : Option Addr} {sl55 : Array (Option Value)} {oc55 kV55 dc55 pm55 cd55 ct55 : Value}
    {t_MOST_BOXES : Tok}
    {t_MOST_DURATION : Tok}
    {t_MOST_FIRINGS : Tok}
    {t_MOST_PIPES : Tok}
    {t_MOST_RATE : Tok}
    {t_MOST_ROUNDS : Tok}
    {t_MOST_TOKENS : Tok}
    {t_MOST_UNROLLED : Tok}
    (a0 : PySem.W.nsIn K mainGlobals "_law_alike" = some (some (.ref f0))) (l0 : K.lookup f0 = some ⟨oc0, od0, .func (PySem.W.fnOf "_law_alike" "_law_alike" (defArgs st_p_law_alike) (defBody st_p_law_alike) (defScope st_p_law_alike) .none kV0 dc0 pm0 an0 cd0 ct0), sl0⟩) (c0 : PySem.W.codeIn K cd0 "_law_alike" = true) (k0 : PySem.W.keepIn K (.ref f0) = true)
    (a1 : PySem.W.nsIn K mainGlobals "is_greater" = some (some (.ref f1))) (l1 : K.lookup f1 = some ⟨oc1, od1, .func (PySem.W.fnOf "is_greater" "is_greater" (defArgs st_p_is_greater) (defBody st_p_is_greater) (defScope st_p_is_greater) .none kV1 dc1 pm1 an1 cd1 ct1), sl1⟩) (c1 : PySem.W.codeIn K cd1 "is_greater" = true) (k1 : PySem.W.keepIn K (.ref f1) = true)
    (a2 : PySem.W.nsIn K mainGlobals "last_needed" = some (some (.ref f2))) (l2 : K.lookup f2 = some ⟨oc2, od2, .func (PySem.W.fnOf "last_needed" "last_needed" (defArgs st_p_last_needed) (defBody st_p_last_needed) (defScope st_p_last_needed) .none kV2 dc2 pm2 an2 cd2 ct2), sl2⟩) (c2 : PySem.W.codeIn K cd2 "last_needed" = true) (k2 : PySem.W.keepIn K (.ref f2) = true)
    (a3 : PySem.W.nsIn K mainGlobals "firings_in_a_row" = some (some (.ref f3))) (l3 : K.lookup f3 = some ⟨oc3, od3, .func (PySem.W.fnOf "firings_in_a_row" "firings_in_a_row" (defArgs st_p_firings_in_a_row) (defBody st_p_firings_in_a_row) (defScope st_p_firings_in_a_row) .none kV3 dc3 pm3 an3 cd3 ct3), sl3⟩) (c3 : PySem.W.codeIn K cd3 "firings_in_a_row" = true) (k3 : PySem.W.keepIn K (.ref f3) = true)
    (a4 : PySem.W.nsIn K mainGlobals "pipes_at" = some (some (.ref f4))) (l4 : K.lookup f4 = some ⟨oc4, od4, .func (PySem.W.fnOf "pipes_at" "pipes_at" (defArgs st_p_pipes_at) (defBody st_p_pipes_at) (defScope st_p_pipes_at) .none kV4 dc4 pm4 an4 cd4 ct4), sl4⟩) (c4 : PySem.W.codeIn K cd4 "pipes_at" = true) (k4 : PySem.W.keepIn K (.ref f4) = true)
    (a5 : PySem.W.nsIn K mainGlobals "most_counts" = some (some (.ref f5))) (l5 : K.lookup f5 = some ⟨oc5, od5, .func (PySem.W.fnOf "most_counts" "most_counts" (defArgs st_p_most_counts) (defBody st_p_most_counts) (defScope st_p_most_counts) .none kV5 dc5 pm5 an5 cd5 ct5), sl5⟩) (c5 : PySem.W.codeIn K cd5 "most_counts" = true) (k5 : PySem.W.keepIn K (.ref f5) = true)
    (a6 : PySem.W.nsIn K mainGlobals "is_whole" = some (some (.ref f6))) (l6 : K.lookup f6 = some ⟨oc6, od6, .func (PySem.W.fnOf "is_whole" "is_whole" (defArgs st_p_is_whole) (defBody st_p_is_whole) (defScope st_p_is_whole) .none kV6 dc6 pm6 an6 cd6 ct6), sl6⟩) (c6 : PySem.W.codeIn K cd6 "is_whole" = true) (k6 : PySem.W.keepIn K (.ref f6) = true)
    (a7 : PySem.W.nsIn K mainGlobals "is_number" = some (some (.ref f7))) (l7 : K.lookup f7 = some ⟨oc7, od7, .func (PySem.W.fnOf "is_number" "is_number" (defArgs st_p_is_number) (defBody st_p_is_number) (defScope st_p_is_number) .none kV7 dc7 pm7 an7 cd7 ct7), sl7⟩) (c7 : PySem.W.codeIn K cd7 "is_number" = true) (k7 : PySem.W.keepIn K (.ref f7) = true)
    (a8 : PySem.W.nsIn K mainGlobals "is_box" = some (some (.ref f8))) (l8 : K.lookup f8 = some ⟨oc8, od8, .func (PySem.W.fnOf "is_box" "is_box" (defArgs st_p_is_box) (defBody st_p_is_box) (defScope st_p_is_box) .none kV8 dc8 pm8 an8 cd8 ct8), sl8⟩) (c8 : PySem.W.codeIn K cd8 "is_box" = true) (k8 : PySem.W.keepIn K (.ref f8) = true)
    (a9 : PySem.W.nsIn K mainGlobals "is_row" = some (some (.ref f9))) (l9 : K.lookup f9 = some ⟨oc9, od9, .func (PySem.W.fnOf "is_row" "is_row" (defArgs st_p_is_row) (defBody st_p_is_row) (defScope st_p_is_row) .none kV9 dc9 pm9 an9 cd9 ct9), sl9⟩) (c9 : PySem.W.codeIn K cd9 "is_row" = true) (k9 : PySem.W.keepIn K (.ref f9) = true)
    (a10 : PySem.W.nsIn K mainGlobals "is_pipe" = some (some (.ref f10))) (l10 : K.lookup f10 = some ⟨oc10, od10, .func (PySem.W.fnOf "is_pipe" "is_pipe" (defArgs st_p_is_pipe) (defBody st_p_is_pipe) (defScope st_p_is_pipe) .none kV10 dc10 pm10 an10 cd10 ct10), sl10⟩) (c10 : PySem.W.codeIn K cd10 "is_pipe" = true) (k10 : PySem.W.keepIn K (.ref f10) = true)
    (a11 : PySem.W.nsIn K mainGlobals "check_flow" = some (some (.ref f11))) (l11 : K.lookup f11 = some ⟨oc11, od11, .func (PySem.W.fnOf "check_flow" "check_flow" (defArgs st_p_check_flow) (defBody st_p_check_flow) (defScope st_p_check_flow) .none kV11 dc11 pm11 an11 cd11 ct11), sl11⟩) (c11 : PySem.W.codeIn K cd11 "check_flow" = true) (k11 : PySem.W.keepIn K (.ref f11) = true)
    (a12 : PySem.W.nsIn K mainGlobals "rate_along" = some (some (.ref f12))) (l12 : K.lookup f12 = some ⟨oc12, od12, .func (PySem.W.fnOf "rate_along" "rate_along" (defArgs st_p_rate_along) (defBody st_p_rate_along) (defScope st_p_rate_along) .none kV12 dc12 pm12 an12 cd12 ct12), sl12⟩) (c12 : PySem.W.codeIn K cd12 "rate_along" = true) (k12 : PySem.W.keepIn K (.ref f12) = true)
    (a13 : PySem.W.nsIn K mainGlobals "ring_through" = some (some (.ref f13))) (l13 : K.lookup f13 = some ⟨oc13, od13, .func (PySem.W.fnOf "ring_through" "ring_through" (defArgs st_p_ring_through) (defBody st_p_ring_through) (defScope st_p_ring_through) .none kV13 dc13 pm13 an13 cd13 ct13), sl13⟩) (c13 : PySem.W.codeIn K cd13 "ring_through" = true) (k13 : PySem.W.keepIn K (.ref f13) = true)
    (a14 : PySem.W.nsIn K mainGlobals "reached" = some (some (.ref f14))) (l14 : K.lookup f14 = some ⟨oc14, od14, .func (PySem.W.fnOf "reached" "reached" (defArgs st_p_reached) (defBody st_p_reached) (defScope st_p_reached) .none kV14 dc14 pm14 an14 cd14 ct14), sl14⟩) (c14 : PySem.W.codeIn K cd14 "reached" = true) (k14 : PySem.W.keepIn K (.ref f14) = true)
    (a15 : PySem.W.nsIn K mainGlobals "grouped" = some (some (.ref f15))) (l15 : K.lookup f15 = some ⟨oc15, od15, .func (PySem.W.fnOf "grouped" "grouped" (defArgs st_p_grouped) (defBody st_p_grouped) (defScope st_p_grouped) .none kV15 dc15 pm15 an15 cd15 ct15), sl15⟩) (c15 : PySem.W.codeIn K cd15 "grouped" = true) (k15 : PySem.W.keepIn K (.ref f15) = true)
    (a16 : PySem.W.nsIn K mainGlobals "pipe_links" = some (some (.ref f16))) (l16 : K.lookup f16 = some ⟨oc16, od16, .func (PySem.W.fnOf "pipe_links" "pipe_links" (defArgs st_p_pipe_links) (defBody st_p_pipe_links) (defScope st_p_pipe_links) .none kV16 dc16 pm16 an16 cd16 ct16), sl16⟩) (c16 : PySem.W.codeIn K cd16 "pipe_links" = true) (k16 : PySem.W.keepIn K (.ref f16) = true)
    (a17 : PySem.W.nsIn K mainGlobals "parts" = some (some (.ref f17))) (l17 : K.lookup f17 = some ⟨oc17, od17, .func (PySem.W.fnOf "parts" "parts" (defArgs st_p_parts) (defBody st_p_parts) (defScope st_p_parts) .none kV17 dc17 pm17 an17 cd17 ct17), sl17⟩) (c17 : PySem.W.codeIn K cd17 "parts" = true) (k17 : PySem.W.keepIn K (.ref f17) = true)
    (a18 : PySem.W.nsIn K mainGlobals "step_boxes" = some (some (.ref f18))) (l18 : K.lookup f18 = some ⟨oc18, od18, .func (PySem.W.fnOf "step_boxes" "step_boxes" (defArgs st_p_step_boxes) (defBody st_p_step_boxes) (defScope st_p_step_boxes) .none kV18 dc18 pm18 an18 cd18 ct18), sl18⟩) (c18 : PySem.W.codeIn K cd18 "step_boxes" = true) (k18 : PySem.W.keepIn K (.ref f18) = true)
    (a19 : PySem.W.nsIn K mainGlobals "steps_from" = some (some (.ref f19))) (l19 : K.lookup f19 = some ⟨oc19, od19, .func (PySem.W.fnOf "steps_from" "steps_from" (defArgs st_p_steps_from) (defBody st_p_steps_from) (defScope st_p_steps_from) .none kV19 dc19 pm19 an19 cd19 ct19), sl19⟩) (c19 : PySem.W.codeIn K cd19 "steps_from" = true) (k19 : PySem.W.keepIn K (.ref f19) = true)
    (a20 : PySem.W.nsIn K mainGlobals "spreading_steps" = some (some (.ref f20))) (l20 : K.lookup f20 = some ⟨oc20, od20, .func (PySem.W.fnOf "spreading_steps" "spreading_steps" (defArgs st_p_spreading_steps) (defBody st_p_spreading_steps) (defScope st_p_spreading_steps) .none kV20 dc20 pm20 an20 cd20 ct20), sl20⟩) (c20 : PySem.W.codeIn K cd20 "spreading_steps" = true) (k20 : PySem.W.keepIn K (.ref f20) = true)
    (a21 : PySem.W.nsIn K mainGlobals "trails" = some (some (.ref f21))) (l21 : K.lookup f21 = some ⟨oc21, od21, .func (PySem.W.fnOf "trails" "trails" (defArgs st_p_trails) (defBody st_p_trails) (defScope st_p_trails) .none kV21 dc21 pm21 an21 cd21 ct21), sl21⟩) (c21 : PySem.W.codeIn K cd21 "trails" = true) (k21 : PySem.W.keepIn K (.ref f21) = true)
    (a22 : PySem.W.nsIn K mainGlobals "tilt" = some (some (.ref f22))) (l22 : K.lookup f22 = some ⟨oc22, od22, .func (PySem.W.fnOf "tilt" "tilt" (defArgs st_p_tilt) (defBody st_p_tilt) (defScope st_p_tilt) .none kV22 dc22 pm22 an22 cd22 ct22), sl22⟩) (c22 : PySem.W.codeIn K cd22 "tilt" = true) (k22 : PySem.W.keepIn K (.ref f22) = true)
    (a23 : PySem.W.nsIn K mainGlobals "check_balanced" = some (some (.ref f23))) (l23 : K.lookup f23 = some ⟨oc23, od23, .func (PySem.W.fnOf "check_balanced" "check_balanced" (defArgs st_p_check_balanced) (defBody st_p_check_balanced) (defScope st_p_check_balanced) .none kV23 dc23 pm23 an23 cd23 ct23), sl23⟩) (c23 : PySem.W.codeIn K cd23 "check_balanced" = true) (k23 : PySem.W.keepIn K (.ref f23) = true)
    (a24 : PySem.W.nsIn K mainGlobals "repetitions" = some (some (.ref f24))) (l24 : K.lookup f24 = some ⟨oc24, od24, .func (PySem.W.fnOf "repetitions" "repetitions" (defArgs st_p_repetitions) (defBody st_p_repetitions) (defScope st_p_repetitions) .none kV24 dc24 pm24 an24 cd24 ct24), sl24⟩) (c24 : PySem.W.codeIn K cd24 "repetitions" = true) (k24 : PySem.W.keepIn K (.ref f24) = true)
    (a25 : PySem.W.nsIn K mainGlobals "round_counts" = some (some (.ref f25))) (l25 : K.lookup f25 = some ⟨oc25, od25, .func (PySem.W.fnOf "round_counts" "round_counts" (defArgs st_p_round_counts) (defBody st_p_round_counts) (defScope st_p_round_counts) .none kV25 dc25 pm25 an25 cd25 ct25), sl25⟩) (c25 : PySem.W.codeIn K cd25 "round_counts" = true) (k25 : PySem.W.keepIn K (.ref f25) = true)
    (a26 : PySem.W.nsIn K mainGlobals "live_counts" = some (some (.ref f26))) (l26 : K.lookup f26 = some ⟨oc26, od26, .func (PySem.W.fnOf "live_counts" "live_counts" (defArgs st_p_live_counts) (defBody st_p_live_counts) (defScope st_p_live_counts) .none kV26 dc26 pm26 an26 cd26 ct26), sl26⟩) (c26 : PySem.W.codeIn K cd26 "live_counts" = true) (k26 : PySem.W.keepIn K (.ref f26) = true)
    (a27 : PySem.W.nsIn K mainGlobals "unrolled_counts" = some (some (.ref f27))) (l27 : K.lookup f27 = some ⟨oc27, od27, .func (PySem.W.fnOf "unrolled_counts" "unrolled_counts" (defArgs st_p_unrolled_counts) (defBody st_p_unrolled_counts) (defScope st_p_unrolled_counts) .none kV27 dc27 pm27 an27 cd27 ct27), sl27⟩) (c27 : PySem.W.codeIn K cd27 "unrolled_counts" = true) (k27 : PySem.W.keepIn K (.ref f27) = true)
    (a28 : PySem.W.nsIn K mainGlobals "needs" = some (some (.ref f28))) (l28 : K.lookup f28 = some ⟨oc28, od28, .func (PySem.W.fnOf "needs" "needs" (defArgs st_p_needs) (defBody st_p_needs) (defScope st_p_needs) .none kV28 dc28 pm28 an28 cd28 ct28), sl28⟩) (c28 : PySem.W.codeIn K cd28 "needs" = true) (k28 : PySem.W.keepIn K (.ref f28) = true)
    (a29 : PySem.W.nsIn K mainGlobals "all_steps" = some (some (.ref f29))) (l29 : K.lookup f29 = some ⟨oc29, od29, .func (PySem.W.fnOf "all_steps" "all_steps" (defArgs st_p_all_steps) (defBody st_p_all_steps) (defScope st_p_all_steps) .none kV29 dc29 pm29 an29 cd29 ct29), sl29⟩) (c29 : PySem.W.codeIn K cd29 "all_steps" = true) (k29 : PySem.W.keepIn K (.ref f29) = true)
    (a30 : PySem.W.nsIn K mainGlobals "check_times" = some (some (.ref f30))) (l30 : K.lookup f30 = some ⟨oc30, od30, .func (PySem.W.fnOf "check_times" "check_times" (defArgs st_p_check_times) (defBody st_p_check_times) (defScope st_p_check_times) .none kV30 dc30 pm30 an30 cd30 ct30), sl30⟩) (c30 : PySem.W.codeIn K cd30 "check_times" = true) (k30 : PySem.W.keepIn K (.ref f30) = true)
    (a31 : PySem.W.nsIn K mainGlobals "knots" = some (some (.ref f31))) (l31 : K.lookup f31 = some ⟨oc31, od31, .func (PySem.W.fnOf "knots" "knots" (defArgs st_p_knots) (defBody st_p_knots) (defScope st_p_knots) .none kV31 dc31 pm31 an31 cd31 ct31), sl31⟩) (c31 : PySem.W.codeIn K cd31 "knots" = true) (k31 : PySem.W.keepIn K (.ref f31) = true)
    (a32 : PySem.W.nsIn K mainGlobals "ring_mean" = some (some (.ref f32))) (l32 : K.lookup f32 = some ⟨oc32, od32, .func (PySem.W.fnOf "ring_mean" "ring_mean" (defArgs st_p_ring_mean) (defBody st_p_ring_mean) (defScope st_p_ring_mean) .none kV32 dc32 pm32 an32 cd32 ct32), sl32⟩) (c32 : PySem.W.codeIn K cd32 "ring_mean" = true) (k32 : PySem.W.keepIn K (.ref f32) = true)
    (a33 : PySem.W.nsIn K mainGlobals "ring_to" = some (some (.ref f33))) (l33 : K.lookup f33 = some ⟨oc33, od33, .func (PySem.W.fnOf "ring_to" "ring_to" (defArgs st_p_ring_to) (defBody st_p_ring_to) (defScope st_p_ring_to) .none kV33 dc33 pm33 an33 cd33 ct33), sl33⟩) (c33 : PySem.W.codeIn K cd33 "ring_to" = true) (k33 : PySem.W.keepIn K (.ref f33) = true)
    (a34 : PySem.W.nsIn K mainGlobals "closed_ring" = some (some (.ref f34))) (l34 : K.lookup f34 = some ⟨oc34, od34, .func (PySem.W.fnOf "closed_ring" "closed_ring" (defArgs st_p_closed_ring) (defBody st_p_closed_ring) (defScope st_p_closed_ring) .none kV34 dc34 pm34 an34 cd34 ct34), sl34⟩) (c34 : PySem.W.codeIn K cd34 "closed_ring" = true) (k34 : PySem.W.keepIn K (.ref f34) = true)
    (a35 : PySem.W.nsIn K mainGlobals "slower_ring" = some (some (.ref f35))) (l35 : K.lookup f35 = some ⟨oc35, od35, .func (PySem.W.fnOf "slower_ring" "slower_ring" (defArgs st_p_slower_ring) (defBody st_p_slower_ring) (defScope st_p_slower_ring) .none kV35 dc35 pm35 an35 cd35 ct35), sl35⟩) (c35 : PySem.W.codeIn K cd35 "slower_ring" = true) (k35 : PySem.W.keepIn K (.ref f35) = true)
    (a36 : PySem.W.nsIn K mainGlobals "slowest_ring" = some (some (.ref f36))) (l36 : K.lookup f36 = some ⟨oc36, od36, .func (PySem.W.fnOf "slowest_ring" "slowest_ring" (defArgs st_p_slowest_ring) (defBody st_p_slowest_ring) (defScope st_p_slowest_ring) .none kV36 dc36 pm36 an36 cd36 ct36), sl36⟩) (c36 : PySem.W.codeIn K cd36 "slowest_ring" = true) (k36 : PySem.W.keepIn K (.ref f36) = true)
    (a37 : PySem.W.nsIn K mainGlobals "knot_rings" = some (some (.ref f37))) (l37 : K.lookup f37 = some ⟨oc37, od37, .func (PySem.W.fnOf "knot_rings" "knot_rings" (defArgs st_p_knot_rings) (defBody st_p_knot_rings) (defScope st_p_knot_rings) .none kV37 dc37 pm37 an37 cd37 ct37), sl37⟩) (c37 : PySem.W.codeIn K cd37 "knot_rings" = true) (k37 : PySem.W.keepIn K (.ref f37) = true)
    (a38 : PySem.W.nsIn K mainGlobals "box_means" = some (some (.ref f38))) (l38 : K.lookup f38 = some ⟨oc38, od38, .func (PySem.W.fnOf "box_means" "box_means" (defArgs st_p_box_means) (defBody st_p_box_means) (defScope st_p_box_means) .none kV38 dc38 pm38 an38 cd38 ct38), sl38⟩) (c38 : PySem.W.codeIn K cd38 "box_means" = true) (k38 : PySem.W.keepIn K (.ref f38) = true)
    (a39 : PySem.W.nsIn K mainGlobals "firings" = some (some (.ref f39))) (l39 : K.lookup f39 = some ⟨oc39, od39, .func (PySem.W.fnOf "firings" "firings" (defArgs st_p_firings) (defBody st_p_firings) (defScope st_p_firings) .none kV39 dc39 pm39 an39 cd39 ct39), sl39⟩) (c39 : PySem.W.codeIn K cd39 "firings" = true) (k39 : PySem.W.keepIn K (.ref f39) = true)
    (a40 : PySem.W.nsIn K mainGlobals "check_rounds" = some (some (.ref f40))) (l40 : K.lookup f40 = some ⟨oc40, od40, .func (PySem.W.fnOf "check_rounds" "check_rounds" (defArgs st_p_check_rounds) (defBody st_p_check_rounds) (defScope st_p_check_rounds) .none kV40 dc40 pm40 an40 cd40 ct40), sl40⟩) (c40 : PySem.W.codeIn K cd40 "check_rounds" = true) (k40 : PySem.W.keepIn K (.ref f40) = true)
    (a41 : PySem.W.nsIn K mainGlobals "held_behind" = some (some (.ref f41))) (l41 : K.lookup f41 = some ⟨oc41, od41, .func (PySem.W.fnOf "held_behind" "held_behind" (defArgs st_p_held_behind) (defBody st_p_held_behind) (defScope st_p_held_behind) .none kV41 dc41 pm41 an41 cd41 ct41), sl41⟩) (c41 : PySem.W.codeIn K cd41 "held_behind" = true) (k41 : PySem.W.keepIn K (.ref f41) = true)
    (a42 : PySem.W.nsIn K mainGlobals "short_pipes" = some (some (.ref f42))) (l42 : K.lookup f42 = some ⟨oc42, od42, .func (PySem.W.fnOf "short_pipes" "short_pipes" (defArgs st_p_short_pipes) (defBody st_p_short_pipes) (defScope st_p_short_pipes) .none kV42 dc42 pm42 an42 cd42 ct42), sl42⟩) (c42 : PySem.W.codeIn K cd42 "short_pipes" = true) (k42 : PySem.W.keepIn K (.ref f42) = true)
    (a43 : PySem.W.nsIn K mainGlobals "least_word" = some (some (.ref f43))) (l43 : K.lookup f43 = some ⟨oc43, od43, .func (PySem.W.fnOf "least_word" "least_word" (defArgs st_p_least_word) (defBody st_p_least_word) (defScope st_p_least_word) .none kV43 dc43 pm43 an43 cd43 ct43), sl43⟩) (c43 : PySem.W.codeIn K cd43 "least_word" = true) (k43 : PySem.W.keepIn K (.ref f43) = true)
    (a44 : PySem.W.nsIn K mainGlobals "starts" = some (some (.ref f44))) (l44 : K.lookup f44 = some ⟨oc44, od44, .func (PySem.W.fnOf "starts" "starts" (defArgs st_p_starts) (defBody st_p_starts) (defScope st_p_starts) .none kV44 dc44 pm44 an44 cd44 ct44), sl44⟩) (c44 : PySem.W.codeIn K cd44 "starts" = true) (k44 : PySem.W.keepIn K (.ref f44) = true)
    (a45 : PySem.W.nsIn K mainGlobals "start_times" = some (some (.ref f45))) (l45 : K.lookup f45 = some ⟨oc45, od45, .func (PySem.W.fnOf "start_times" "start_times" (defArgs st_p_start_times) (defBody st_p_start_times) (defScope st_p_start_times) .none kV45 dc45 pm45 an45 cd45 ct45), sl45⟩) (c45 : PySem.W.codeIn K cd45 "start_times" = true) (k45 : PySem.W.keepIn K (.ref f45) = true)
    (a46 : PySem.W.nsIn K mainGlobals "first_time" = some (some (.ref f46))) (l46 : K.lookup f46 = some ⟨oc46, od46, .func (PySem.W.fnOf "first_time" "first_time" (defArgs st_p_first_time) (defBody st_p_first_time) (defScope st_p_first_time) .none kV46 dc46 pm46 an46 cd46 ct46), sl46⟩) (c46 : PySem.W.codeIn K cd46 "first_time" = true) (k46 : PySem.W.keepIn K (.ref f46) = true)
    (a47 : PySem.W.nsIn K mainGlobals "slow_ring" = some (some (.ref f47))) (l47 : K.lookup f47 = some ⟨oc47, od47, .func (PySem.W.fnOf "slow_ring" "slow_ring" (defArgs st_p_slow_ring) (defBody st_p_slow_ring) (defScope st_p_slow_ring) .none kV47 dc47 pm47 an47 cd47 ct47), sl47⟩) (c47 : PySem.W.codeIn K cd47 "slow_ring" = true) (k47 : PySem.W.keepIn K (.ref f47) = true)
    (a48 : PySem.W.nsIn K mainGlobals "mean_time" = some (some (.ref f48))) (l48 : K.lookup f48 = some ⟨oc48, od48, .func (PySem.W.fnOf "mean_time" "mean_time" (defArgs st_p_mean_time) (defBody st_p_mean_time) (defScope st_p_mean_time) .none kV48 dc48 pm48 an48 cd48 ct48), sl48⟩) (c48 : PySem.W.codeIn K cd48 "mean_time" = true) (k48 : PySem.W.keepIn K (.ref f48) = true)
    (a49 : PySem.W.nsIn K mainGlobals "even_gap" = some (some (.ref f49))) (l49 : K.lookup f49 = some ⟨oc49, od49, .func (PySem.W.fnOf "even_gap" "even_gap" (defArgs st_p_even_gap) (defBody st_p_even_gap) (defScope st_p_even_gap) .none kV49 dc49 pm49 an49 cd49 ct49), sl49⟩) (c49 : PySem.W.codeIn K cd49 "even_gap" = true) (k49 : PySem.W.keepIn K (.ref f49) = true)
    (a50 : PySem.W.nsIn K mainGlobals "round_rows" = some (some (.ref f50))) (l50 : K.lookup f50 = some ⟨oc50, od50, .func (PySem.W.fnOf "round_rows" "round_rows" (defArgs st_p_round_rows) (defBody st_p_round_rows) (defScope st_p_round_rows) .none kV50 dc50 pm50 an50 cd50 ct50), sl50⟩) (c50 : PySem.W.codeIn K cd50 "round_rows" = true) (k50 : PySem.W.keepIn K (.ref f50) = true)
    (a51 : PySem.W.nsIn K mainGlobals "settled" = some (some (.ref f51))) (l51 : K.lookup f51 = some ⟨oc51, od51, .func (PySem.W.fnOf "settled" "settled" (defArgs st_p_settled) (defBody st_p_settled) (defScope st_p_settled) .none kV51 dc51 pm51 an51 cd51 ct51), sl51⟩) (c51 : PySem.W.codeIn K cd51 "settled" = true) (k51 : PySem.W.keepIn K (.ref f51) = true)
    (a52 : PySem.W.nsIn K mainGlobals "is_like_step" = some (some (.ref f52))) (l52 : K.lookup f52 = some ⟨oc52, od52, .func (PySem.W.fnOf "is_like_step" "is_like_step" (defArgs st_p_is_like_step) (defBody st_p_is_like_step) (defScope st_p_is_like_step) .none kV52 dc52 pm52 an52 cd52 ct52), sl52⟩) (c52 : PySem.W.codeIn K cd52 "is_like_step" = true) (k52 : PySem.W.keepIn K (.ref f52) = true)
    (a53 : PySem.W.nsIn K mainGlobals "is_ring" = some (some (.ref f53))) (l53 : K.lookup f53 = some ⟨oc53, od53, .func (PySem.W.fnOf "is_ring" "is_ring" (defArgs st_p_is_ring) (defBody st_p_is_ring) (defScope st_p_is_ring) .none kV53 dc53 pm53 an53 cd53 ct53), sl53⟩) (c53 : PySem.W.codeIn K cd53 "is_ring" = true) (k53 : PySem.W.keepIn K (.ref f53) = true)
    (a54 : PySem.W.nsIn K mainGlobals "shows_slow_ring" = some (some (.ref f54))) (l54 : K.lookup f54 = some ⟨oc54, od54, .func (PySem.W.fnOf "shows_slow_ring" "shows_slow_ring" (defArgs st_p_shows_slow_ring) (defBody st_p_shows_slow_ring) (defScope st_p_shows_slow_ring) .none kV54 dc54 pm54 an54 cd54 ct54), sl54⟩) (c54 : PySem.W.codeIn K cd54 "shows_slow_ring" = true) (k54 : PySem.W.keepIn K (.ref f54) = true)
    (a55 : PySem.W.nsIn K mainGlobals "law" = some (some (.ref f55))) (l55 : K.lookup f55 = some ⟨oc55, od55, .func (PySem.W.fnOf "law" "law" (defArgs st_p_law) (defBody st_p_law) (defScope st_p_law) .none kV55 dc55 pm55 an55 cd55 ct55), sl55⟩) (c55 : PySem.W.codeIn K cd55 "law" = true) (k55 : PySem.W.keepIn K (.ref f55) = true)
    (z_all : PySem.W.nsIn K mainGlobals "all" = some none)
    (z_any : PySem.W.nsIn K mainGlobals "any" = some none)
    (z_bool : PySem.W.nsIn K mainGlobals "bool" = some none)
    (z_enumerate : PySem.W.nsIn K mainGlobals "enumerate" = some none)
    (z_int : PySem.W.nsIn K mainGlobals "int" = some none)
    (z_isinstance : PySem.W.nsIn K mainGlobals "isinstance" = some none)
    (z_len : PySem.W.nsIn K mainGlobals "len" = some none)
    (z_list : PySem.W.nsIn K mainGlobals "list" = some none)
    (z_max : PySem.W.nsIn K mainGlobals "max" = some none)
    (z_min : PySem.W.nsIn K mainGlobals "min" = some none)
    (z_range : PySem.W.nsIn K mainGlobals "range" = some none)
    (z_sorted : PySem.W.nsIn K mainGlobals "sorted" = some none)
    (z_str : PySem.W.nsIn K mainGlobals "str" = some none)
    (z_sum : PySem.W.nsIn K mainGlobals "sum" = some none)
    (z_tuple : PySem.W.nsIn K mainGlobals "tuple" = some none)
    (z_zip : PySem.W.nsIn K mainGlobals "zip" = some none)
    (z_MOST_BOXES : PySem.W.nsIn K mainGlobals "MOST_BOXES" = some (some (.int 8 t_MOST_BOXES)))
    (z_MOST_DURATION : PySem.W.nsIn K mainGlobals "MOST_DURATION" = some (some (.int 99 t_MOST_DURATION)))
    (z_MOST_FIRINGS : PySem.W.nsIn K mainGlobals "MOST_FIRINGS" = some (some (.int 2000 t_MOST_FIRINGS)))
    (z_MOST_PIPES : PySem.W.nsIn K mainGlobals "MOST_PIPES" = some (some (.int 16 t_MOST_PIPES)))
    (z_MOST_RATE : PySem.W.nsIn K mainGlobals "MOST_RATE" = some (some (.int 999 t_MOST_RATE)))
    (z_MOST_ROUNDS : PySem.W.nsIn K mainGlobals "MOST_ROUNDS" = some (some (.int 60 t_MOST_ROUNDS)))
    (z_MOST_TOKENS : PySem.W.nsIn K mainGlobals "MOST_TOKENS" = some (some (.int 99999 t_MOST_TOKENS)))
    (z_MOST_UNROLLED : PySem.W.nsIn K mainGlobals "MOST_UNROLLED" = some (some (.int 120 t_MOST_UNROLLED)))
    (z_gcd : PySem.W.nsIn K mainGlobals "gcd" = some (some (.builtin "math.gcd")))
    (z_lcm : PySem.W.nsIn K mainGlobals "lcm" = some (some (.builtin "math.lcm"))) :
    ∃ fd : FuncData, (∀ (s : Shared) (v : Value), BindsTo s fd ⟨[v], []⟩ [("script", v)]) ∧ ∀ base : Heap, K.In base → base.Ns mainGlobals mg → FnOk l.prog w K mg base (L2.CX l.prog w) 20 fa fd ["script"] (spLaw K) := by
  have e := hfa.symm.trans (PySem.W.mg_of X G a55)
  cases e
  have T : Top K mg := { all := PySem.W.mg_none_of X G z_all, any := PySem.W.mg_none_of X G z_any, bool := PySem.W.mg_none_of X G z_bool, enumerate := PySem.W.mg_none_of X G z_enumerate, int := PySem.W.mg_none_of X G z_int, isinstance := PySem.W.mg_none_of X G z_isinstance, len := PySem.W.mg_none_of X G z_len, list := PySem.W.mg_none_of X G z_list, max := PySem.W.mg_none_of X G z_max, min := PySem.W.mg_none_of X G z_min, range := PySem.W.mg_none_of X G z_range, sorted := PySem.W.mg_none_of X G z_sorted, str := PySem.W.mg_none_of X G z_str, sum := PySem.W.mg_none_of X G z_sum, tuple := PySem.W.mg_none_of X G z_tuple, zip := PySem.W.mg_none_of X G z_zip, c_MOST_BOXES := ⟨t_MOST_BOXES, PySem.W.mg_of X G z_MOST_BOXES⟩, c_MOST_DURATION := ⟨t_MOST_DURATION, PySem.W.mg_of X G z_MOST_DURATION⟩, c_MOST_FIRINGS := ⟨t_MOST_FIRINGS, PySem.W.mg_of X G z_MOST_FIRINGS⟩, c_MOST_PIPES := ⟨t_MOST_PIPES, PySem.W.mg_of X G z_MOST_PIPES⟩, c_MOST_RATE := ⟨t_MOST_RATE, PySem.W.mg_of X G z_MOST_RATE⟩, c_MOST_ROUNDS := ⟨t_MOST_ROUNDS, PySem.W.mg_of X G z_MOST_ROUNDS⟩, c_MOST_TOKENS := ⟨t_MOST_TOKENS, PySem.W.mg_of X G z_MOST_TOKENS⟩, c_MOST_UNROLLED := ⟨t_MOST_UNROLLED, PySem.W.mg_of X G z_MOST_UNROLLED⟩, gcd := PySem.W.mg_of X G z_gcd, lcm := PySem.W.mg_of X G z_lcm }
  have F0 := fun_mk (st := st_p_law_alike) l0 c0 k0
  have b0 := F0.binds (ps := ["found", "due"]) fun _ _ _ _ _ _ us hl => match us, hl with | [_, _], _ => rfl
  have F1 := fun_mk (st := st_p_is_greater) l1 c1 k1
  have b1 := F1.binds (ps := ["mean", "other"]) fun _ _ _ _ _ _ us hl => match us, hl with | [_, _], _ => rfl
  have F2 := fun_mk (st := st_p_last_needed) l2 c2 k2
  have b2 := F2.binds (ps := ["pipe", "number"]) fun _ _ _ _ _ _ us hl => match us, hl with | [_, _], _ => rfl
  have F3 := fun_mk (st := st_p_firings_in_a_row) l3 c3 k3
  have b3 := F3.binds (ps := ["pipes", "held", "entries", "most"]) fun _ _ _ _ _ _ us hl => match us, hl with | [_, _, _, _], _ => rfl
  have F4 := fun_mk (st := st_p_pipes_at) l4 c4 k4
  have b4 := F4.binds (ps := ["pipes", "end", "boxes"]) fun _ _ _ _ _ _ us hl => match us, hl with | [_, _, _], _ => rfl
  have F5 := fun_mk (st := st_p_most_counts) l5 c5 k5
  have b5 := F5.binds (ps := ["pipes", "counts"]) fun _ _ _ _ _ _ us hl => match us, hl with | [_, _], _ => rfl
  have F6 := fun_mk (st := st_p_is_whole) l6 c6 k6
  have b6 := F6.binds (ps := ["value"]) fun _ _ _ _ _ _ us hl => match us, hl with | [_], _ => rfl
  have F7 := fun_mk (st := st_p_is_number) l7 c7 k7
  have b7 := F7.binds (ps := ["value", "low", "high"]) fun _ _ _ _ _ _ us hl => match us, hl with | [_, _, _], _ => rfl
  have F8 := fun_mk (st := st_p_is_box) l8 c8 k8
  have b8 := F8.binds (ps := ["value", "boxes"]) fun _ _ _ _ _ _ us hl => match us, hl with | [_, _], _ => rfl
  have F9 := fun_mk (st := st_p_is_row) l9 c9 k9
  have b9 := F9.binds (ps := ["value", "many"]) fun _ _ _ _ _ _ us hl => match us, hl with | [_, _], _ => rfl
  have F10 := fun_mk (st := st_p_is_pipe) l10 c10 k10
  have b10 := F10.binds (ps := ["value", "boxes"]) fun _ _ _ _ _ _ us hl => match us, hl with | [_, _], _ => rfl
  have F11 := fun_mk (st := st_p_check_flow) l11 c11 k11
  have b11 := F11.binds (ps := ["flow"]) fun _ _ _ _ _ _ us hl => match us, hl with | [_], _ => rfl
  have F12 := fun_mk (st := st_p_rate_along) l12 c12 k12
  have b12 := F12.binds (ps := ["pipes", "steps"]) fun _ _ _ _ _ _ us hl => match us, hl with | [_, _], _ => rfl
  have F13 := fun_mk (st := st_p_ring_through) l13 c13 k13
  have b13 := F13.binds (ps := ["place", "to_one", "to_other"]) fun _ _ _ _ _ _ us hl => match us, hl with | [_, _, _], _ => rfl
  have F14 := fun_mk (st := st_p_reached) l14 c14 k14
  have b14 := F14.binds (ps := ["links", "box"]) fun _ _ _ _ _ _ us hl => match us, hl with | [_, _], _ => rfl
  have F15 := fun_mk (st := st_p_grouped) l15 c15 k15
  have b15 := F15.binds (ps := ["boxes", "links"]) fun _ _ _ _ _ _ us hl => match us, hl with | [_, _], _ => rfl
  have F16 := fun_mk (st := st_p_pipe_links) l16 c16 k16
  have b16 := F16.binds (ps := ["flow"]) fun _ _ _ _ _ _ us hl => match us, hl with | [_], _ => rfl
  have F17 := fun_mk (st := st_p_parts) l17 c17 k17
  have b17 := F17.binds (ps := ["flow"]) fun _ _ _ _ _ _ us hl => match us, hl with | [_], _ => rfl
  have F18 := fun_mk (st := st_p_step_boxes) l18 c18 k18
  have b18 := F18.binds (ps := ["pipes", "step"]) fun _ _ _ _ _ _ us hl => match us, hl with | [_, _], _ => rfl
  have F19 := fun_mk (st := st_p_steps_from) l19 c19 k19
  have b19 := F19.binds (ps := ["pipes", "box"]) fun _ _ _ _ _ _ us hl => match us, hl with | [_, _], _ => rfl
  have F20 := fun_mk (st := st_p_spreading_steps) l20 c20 k20
  have b20 := F20.binds (ps := ["pipes", "root"]) fun _ _ _ _ _ _ us hl => match us, hl with | [_, _], _ => rfl
  have F21 := fun_mk (st := st_p_trails) l21 c21 k21
  have b21 := F21.binds (ps := ["flow"]) fun _ _ _ _ _ _ us hl => match us, hl with | [_], _ => rfl
  have F22 := fun_mk (st := st_p_tilt) l22 c22 k22
  have b22 := F22.binds (ps := ["flow"]) fun _ _ _ _ _ _ us hl => match us, hl with | [_], _ => rfl
  have F23 := fun_mk (st := st_p_check_balanced) l23 c23 k23
  have b23 := F23.binds (ps := ["flow"]) fun _ _ _ _ _ _ us hl => match us, hl with | [_], _ => rfl
  have F24 := fun_mk (st := st_p_repetitions) l24 c24 k24
  have b24 := F24.binds (ps := ["flow"]) fun _ _ _ _ _ _ us hl => match us, hl with | [_], _ => rfl
  have F25 := fun_mk (st := st_p_round_counts) l25 c25 k25
  have b25 := F25.binds (ps := ["flow"]) fun _ _ _ _ _ _ us hl => match us, hl with | [_], _ => rfl
  have F26 := fun_mk (st := st_p_live_counts) l26 c26 k26
  have b26 := F26.binds (ps := ["flow"]) fun _ _ _ _ _ _ us hl => match us, hl with | [_], _ => rfl
  have F27 := fun_mk (st := st_p_unrolled_counts) l27 c27 k27
  have b27 := F27.binds (ps := ["flow"]) fun _ _ _ _ _ _ us hl => match us, hl with | [_], _ => rfl
  have F28 := fun_mk (st := st_p_needs) l28 c28 k28
  have b28 := F28.binds (ps := ["flow"]) fun _ _ _ _ _ _ us hl => match us, hl with | [_], _ => rfl
  have F29 := fun_mk (st := st_p_all_steps) l29 c29 k29
  have b29 := F29.binds (ps := ["flow", "counts"]) fun _ _ _ _ _ _ us hl => match us, hl with | [_, _], _ => rfl
  have F30 := fun_mk (st := st_p_check_times) l30 c30 k30
  have b30 := F30.binds (ps := ["flow", "times"]) fun _ _ _ _ _ _ us hl => match us, hl with | [_, _], _ => rfl
  have F31 := fun_mk (st := st_p_knots) l31 c31 k31
  have b31 := F31.binds (ps := ["flow"]) fun _ _ _ _ _ _ us hl => match us, hl with | [_], _ => rfl
  have F32 := fun_mk (st := st_p_ring_mean) l32 c32 k32
  have b32 := F32.binds (ps := ["ring", "times"]) fun _ _ _ _ _ _ us hl => match us, hl with | [_, _], _ => rfl
  have F33 := fun_mk (st := st_p_ring_to) l33 c33 k33
  have b33 := F33.binds (ps := ["last", "firing"]) fun _ _ _ _ _ _ us hl => match us, hl with | [_, _], _ => rfl
  have F34 := fun_mk (st := st_p_closed_ring) l34 c34 k34
  have b34 := F34.binds (ps := ["last"]) fun _ _ _ _ _ _ us hl => match us, hl with | [_], _ => rfl
  have F35 := fun_mk (st := st_p_slower_ring) l35 c35 k35
  have b35 := F35.binds (ps := ["steps", "times", "mean"]) fun _ _ _ _ _ _ us hl => match us, hl with | [_, _, _], _ => rfl
  have F36 := fun_mk (st := st_p_slowest_ring) l36 c36 k36
  have b36 := F36.binds (ps := ["steps", "times"]) fun _ _ _ _ _ _ us hl => match us, hl with | [_, _], _ => rfl
  have F37 := fun_mk (st := st_p_knot_rings) l37 c37 k37
  have b37 := F37.binds (ps := ["flow", "times"]) fun _ _ _ _ _ _ us hl => match us, hl with | [_, _], _ => rfl
  have F38 := fun_mk (st := st_p_box_means) l38 c38 k38
  have b38 := F38.binds (ps := ["flow", "times"]) fun _ _ _ _ _ _ us hl => match us, hl with | [_, _], _ => rfl
  have F39 := fun_mk (st := st_p_firings) l39 c39 k39
  have b39 := F39.binds (ps := ["flow"]) fun _ _ _ _ _ _ us hl => match us, hl with | [_], _ => rfl
  have F40 := fun_mk (st := st_p_check_rounds) l40 c40 k40
  have b40 := F40.binds (ps := ["many"]) fun _ _ _ _ _ _ us hl => match us, hl with | [_], _ => rfl
  have F41 := fun_mk (st := st_p_held_behind) l41 c41 k41
  have b41 := F41.binds (ps := ["pipes", "held", "box"]) fun _ _ _ _ _ _ us hl => match us, hl with | [_, _, _], _ => rfl
  have F42 := fun_mk (st := st_p_short_pipes) l42 c42 k42
  have b42 := F42.binds (ps := ["pipes", "held", "box"]) fun _ _ _ _ _ _ us hl => match us, hl with | [_, _, _], _ => rfl
  have F43 := fun_mk (st := st_p_least_word) l43 c43 k43
  have b43 := F43.binds (ps := ["pipes", "counts"]) fun _ _ _ _ _ _ us hl => match us, hl with | [_, _], _ => rfl
  have F44 := fun_mk (st := st_p_starts) l44 c44 k44
  have b44 := F44.binds (ps := ["pipes", "counts", "times", "many"]) fun _ _ _ _ _ _ us hl => match us, hl with | [_, _, _, _], _ => rfl
  have F45 := fun_mk (st := st_p_start_times) l45 c45 k45
  have b45 := F45.binds (ps := ["flow", "times", "many"]) fun _ _ _ _ _ _ us hl => match us, hl with | [_, _, _], _ => rfl
  have F46 := fun_mk (st := st_p_first_time) l46 c46 k46
  have b46 := F46.binds (ps := ["flow", "times"]) fun _ _ _ _ _ _ us hl => match us, hl with | [_, _], _ => rfl
  have F47 := fun_mk (st := st_p_slow_ring) l47 c47 k47
  have b47 := F47.binds (ps := ["flow", "times"]) fun _ _ _ _ _ _ us hl => match us, hl with | [_, _], _ => rfl
  have F48 := fun_mk (st := st_p_mean_time) l48 c48 k48
  have b48 := F48.binds (ps := ["flow", "times"]) fun _ _ _ _ _ _ us hl => match us, hl with | [_, _], _ => rfl
  have F49 := fun_mk (st := st_p_even_gap) l49 c49 k49
  have b49 := F49.binds (ps := ["row", "other"]) fun _ _ _ _ _ _ us hl => match us, hl with | [_, _], _ => rfl
  have F50 := fun_mk (st := st_p_round_rows) l50 c50 k50
  have b50 := F50.binds (ps := ["flow", "counts", "times"]) fun _ _ _ _ _ _ us hl => match us, hl with | [_, _, _], _ => rfl
  have F51 := fun_mk (st := st_p_settled) l51 c51 k51
  have b51 := F51.binds (ps := ["flow", "times"]) fun _ _ _ _ _ _ us hl => match us, hl with | [_, _], _ => rfl
  have F52 := fun_mk (st := st_p_is_like_step) l52 c52 k52
  have b52 := F52.binds (ps := ["value"]) fun _ _ _ _ _ _ us hl => match us, hl with | [_], _ => rfl
  have F53 := fun_mk (st := st_p_is_ring) l53 c53 k53
  have b53 := F53.binds (ps := ["steps", "value"]) fun _ _ _ _ _ _ us hl => match us, hl with | [_, _], _ => rfl
  have F54 := fun_mk (st := st_p_shows_slow_ring) l54 c54 k54
  have b54 := F54.binds (ps := ["flow", "times", "value"]) fun _ _ _ _ _ _ us hl => match us, hl with | [_, _, _], _ => rfl
  have F55 := fun_mk (st := st_p_law) l55 c55 k55
  have b55 := F55.binds (ps := ["script"]) fun _ _ _ _ _ _ us hl => match us, hl with | [_], _ => rfl
  refine ⟨PySem.W.fnOf "law" "law" (defArgs st_p_law) (defBody st_p_law) (defScope st_p_law) .none kV55 dc55 pm55 an55 cd55 ct55, fun s v => .of_eq rfl, fun base _ _ => ?_⟩
  have H0 := ok_p_law_alike (P := l.prog) (wd := w) (base := base) F0 (PySem.W.mg_of X G a0) b0 T 
  have H1 := ok_p_is_greater (P := l.prog) (wd := w) (base := base) F1 (PySem.W.mg_of X G a1) b1 T 
  have H2 := ok_p_last_needed (P := l.prog) (wd := w) (base := base) F2 (PySem.W.mg_of X G a2) b2 T 
  have H3 := ok_p_firings_in_a_row (P := l.prog) (wd := w) (base := base) F3 (PySem.W.mg_of X G a3) b3 T 
  have H4 := ok_p_pipes_at (P := l.prog) (wd := w) (base := base) F4 (PySem.W.mg_of X G a4) b4 T 
  have H5 := ok_p_most_counts (P := l.prog) (wd := w) (base := base) F5 (PySem.W.mg_of X G a5) b5 T H3 H4
  have H6 := ok_p_is_whole (P := l.prog) (wd := w) (base := base) F6 (PySem.W.mg_of X G a6) b6 T 
  have H7 := ok_p_is_number (P := l.prog) (wd := w) (base := base) F7 (PySem.W.mg_of X G a7) b7 T H6
  have H8 := ok_p_is_box (P := l.prog) (wd := w) (base := base) F8 (PySem.W.mg_of X G a8) b8 T H7
  have H9 := ok_p_is_row (P := l.prog) (wd := w) (base := base) F9 (PySem.W.mg_of X G a9) b9 T 
  have H10 := ok_p_is_pipe (P := l.prog) (wd := w) (base := base) F10 (PySem.W.mg_of X G a10) b10 T H8 H7 H9
  have H11 := ok_p_check_flow (P := l.prog) (wd := w) (base := base) F11 (PySem.W.mg_of X G a11) b11 T H7 H10 H9
  have H12 := ok_p_rate_along (P := l.prog) (wd := w) (base := base) F12 (PySem.W.mg_of X G a12) b12 T 
  have H13 := ok_p_ring_through (P := l.prog) (wd := w) (base := base) F13 (PySem.W.mg_of X G a13) b13 T 
  have H14 := ok_p_reached (P := l.prog) (wd := w) (base := base) F14 (PySem.W.mg_of X G a14) b14 T 
  have H15 := ok_p_grouped (P := l.prog) (wd := w) (base := base) F15 (PySem.W.mg_of X G a15) b15 T H14
  have H16 := ok_p_pipe_links (P := l.prog) (wd := w) (base := base) F16 (PySem.W.mg_of X G a16) b16 T 
  have H17 := ok_p_parts (P := l.prog) (wd := w) (base := base) F17 (PySem.W.mg_of X G a17) b17 T H11 H15 H16
  have H18 := ok_p_step_boxes (P := l.prog) (wd := w) (base := base) F18 (PySem.W.mg_of X G a18) b18 T 
  have H19 := ok_p_steps_from (P := l.prog) (wd := w) (base := base) F19 (PySem.W.mg_of X G a19) b19 T 
  have H20 := ok_p_spreading_steps (P := l.prog) (wd := w) (base := base) F20 (PySem.W.mg_of X G a20) b20 T H18 H19
  have H21 := ok_p_trails (P := l.prog) (wd := w) (base := base) F21 (PySem.W.mg_of X G a21) b21 T H17 H20 H18
  have H22 := ok_p_tilt (P := l.prog) (wd := w) (base := base) F22 (PySem.W.mg_of X G a22) b22 T H11 H12 H13 H21
  have H23 := ok_p_check_balanced (P := l.prog) (wd := w) (base := base) F23 (PySem.W.mg_of X G a23) b23 T H22
  have H24 := ok_p_repetitions (P := l.prog) (wd := w) (base := base) F24 (PySem.W.mg_of X G a24) b24 T H23 H17 H12 H21
  have H25 := ok_p_round_counts (P := l.prog) (wd := w) (base := base) F25 (PySem.W.mg_of X G a25) b25 T H24
  have H26 := ok_p_live_counts (P := l.prog) (wd := w) (base := base) F26 (PySem.W.mg_of X G a26) b26 T H5 H25
  have H27 := ok_p_unrolled_counts (P := l.prog) (wd := w) (base := base) F27 (PySem.W.mg_of X G a27) b27 T H26
  have H28 := ok_p_needs (P := l.prog) (wd := w) (base := base) F28 (PySem.W.mg_of X G a28) b28 T H2 H27
  have H29 := ok_p_all_steps (P := l.prog) (wd := w) (base := base) F29 (PySem.W.mg_of X G a29) b29 T H28
  have H30 := ok_p_check_times (P := l.prog) (wd := w) (base := base) F30 (PySem.W.mg_of X G a30) b30 T H7 H9
  have H31 := ok_p_knots (P := l.prog) (wd := w) (base := base) F31 (PySem.W.mg_of X G a31) b31 T H11 H15 H16
  have H32 := ok_p_ring_mean (P := l.prog) (wd := w) (base := base) F32 (PySem.W.mg_of X G a32) b32 T 
  have H33 := ok_p_ring_to (P := l.prog) (wd := w) (base := base) F33 (PySem.W.mg_of X G a33) b33 T 
  have H34 := ok_p_closed_ring (P := l.prog) (wd := w) (base := base) F34 (PySem.W.mg_of X G a34) b34 T H33
  have H35 := ok_p_slower_ring (P := l.prog) (wd := w) (base := base) F35 (PySem.W.mg_of X G a35) b35 T H34
  have H36 := ok_p_slowest_ring (P := l.prog) (wd := w) (base := base) F36 (PySem.W.mg_of X G a36) b36 T H32 H35
  have H37 := ok_p_knot_rings (P := l.prog) (wd := w) (base := base) F37 (PySem.W.mg_of X G a37) b37 T H29 H30 H31 H36 H27
  have H38 := ok_p_box_means (P := l.prog) (wd := w) (base := base) F38 (PySem.W.mg_of X G a38) b38 T H1 H37 H16 H14 H32
  have H39 := ok_p_firings (P := l.prog) (wd := w) (base := base) F39 (PySem.W.mg_of X G a39) b39 T H27
  have H40 := ok_p_check_rounds (P := l.prog) (wd := w) (base := base) F40 (PySem.W.mg_of X G a40) b40 T H7
  have H41 := ok_p_held_behind (P := l.prog) (wd := w) (base := base) F41 (PySem.W.mg_of X G a41) b41 T 
  have H42 := ok_p_short_pipes (P := l.prog) (wd := w) (base := base) F42 (PySem.W.mg_of X G a42) b42 T 
  have H43 := ok_p_least_word (P := l.prog) (wd := w) (base := base) F43 (PySem.W.mg_of X G a43) b43 T H41 H5 H42
  have H44 := ok_p_starts (P := l.prog) (wd := w) (base := base) F44 (PySem.W.mg_of X G a44) b44 T H2 H43 H4
  have H45 := ok_p_start_times (P := l.prog) (wd := w) (base := base) F45 (PySem.W.mg_of X G a45) b45 T H40 H30 H44 H27
  have H46 := ok_p_first_time (P := l.prog) (wd := w) (base := base) F46 (PySem.W.mg_of X G a46) b46 T H45
  have H47 := ok_p_slow_ring (P := l.prog) (wd := w) (base := base) F47 (PySem.W.mg_of X G a47) b47 T H1 H37 H32
  have H48 := ok_p_mean_time (P := l.prog) (wd := w) (base := base) F48 (PySem.W.mg_of X G a48) b48 T H32 H47
  have H49 := ok_p_even_gap (P := l.prog) (wd := w) (base := base) F49 (PySem.W.mg_of X G a49) b49 T 
  have H50 := ok_p_round_rows (P := l.prog) (wd := w) (base := base) F50 (PySem.W.mg_of X G a50) b50 T H44
  have H51 := ok_p_settled (P := l.prog) (wd := w) (base := base) F51 (PySem.W.mg_of X G a51) b51 T H29 H30 H49 H50 H27
  have H52 := ok_p_is_like_step (P := l.prog) (wd := w) (base := base) F52 (PySem.W.mg_of X G a52) b52 T H9 H6
  have H53 := ok_p_is_ring (P := l.prog) (wd := w) (base := base) F53 (PySem.W.mg_of X G a53) b53 T H52
  have H54 := ok_p_shows_slow_ring (P := l.prog) (wd := w) (base := base) F54 (PySem.W.mg_of X G a54) b54 T H29 H53 H48 H32 H27
  exact (ok_p_law (P := l.prog) (wd := w) (base := base) F55 T H0 H38 H39 H46 H48 H28 H51 H54 H47 H45).imp (law_sp (g := ⟨K, mg⟩) ok)
theorem no_exc {P : Program} {w : World} {H : Hp} {s : Shared} {e : Value} {s' : Shared} (h : L2.CX P w [] H s (fun _ _ _ => False) e s') : False := by
  obtain ⟨_, _, _, _, _, _, _, _, _, _, _, _, z⟩ := h
  exact z
end K51
set_option linter.all false
set_option maxRecDepth 100000
/-! Reckoning: each rule fires only when what stands ahead is a value. -/
namespace J
open PySem (Str)
variable {E : Env} {S : List D} {d x y z : D} {ds xs : List D}
@[simp] theorem bind_exc {α β : Type} (c : Str) (fs : List (Str × D)) (S : List D) (k : α → List D → R β) : (R.exc c fs S).bind k = .exc c fs S := id rfl
@[simp] theorem bind_bad {α β : Type} (k : α → List D → R β) : (R.bad : R α).bind k = .bad := id rfl
/-! variables -/
@[simp] theorem ev_var0 : eVar 0 (some d :: E) S = .ok d S := id rfl
@[simp] theorem ev_varS (i : Nat) (o : Option D) : eVar (i + 1) (o :: E) S = eVar i E S := id rfl
@[simp] theorem ev_c : eC d E S = .ok d S := id rfl
/-! expressions -/
def kOp1 (f : D → D → List D → R D) (b : ME) (E : Env) (x : D) (S : List D) : R D := (b E S).bind (fun y S2 => f x y S2)
def kOp2 (f : D → D → List D → R D) (x : D) (y : D) (S : List D) : R D := f x y S
@[simp] theorem ev_op (f : D → D → List D → R D) (a b : ME) : eOp f a b E S = (a E S).bind (kOp1 f b E) := id rfl
@[simp] theorem kop1 (f : D → D → List D → R D) (b : ME) : kOp1 f b E x S = (b E S).bind (kOp2 f x) := id rfl
@[simp] theorem kop2 (f : D → D → List D → R D) : kOp2 f x y S = f x y S := id rfl
@[simp] theorem ev_un (f : D → List D → R D) (a : ME) : eUn f a E S = (a E S).bind f := id rfl
@[simp] theorem ev_nil : aNil E S = .ok [] S := id rfl
def kCons1 (r : MA) (E : Env) (x : D) (S : List D) : R (List D) := (r E S).bind fun xs S2 => .ok (x :: xs) S2
def kCons2 (x : D) (xs : List D) (S : List D) : R (List D) := .ok (x :: xs) S
@[simp] theorem ev_cons (a : ME) (r : MA) : aCons a r E S = (a E S).bind (kCons1 r E) := id rfl
@[simp] theorem kcons1 (r : MA) : kCons1 r E x S = (r E S).bind (kCons2 x) := id rfl
@[simp] theorem kcons2 : kCons2 x xs S = .ok (x :: xs) S := id rfl
@[simp] theorem ev_args (f : List D → List D → R D) (a : MA) : eArgs f a E S = (a E S).bind f := id rfl
def kIf (a b : ME) (E : Env) (c : Bool) (S : List D) : R D := if c = true then a E S else b E S
@[simp] theorem ev_if (t : MT) (a b : ME) : eIf t a b E S = (t E S).bind (kIf a b E) := id rfl
@[simp] theorem kif_t (a b : ME) : kIf a b E true S = a E S := id rfl
@[simp] theorem kif_f (a b : ME) : kIf a b E false S = b E S := id rfl
def kAnd (b : ME) (E : Env) (x : D) (S : List D) : R D := onBl x fun c => if c = true then b E S else .ok (.bl false) S
@[simp] theorem ev_and (a b : ME) : eAnd a b E S = (a E S).bind (kAnd b E) := id rfl
@[simp] theorem kand_t (b : ME) : kAnd b E (.bl true) S = b E S := id rfl
@[simp] theorem kand_f (b : ME) : kAnd b E (.bl false) S = .ok (.bl false) S := id rfl
def kOr (b : ME) (E : Env) (x : D) (S : List D) : R D := onBl x fun c => if c = true then .ok (.bl true) S else b E S
@[simp] theorem ev_or (a b : ME) : eOr a b E S = (a E S).bind (kOr b E) := id rfl
@[simp] theorem kor_t (b : ME) : kOr b E (.bl true) S = .ok (.bl true) S := id rfl
@[simp] theorem kor_f (b : ME) : kOr b E (.bl false) S = b E S := id rfl
def kNot (x : D) (S : List D) : R D := onBl x fun c => .ok (.bl (!c)) S
@[simp] theorem ev_not (a : ME) : eNot a E S = (a E S).bind kNot := id rfl
@[simp] theorem knot_b (c : Bool) : kNot (.bl c) S = .ok (.bl (!c)) S := id rfl
def kCh1 (f h : D → D → List D → R D) (b c : ME) (E : Env) (x : D) (S : List D) : R D := (b E S).bind fun y S2 => (f x y S2).bind fun t S3 => onBl t fun k => if k = true then (c E S3).bind fun z S4 => h y z S4 else .ok (.bl false) S3
def kCh2 (f h : D → D → List D → R D) (c : ME) (E : Env) (x y : D) (S : List D) : R D := (f x y S).bind fun t S3 => onBl t fun k => if k = true then (c E S3).bind fun z S4 => h y z S4 else .ok (.bl false) S3
def kCh3 (h : D → D → List D → R D) (c : ME) (E : Env) (y t : D) (S : List D) : R D := onBl t fun k => if k = true then (c E S).bind fun z S4 => h y z S4 else .ok (.bl false) S
@[simp] theorem ev_chain (f h : D → D → List D → R D) (a b c : ME) : eChain f h a b c E S = (a E S).bind (kCh1 f h b c E) := id rfl
@[simp] theorem kch1 (f h : D → D → List D → R D) (b c : ME) : kCh1 f h b c E x S = (b E S).bind (kCh2 f h c E x) := id rfl
@[simp] theorem kch2 (f h : D → D → List D → R D) (c : ME) : kCh2 f h c E x y S = (f x y S).bind (kCh3 h c E y) := id rfl
@[simp] theorem kch3_t (h : D → D → List D → R D) (c : ME) : kCh3 h c E y (.bl true) S = (c E S).bind (kOp2 h y) := id rfl
@[simp] theorem kch3_f (h : D → D → List D → R D) (c : ME) : kCh3 h c E y (.bl false) S = .ok (.bl false) S := id rfl
/-! tests -/
def kTV (x : D) (S : List D) : R Bool := onBl x fun c => .ok c S
@[simp] theorem ev_tv (a : ME) : tV a E S = (a E S).bind kTV := id rfl
@[simp] theorem ktv (c : Bool) : kTV (.bl c) S = .ok c S := id rfl
def kTT (x : D) (S : List D) : R Bool := match truth S x with
  | some c => .ok c S
  | none => .bad
@[simp] theorem ev_tr (a : ME) : tTr a E S = (a E S).bind kTT := id rfl
@[simp] theorem ktt_bl (c : Bool) : kTT (.bl c) S = .ok c S := id rfl
@[simp] theorem ktt_int (i : Int) : kTT (.int i) S = .ok (!decide (i = 0)) S := id rfl
@[simp] theorem ktt_tup : kTT (.tup ds) S = .ok (!ds.isEmpty) S := id rfl
@[simp] theorem ktt_lst : kTT (.lst ds) S = .ok (!ds.isEmpty) S := id rfl
@[simp] theorem ktt_non : kTT .non S = .ok false S := id rfl
def kTAnd (b : MT) (E : Env) (c : Bool) (S : List D) : R Bool := if c = true then b E S else .ok false S
@[simp] theorem ev_tand (a b : MT) : tAnd a b E S = (a E S).bind (kTAnd b E) := id rfl
@[simp] theorem ktand_t (b : MT) : kTAnd b E true S = b E S := id rfl
@[simp] theorem ktand_f (b : MT) : kTAnd b E false S = .ok false S := id rfl
def kTOr (b : MT) (E : Env) (c : Bool) (S : List D) : R Bool := if c = true then .ok true S else b E S
@[simp] theorem ev_tor (a b : MT) : tOr a b E S = (a E S).bind (kTOr b E) := id rfl
@[simp] theorem ktor_t (b : MT) : kTOr b E true S = .ok true S := id rfl
@[simp] theorem ktor_f (b : MT) : kTOr b E false S = b E S := id rfl
def kTNot (c : Bool) (S : List D) : R Bool := .ok (!c) S
@[simp] theorem ev_tnot (a : MT) : tNot a E S = (a E S).bind kTNot := id rfl
@[simp] theorem ktnot (c : Bool) : kTNot c S = .ok (!c) S := id rfl
@[simp] theorem ev_tyes : tYes E S = .ok true S := id rfl
/-! statements -/
def kSeq (b : MS) : O → O
  | .nx E1 S1 => b E1 S1
  | o => o
@[simp] theorem ev_seq (a b : MS) : sSeq a b E S = kSeq b (a E S) := by
  unfold sSeq kSeq
  cases a E S <;> rfl
@[simp] theorem kseq_nx (b : MS) : kSeq b (.nx E S) = b E S := id rfl
@[simp] theorem kseq_rt (b : MS) : kSeq b (.rt d S) = .rt d S := id rfl
@[simp] theorem kseq_bk (b : MS) : kSeq b (.bk E S) = .bk E S := id rfl
@[simp] theorem kseq_ct (b : MS) : kSeq b (.ct E S) = .ct E S := id rfl
@[simp] theorem kseq_bad (b : MS) : kSeq b .bad = .bad := id rfl
@[simp] theorem kseq_exc (b : MS) (c : Str) (fs : List (Str × D)) : kSeq b (.exc c fs E S) = .exc c fs E S := id rfl
@[simp] theorem ev_next : sNext E S = .nx E S := id rfl
@[simp] theorem ev_break : sBreak E S = .bk E S := id rfl
@[simp] theorem ev_cont : sCont E S = .ct E S := id rfl
@[simp] theorem ev_never : sNever E S = .bad := id rfl
@[simp] theorem ev_retN : sRetN E S = .rt .non S := id rfl
def kExpr (E : Env) (_ : D) (S : List D) : O := .nx E S
@[simp] theorem ev_expr (a : ME) : sExpr a E S = (a E S).toO E (kExpr E) := id rfl
@[simp] theorem kexpr : kExpr E d S = .nx E S := id rfl
def kRet (d : D) (S : List D) : O := .rt d S
@[simp] theorem ev_ret (a : ME) : sRet a E S = (a E S).toO E kRet := id rfl
@[simp] theorem kret : kRet d S = .rt d S := id rfl
def kSIf (a b : MS) (E : Env) (c : Bool) (S : List D) : O := if c = true then a E S else b E S
@[simp] theorem ev_sif (t : MT) (a b : MS) : sIf t a b E S = (t E S).tO E (kSIf a b E) := id rfl
@[simp] theorem ksif_t (a b : MS) : kSIf a b E true S = a E S := id rfl
@[simp] theorem ksif_f (a b : MS) : kSIf a b E false S = b E S := id rfl
def kSet (i : Nat) (E : Env) (d : D) (S : List D) : O := .nx (E.set i (some d)) S
@[simp] theorem ev_set (i : Nat) (a : ME) : sSet i a E S = (a E S).toO E (kSet i E) := id rfl
@[simp] theorem kset (i : Nat) : kSet i E d S = .nx (E.set i (some d)) S := id rfl
def kAug1 (f : D → D → List D → R D) (i : Nat) (x : D) (E : Env) (y : D) (S : List D) : O := (f x y S).toO E (kSet i E)
def kAug0 (f : D → D → List D → R D) (i : Nat) (a : ME) (E : Env) (x : D) (S : List D) : O := (a E S).toO E (kAug1 f i x E)
@[simp] theorem ev_aug (i : Nat) (f : D → D → List D → R D) (a : ME) : sAug i f a E S = (eVar i E S).toO E (kAug0 f i a E) := by
  unfold sAug eVar
  split <;> rfl
@[simp] theorem kaug0 (f : D → D → List D → R D) (i : Nat) (a : ME) : kAug0 f i a E x S = (a E S).toO E (kAug1 f i x E) := id rfl
@[simp] theorem kaug1 (f : D → D → List D → R D) (i : Nat) : kAug1 f i x E y S = (f x y S).toO E (kSet i E) := id rfl
def kAsg (t : Tg) (E : Env) (d : D) (S : List D) : O := match t.bind d E with
  | some E1 => .nx E1 S
  | none => .bad
@[simp] theorem ev_asg (t : Tg) (a : ME) : sAsg t a E S = (a E S).toO E (kAsg t E) := id rfl
def kA (o : Option Env) (S : List D) : O := match o with
  | some E1 => .nx E1 S
  | none => .bad
@[simp] theorem kA_s : kA (some E) S = .nx E S := id rfl
@[simp] theorem kasg' (t : Tg) : kAsg t E d S = kA (t.bind d E) S := by
  unfold kAsg kA
  cases t.bind d E <;> rfl
def kPar (is_ : List Nat) (E : Env) : R (List D) → O
  | .ok ds S1 => match Tg.binds (is_.map .nm) ds E with
    | some E1 => .nx E1 S1
    | none => .bad
  | .exc c fs S1 => .exc c fs E S1
  | .bad => .bad
@[simp] theorem ev_par (is_ : List Nat) (a : MA) : sPar is_ a E S = kPar is_ E (a E S) := by
  unfold sPar kPar
  cases a E S <;> rfl
@[simp] theorem kpar2 (i j : Nat) (a b : D) : kPar [i, j] E (.ok [a, b] S) = .nx ((E.set i (some a)).set j (some b)) S := id rfl
@[simp] theorem kpar3 (i j k : Nat) (a b c : D) : kPar [i, j, k] E (.ok [a, b, c] S) = .nx (((E.set i (some a)).set j (some b)).set k (some c)) S := id rfl
@[simp] theorem bind_nm (i : Nat) : (Tg.nm i).bind d E = some (E.set i (some d)) := id rfl
@[simp] theorem bind_tp (ts : List Tg) : (Tg.tp ts).bind (.tup ds) E = Tg.binds ts ds E := id rfl
@[simp] theorem binds_nil : Tg.binds [] [] E = some E := id rfl
@[simp] theorem binds_cons (i : Nat) (ts : List Tg) : Tg.binds (.nm i :: ts) (d :: ds) E = Tg.binds ts ds (E.set i (some d)) := id rfl
@[simp] theorem binds_tp (us ts : List Tg) : Tg.binds (.tp us :: ts) (.tup xs :: ds) E = (Tg.binds us xs E).bind fun E1 => Tg.binds ts ds E1 := by
  simp only [Tg.binds, Tg.bind]
  cases Tg.binds us xs E <;> rfl
/-! o[i] = e -/
def kPut2 (x v : D) (E : Env) (k : D) (S : List D) : O := match putAt x k v S with
  | some S4 => .nx E S4
  | none => .bad
def kPut1 (i : ME) (v : D) (E : Env) (x : D) (S : List D) : O := (i E S).toO E (kPut2 x v E)
def kPut0 (o i : ME) (E : Env) (v : D) (S : List D) : O := (o E S).toO E (kPut1 i v E)
@[simp] theorem ev_put (o i e : ME) : sPut o i e E S = (e E S).toO E (kPut0 o i E) := id rfl
@[simp] theorem kput0 (o i : ME) : kPut0 o i E d S = (o E S).toO E (kPut1 i d E) := id rfl
@[simp] theorem kput1 (i : ME) (v : D) : kPut1 i v E x S = (i E S).toO E (kPut2 x v E) := id rfl
def kPA4 (x k : D) (E : Env) (v : D) (S : List D) : O := kPut2 x v E k S
def kPA3 (f : D → D → List D → R D) (x k y : D) (E : Env) (z : D) (S : List D) : O := (f y z S).toO E (kPA4 x k E)
def kPA2 (f : D → D → List D → R D) (e : ME) (x k : D) (E : Env) (y : D) (S : List D) : O := (e E S).toO E (kPA3 f x k y E)
def kPA1 (f : D → D → List D → R D) (e : ME) (x : D) (E : Env) (k : D) (S : List D) : O := (oIx x k S).toO E (kPA2 f e x k E)
def kPA0 (f : D → D → List D → R D) (i e : ME) (E : Env) (x : D) (S : List D) : O := (i E S).toO E (kPA1 f e x E)
@[simp] theorem ev_putAug (f : D → D → List D → R D) (o i e : ME) : sPutAug f o i e E S = (o E S).toO E (kPA0 f i e E) := id rfl
@[simp] theorem kpa0 (f : D → D → List D → R D) (i e : ME) : kPA0 f i e E x S = (i E S).toO E (kPA1 f e x E) := id rfl
@[simp] theorem kpa1 (f : D → D → List D → R D) (e : ME) : kPA1 f e x E y S = (oIx x y S).toO E (kPA2 f e x y E) := id rfl
@[simp] theorem kpa2 (f : D → D → List D → R D) (e : ME) : kPA2 f e x y E z S = (e E S).toO E (kPA3 f x y z E) := id rfl
@[simp] theorem kpa3 (f : D → D → List D → R D) (k v : D) : kPA3 f x y k E v S = (f k v S).toO E (kPA4 x y E) := id rfl
@[simp] theorem kpa4 (v : D) : kPA4 x y E v S = kPut2 x v E y S := id rfl
/-! operators by values -/
@[simp] theorem o_add (i j : Int) : oAdd (.int i) (.int j) S = .ok (.int (i + j)) S := id rfl
@[simp] theorem i_add (i j : Int) : iAdd (.int i) (.int j) S = .ok (.int (i + j)) S := id rfl
@[simp] theorem o_sub (i j : Int) : oSub (.int i) (.int j) S = .ok (.int (i - j)) S := id rfl
@[simp] theorem o_lt (i j : Int) : oLt (.int i) (.int j) S = .ok (.bl (decide (i < j))) S := id rfl
@[simp] theorem o_le (i j : Int) : oLe (.int i) (.int j) S = .ok (.bl (decide (i ≤ j))) S := id rfl
@[simp] theorem o_gt (i j : Int) : oGt (.int i) (.int j) S = .ok (.bl (decide (j < i))) S := id rfl
@[simp] theorem o_ge (i j : Int) : oGe (.int i) (.int j) S = .ok (.bl (decide (j ≤ i))) S := id rfl
@[simp] theorem o_neg (i : Int) : oNeg (.int i) S = .ok (.int (-i)) S := id rfl
@[simp] theorem o_isN : oIsN x S = .ok (.bl x.isNon) S := id rfl
@[simp] theorem o_notN : oNotN x S = .ok (.bl (!x.isNon)) S := id rfl
@[simp] theorem o_eqI (i j : Int) : oEq (.int i) (.int j) S = .ok (.bl (decide (i = j))) S := id rfl
@[simp] theorem o_neI (i j : Int) : oNe (.int i) (.int j) S = .ok (.bl (!decide (i = j))) S := id rfl
/-! subscripts -/
theorem atOf_nat {xs : List D} {i : Nat} {d : D} (h : xs[i]? = some d) : atOf xs (i : Int) = some d := by
  have hl := (List.getElem?_eq_some_iff.mp h).1
  have : ixOf xs.length (i : Int) = some i := by
    unfold ixOf
    rw [if_pos (by omega), if_pos (by omega)]
    simp
  simp [atOf, this, h]
@[simp] theorem atOf_nat' (xs : List D) (i : Nat) : atOf xs (i : Int) = xs[i]? := by
  cases h : xs[i]? with
  | some d => exact atOf_nat h
  | none =>
    have hl := List.getElem?_eq_none_iff.mp h
    have h2 : ixOf xs.length (i : Int) = none := by
      unfold ixOf
      rw [if_pos (by omega), if_neg (by omega)]
    unfold atOf
    rw [h2]
    rfl
@[simp] theorem at0 : atOf xs 0 = xs[0]? := atOf_nat' xs 0
@[simp] theorem at1 : atOf xs 1 = xs[1]? := atOf_nat' xs 1
@[simp] theorem at2 : atOf xs 2 = xs[2]? := atOf_nat' xs 2
@[simp] theorem at3 : atOf xs 3 = xs[3]? := atOf_nat' xs 3
@[simp] theorem at4 : atOf xs 4 = xs[4]? := atOf_nat' xs 4
@[simp] theorem at_last : atOf xs (-1) = xs.getLast? := by
  cases xs with
  | nil => rfl
  | cons d ds =>
    rw [List.getLast?_eq_getElem?]
    have : ixOf (d :: ds).length (-1) = some ((d :: ds).length - 1) := by
      unfold ixOf
      rw [if_neg (by omega), if_pos (by simp; omega)]
      congr 1
      simp
      omega
    unfold atOf
    rw [this]
    rfl
def okO (o : Option D) (S : List D) : R D := match o with
  | some d => .ok d S
  | none => .bad
@[simp] theorem okO_s : okO (some d) S = .ok d S := id rfl
def ixL (o : Option D) (k : Int) (S : List D) : R D := match o with
  | some (.lst xs) => okO (atOf xs k) S
  | some (.dct ks ds) => okO (getK ks ds (.inl k)) S
  | _ => .bad
@[simp] theorem ixL_l (k : Int) : ixL (some (.lst xs)) k S = okO (atOf xs k) S := id rfl
@[simp] theorem ixL_d (ks : List Ky) (k : Int) : ixL (some (.dct ks ds)) k S = okO (getK ks ds (.inl k)) S := id rfl
@[simp] theorem o_ixT (k : Int) : oIx (.tup xs) (.int k) S = okO (atOf xs k) S := by
  unfold oIx okO
  simp only [seqOf]
  all_goals (cases atOf xs k <;> rfl)
@[simp] theorem o_ixLs (k : Int) : oIx (.lst xs) (.int k) S = okO (atOf xs k) S := by
  unfold oIx okO
  simp only [seqOf]
  all_goals (cases atOf xs k <;> rfl)
@[simp] theorem o_ixR (k : Int) : oIx (.rdl xs) (.int k) S = okO (atOf xs k) S := by
  unfold oIx okO
  simp only [seqOf]
  all_goals (cases atOf xs k <;> rfl)
@[simp] theorem o_ixO (n : Nat) (k : Int) : oIx (.loc n) (.int k) S = ixL S[n]? k S := by
  unfold oIx ixL okO
  cases h : S[n]? with
  | none => simp only [seqOf, dctOf, h]
  | some v =>
    cases v with
    | lst xs =>
      simp only [seqOf, h]
      all_goals (cases atOf xs k <;> rfl)
    | dct ks ds =>
      simp only [seqOf, dctOf, keyOf, h]
      all_goals (cases getK ks ds (.inl k) <;> rfl)
    | _ => simp only [seqOf, dctOf, h]
/-! built-ins -/
@[simp] theorem b_int (i : Int) : bInt [.int i] S = .ok (.int i) S := id rfl
@[simp] theorem b_abs (i : Int) : bAbs [.int i] S = .ok (.int (if i < 0 then -i else i)) S := id rfl
@[simp] theorem b_tup2 (a b : D) : bTup [a, b] S = .ok (.tup [a, b]) S := id rfl
@[simp] theorem b_tup1 (a : D) : bTup [a] S = .ok (.tup [a]) S := id rfl
@[simp] theorem b_tup0 : bTup [] S = .ok (.tup []) S := id rfl
@[simp] theorem b_tup5 (a b c d e : D) : bTup [a, b, c, d, e] S = .ok (.tup [a, b, c, d, e]) S := id rfl
@[simp] theorem b_lst0 : bLst [] S = .ok (.lst []) S := id rfl
@[simp] theorem b_lst1 (a : D) : bLst [a] S = .ok (.lst [a]) S := id rfl
@[simp] theorem b_lst2 (a b : D) : bLst [a, b] S = .ok (.lst [a, b]) S := id rfl
@[simp] theorem b_lst3 (a b c : D) : bLst [a, b, c] S = .ok (.lst [a, b, c]) S := id rfl
@[simp] theorem b_lstL0 : bLstL [] S = .ok (.loc S.length) (S ++ [.lst []]) := id rfl
@[simp] theorem b_lstL1 (a : D) : bLstL [a] S = .ok (.loc S.length) (S ++ [.lst [a]]) := id rfl
@[simp] theorem b_lstL2 (a b : D) : bLstL [a, b] S = .ok (.loc S.length) (S ++ [.lst [a, b]]) := id rfl
@[simp] theorem b_lstL3 (a b c : D) : bLstL [a, b, c] S = .ok (.loc S.length) (S ++ [.lst [a, b, c]]) := id rfl
@[simp] theorem b_lstL4 (a b c d : D) : bLstL [a, b, c, d] S = .ok (.loc S.length) (S ++ [.lst [a, b, c, d]]) := id rfl
@[simp] theorem b_lenT : bLen [.tup xs] S = .ok (.int xs.length) S := id rfl
@[simp] theorem b_lenL : bLen [.lst xs] S = .ok (.int xs.length) S := id rfl
@[simp] theorem b_lenR : bLen [.rdl xs] S = .ok (.int xs.length) S := id rfl
@[simp] theorem b_lenO (n : Nat) (h : S[n]? = some (.lst xs)) : bLen [.loc n] S = .ok (.int xs.length) S := by simp [bLen, seqOf, h]
@[simp] theorem b_tupleT : bTuple [.tup xs] S = .ok (.tup xs) S := id rfl
@[simp] theorem b_tupleL : bTuple [.lst xs] S = .ok (.tup xs) S := id rfl
def tupL (o : Option D) (S : List D) : R D := match o with
  | some (.lst xs) => .ok (.tup xs) S
  | _ => .bad
@[simp] theorem tupL_l : tupL (some (.lst xs)) S = .ok (.tup xs) S := id rfl
@[simp] theorem b_tupleO (n : Nat) : bTuple [.loc n] S = tupL S[n]? S := by
  unfold bTuple tupL
  cases h : S[n]? with
  | none => simp only [seqOf, h]
  | some v => cases v <;> simp only [seqOf, h]
@[simp] theorem b_listL : bListL [.tup xs] S = .ok (.loc S.length) (S ++ [.lst xs]) := id rfl
@[simp] theorem b_listL2 : bListL [.lst xs] S = .ok (.loc S.length) (S ++ [.lst xs]) := id rfl
def apL (o : Option D) (n : Nat) (y : D) (S : List D) : R D := match o with
  | some (.lst xs) => if xs.length < SL then .ok .non (S.set n (.lst (xs ++ [y]))) else .bad
  | _ => .bad
@[simp] theorem m_app (n : Nat) : mAppend (.loc n) [y] S = apL S[n]? n y S := by
  unfold apL
  cases h : S[n]? with
  | none => simp only [mAppend, h]
  | some v => cases v <;> simp only [mAppend, h]
@[simp] theorem apL_l (n : Nat) (hl : xs.length < SL) : apL (some (.lst xs)) n y S = .ok .non (S.set n (.lst (xs ++ [y]))) := by simp [apL, hl]
def kM1 (f : D → List D → List D → R D) (a : MA) (E : Env) (x : D) (S : List D) : R D := if (lstOf S x).isSome = true then (a E S).bind fun xs S2 => f x xs S2 else .bad
def kM2 (f : D → List D → List D → R D) (x : D) (xs : List D) (S : List D) : R D := f x xs S
@[simp] theorem ev_meth (f : D → List D → List D → R D) (o : ME) (a : MA) : eMeth f o a E S = (o E S).bind (kM1 f a E) := id rfl
def isL (o : Option D) : Bool := match o with
  | some (.lst _) => true
  | _ => false
@[simp] theorem isL_l : isL (some (.lst xs)) = true := id rfl
@[simp] theorem km1o {f : D → List D → List D → R D} {a : MA} {n : Nat} (h : isL S[n]? = true) : kM1 f a E (.loc n) S = (a E S).bind (fun xs S2 => f (.loc n) xs S2) := by
  unfold kM1
  rw [if_pos]
  cases h2 : S[n]? with
  | none => rw [h2] at h; cases h
  | some v => cases v <;> first | (rw [h2] at h; cases h; done) | simp only [lstOf, h2, Option.isSome]
@[simp] theorem km2 (f : D → List D → List D → R D) : kM2 f x xs S = f x xs S := id rfl
/-! slices -/
def kSl3 (x : D) (l h : Option Int) (S : List D) : R D := oSl x l h S
def kSl2 (hi : Option ME) (E : Env) (x : D) (l : Option Int) (S : List D) : R D := (ePart hi E S).bind fun h S3 => oSl x l h S3
def kSl1 (lo hi : Option ME) (E : Env) (x : D) (S : List D) : R D := (ePart lo E S).bind fun l S2 => (ePart hi E S2).bind fun h S3 => oSl x l h S3
@[simp] theorem ev_sl (a : ME) (lo hi : Option ME) : eSl a lo hi E S = (a E S).bind (kSl1 lo hi E) := id rfl
@[simp] theorem ksl1 (lo hi : Option ME) : kSl1 lo hi E x S = (ePart lo E S).bind (kSl2 hi E x) := id rfl
@[simp] theorem ksl2 (hi : Option ME) (l : Option Int) : kSl2 hi E x l S = (ePart hi E S).bind (kSl3 x l) := id rfl
@[simp] theorem ksl3 (l h : Option Int) : kSl3 x l h S = oSl x l h S := id rfl
@[simp] theorem part_none : ePart none E S = .ok none S := id rfl
def kPart (x : D) (S : List D) : R (Option Int) := match x with
  | .int i => .ok (some i) S
  | _ => .bad
@[simp] theorem part_some (m : ME) : ePart (some m) E S = (m E S).bind kPart := id rfl
@[simp] theorem kpart (i : Int) : kPart (.int i) S = .ok (some i) S := id rfl
@[simp] theorem o_slT (l h : Option Int) : oSl (.tup xs) l h S = .ok (.tup (cutOf xs l h)) S := id rfl
/-! o[i] = v -/
def putL (o : Option D) (n : Nat) (k : Int) (v : D) (S : List D) : Option (List D) := match o with
  | some (.lst xs) => (ixOf xs.length k).map fun j => S.set n (.lst (xs.set j v))
  | some (.dct ks ds) => if ks.length < SL then some (S.set n (putAt.putK ks ds (.inl k) v)) else none
  | _ => none
@[simp] theorem put_loc (n : Nat) (k : Int) (v : D) : putAt (.loc n) (.int k) v S = putL S[n]? n k v S := by
  unfold putAt putL keyOf
  simp only
  cases h : S[n]? with
  | none => rfl
  | some w =>
    cases w with
    | lst xs =>
      simp only
      cases ixOf xs.length k <;> rfl
    | _ => rfl
@[simp] theorem putL_l (n : Nat) (k : Int) (v : D) : putL (some (.lst xs)) n k v S = (ixOf xs.length k).map fun j => S.set n (.lst (xs.set j v)) := id rfl
def kP (E : Env) (o : Option (List D)) : O := match o with
  | some S => .nx E S
  | none => .bad
@[simp] theorem kP_s : kP E (some S) = .nx E S := id rfl
@[simp] theorem kput2' {v k : D} : kPut2 x v E k S = kP E (putAt x k v S) := by
  unfold kPut2 kP
  cases putAt x k v S <;> rfl
@[simp] theorem toO_bad (k : D → List D → O) : (R.bad : R D).toO E k = .bad := id rfl
@[simp] theorem tO_bad (k : Bool → List D → O) : (R.bad : R Bool).tO E k = .bad := id rfl
@[simp] theorem wipe_nil : wipeE E [] = E := id rfl
@[simp] theorem wipe_cons (v : Nat) (vs : List Nat) : wipeE E (v :: vs) = (wipeE E vs).set v none := id rfl
/-! defs and calls -/
def kFn (n : Nat) : O → R D
  | .nx _ S1 => retF n .non S1
  | .rt d S1 => retF n d S1
  | .exc c fs _ S1 => excF n c fs S1
  | _ => .bad
theorem fn_ev (np nn : Nat) (b : MS) (h : ds.length = np) : fnF np nn b ds S = kFn S.length (b (ds.map some ++ List.replicate (nn - np) none) S) := by
  unfold fnF
  rw [if_pos h]
  cases b (ds.map some ++ List.replicate (nn - np) none) S <;> rfl
@[simp] theorem kfn_nx (n : Nat) : kFn n (.nx E S) = retF n .non S := id rfl
@[simp] theorem kfn_rt (n : Nat) : kFn n (.rt d S) = retF n d S := id rfl
theorem retF_flat (n : Nat) (h1 : n ≤ S.length) (h2 : (S.take n).all D.flat = true) (h3 : d.flat = true) : retF n d S = .ok d (S.take n) := by
  unfold retF
  rw [if_pos ⟨h1, h2⟩]
  simp [fz, h3]
@[simp] theorem retF_0 (h3 : d.flat = true) : retF 0 d S = .ok d [] := by
  rw [retF_flat 0 (Nat.zero_le _) rfl h3]
  rfl
@[simp] theorem retF_1 {s : D} (h3 : d.flat = true) (hs : s.flat = true) : retF 1 d (s :: S) = .ok d [s] := by
  rw [retF_flat 1 (by simp) (by simp [hs]) h3]
  rfl
theorem byRef_flat : ∀ (xs : List D) (k : Nat), D.flats xs = true → byRef xs k = some (xs, [])
  | [], _, _ => rfl
  | d :: r, k, h => by
    simp only [D.flats, Bool.and_eq_true] at h
    cases d with
    | loc n => simp [D.flat] at h
    | _ =>
      unfold byRef
      rw [if_pos h.1, byRef_flat r k h.2]
      rfl
def kC0 (S : List D) (r : R D) : R D := match r with
  | .ok d S' => if d.flat = true ∧ S'.length = 0 ∧ S'.all D.flat = true then .ok d S else .bad
  | .exc c fs S' => if S'.length = 0 ∧ S'.all D.flat = true ∧ fs.all (fun p => p.2.flat) = true then .exc c fs S else .bad
  | .bad => .bad
@[simp] theorem kc0 (h : d.flat = true) : kC0 S (.ok d []) = .ok d S := by simp [kC0, h]
theorem call0 (F : MF) (h : D.flats xs = true) : callF F xs S = kC0 S (F xs []) := by
  unfold callF kC0
  rw [byRef_flat xs 0 h]
  simp
  cases F xs [] with
  | ok d S' =>
    simp only
    by_cases hc : d.flat = true ∧ S' = [] ∧ ∀ x ∈ S', D.flat x = true
    · rw [if_pos hc]; simp [hc, setAll]
    · rw [if_neg hc]; simp at hc ⊢; intro a b; exact absurd (hc a b) (by subst b; simp)
  | exc c fs S' => 
    simp only
    cases S' <;> simp [setAll]
  | bad => rfl
def kC1 (n : Nat) (S : List D) (r : R D) : R D := match r with
  | .ok d S' => if d.flat = true ∧ S'.length = 1 ∧ S'.all D.flat = true then .ok d (setAll S [n] S') else .bad
  | .exc c fs S' => if S'.length = 1 ∧ S'.all D.flat = true ∧ fs.all (fun p => p.2.flat) = true then .exc c fs (setAll S [n] S') else .bad
  | .bad => .bad
@[simp] theorem kc1 {s : D} {n : Nat} (h : d.flat = true) (hs : s.flat = true) : kC1 n S (.ok d [s]) = .ok d (S.set n s) := by simp [kC1, h, hs, setAll]
theorem call1 (F : MF) {s : D} {n : Nat} (hS : S[n]? = some s) (hs : s.flat = true) (h : D.flats xs = true) : callF F (.loc n :: xs) S = kC1 n S (F (.loc 0 :: xs) [s]) := by
  have hb : byRef (.loc n :: xs) 0 = some (.loc 0 :: xs, [n]) := by
    unfold byRef
    rw [byRef_flat xs _ h]
    rfl
  unfold callF kC1
  rw [hb]
  simp only [List.mapM_cons, List.mapM_nil, hS]
  simp [hs]
  all_goals (cases F (.loc 0 :: xs) [s] <;> rfl)
@[simp] theorem call1' (F : MF) {s : D} (hs : s.flat = true) (h : D.flats xs = true) : callF F (.loc 0 :: xs) (s :: S) = kC1 0 (s :: S) (F (.loc 0 :: xs) [s]) := call1 F rfl hs h
@[simp] theorem callI (F : MF) (i : Int) (h : D.flats xs = true) : callF F (.int i :: xs) S = kC0 S (F (.int i :: xs) []) := call0 F (by simp [D.flats, D.flat, h])
@[simp] theorem callB (F : MF) (i : Bool) (h : D.flats xs = true) : callF F (.bl i :: xs) S = kC0 S (F (.bl i :: xs) []) := call0 F (by simp [D.flats, D.flat, h])
@[simp] theorem callT (F : MF) (h2 : D.flats ds = true) (h : D.flats xs = true) : callF F (.tup ds :: xs) S = kC0 S (F (.tup ds :: xs) []) := call0 F (by simp [D.flats, D.flat, h, h2])
@[simp] theorem callL (F : MF) (h2 : D.flats ds = true) (h : D.flats xs = true) : callF F (.lst ds :: xs) S = kC0 S (F (.lst ds :: xs) []) := call0 F (by simp [D.flats, D.flat, h, h2])
@[simp] theorem isNon_non : D.isNon .non = true := id rfl
@[simp] theorem isNon_int (i : Int) : D.isNon (.int i) = false := id rfl
@[simp] theorem isNon_tup (ds : List D) : D.isNon (.tup ds) = false := id rfl
@[simp] theorem isNon_lst (ds : List D) : D.isNon (.lst ds) = false := id rfl
@[simp] theorem fl_non : D.flat .non = true := id rfl
@[simp] theorem fl_bl (b : Bool) : D.flat (.bl b) = true := id rfl
@[simp] theorem fl_int (i : Int) : D.flat (.int i) = true := id rfl
@[simp] theorem fl_str (i : Str) : D.flat (.str i) = true := id rfl
@[simp] theorem fl_ty (i : String) : D.flat (.ty i) = true := id rfl
@[simp] theorem fl_tup (ds : List D) : D.flat (.tup ds) = D.flats ds := id rfl
@[simp] theorem fl_lst (ds : List D) : D.flat (.lst ds) = D.flats ds := id rfl
@[simp] theorem fl_rdl (ds : List D) : D.flat (.rdl ds) = D.flats ds := id rfl
@[simp] theorem fl_dct (ks : List Ky) (ds : List D) : D.flat (.dct ks ds) = D.flats ds := id rfl
@[simp] theorem fl_loc (n : Nat) : D.flat (.loc n) = false := id rfl
@[simp] theorem fls_nil : D.flats [] = true := id rfl
@[simp] theorem fls_cons (d : D) (ds : List D) : D.flats (d :: ds) = (d.flat && D.flats ds) := id rfl
@[simp] theorem flats_app : ∀ xs ys : List D, D.flats (xs ++ ys) = (D.flats xs && D.flats ys)
  | [], ys => by simp
  | x :: xs, ys => by simp [flats_app xs ys, Bool.and_assoc]
theorem flats_map {α : Type} (e : α → D) (h : ∀ a, (e a).flat = true) : ∀ xs : List α, D.flats (xs.map e) = true
  | [] => rfl
  | x :: xs => by simp [h, flats_map e h xs]
@[simp] theorem flats_ints (ns : List Int) : D.flats (ns.map D.int) = true := flats_map _ (fun _ => rfl) ns
/-! no steps within what stands behind -/
end J
set_option linter.all false
set_option maxRecDepth 100000
/-! Loops, comprehensions: by what is gone over. -/
namespace J
open PySem (Str)
variable {E : Env} {S : List D} {d x y z : D} {ds xs : List D}
structure Src.Is (src : Src) (S : List D) (ds : List D) : Prop where
  len : src.len = ds.length
  at_ : ∀ i, i < ds.length → src.at_ S i = ds[i]?
  alive : src.alive S = true
/-! steps to a loop -/
@[simp] theorem src_tup : srcOf S (.tup ds) = some (.its ds) := id rfl
@[simp] theorem src_lst : srcOf S (.lst ds) = some (.its ds) := id rfl
@[simp] theorem src_rdl : srcOf S (.rdl ds) = some (.its ds) := id rfl
def kSrc (o : Option Src) (S : List D) : R Src := match o with
  | some s => .ok s S
  | none => .bad
@[simp] theorem kSrc_s (s : Src) : kSrc (some s) S = .ok s S := id rfl
def kSeqI (x : D) (S : List D) : R Src := kSrc (srcOf S x) S
@[simp] theorem ev_iseq (a : ME) : iSeq a E S = (a E S).bind kSeqI := by
  unfold iSeq kSeqI kSrc
  cases a E S <;> rfl
@[simp] theorem kseqi : kSeqI x S = kSrc (srcOf S x) S := id rfl
def kEnum1 (o : Option Src) (S : List D) : R Src := match o with
  | some s => .ok s.enum S
  | none => .bad
@[simp] theorem kEnum_s (s : Src) : kEnum1 (some s) S = .ok s.enum S := id rfl
def kEnum (x : D) (S : List D) : R Src := kEnum1 (srcOf S x) S
@[simp] theorem ev_ienum (a : ME) : iEnum a E S = (a E S).bind kEnum := by
  unfold iEnum kEnum kEnum1
  cases a E S <;> rfl
@[simp] theorem kenum : kEnum x S = kEnum1 (srcOf S x) S := id rfl
def kZip2 (x y : D) (S : List D) : R Src := match srcOf S x, srcOf S y with
  | some s, some t => .ok (s.zip t) S
  | _, _ => .bad
def kZip1 (b : ME) (E : Env) (x : D) (S : List D) : R Src := (b E S).bind (kZip2 x)
@[simp] theorem ev_izip (a b : ME) : iZip a b E S = (a E S).bind (kZip1 b E) := id rfl
@[simp] theorem kzip1 (b : ME) : kZip1 b E x S = (b E S).bind (kZip2 x) := id rfl
@[simp] theorem kzip2 : kZip2 (.tup ds) (.tup xs) S = .ok ((Src.its ds).zip (.its xs)) S := id rfl
def kRng1 (x : D) (S : List D) : R Src := match x with
  | .int j => if okR j = true then .ok (.rng 0 j.toNat) S else .bad
  | _ => .bad
@[simp] theorem ev_rng1 (a : ME) : iRng1 a E S = (a E S).bind kRng1 := id rfl
def kRng3 (x y : D) (S : List D) : R Src := match x, y with
  | .int i, .int j => if okR i = true ∧ okR j = true then .ok (.rng i (j - i).toNat) S else .bad
  | _, _ => .bad
def kRng2 (b : ME) (E : Env) (x : D) (S : List D) : R Src := (b E S).bind (kRng3 x)
@[simp] theorem ev_rng2 (a b : ME) : iRng2 a b E S = (a E S).bind (kRng2 b E) := id rfl
@[simp] theorem krng2 (b : ME) : kRng2 b E x S = (b E S).bind (kRng3 x) := id rfl
def kFor (t : Tg) (b : MS) (E : Env) : R Src → O
  | .ok src S1 => forGo src t b S1.length src.len 0 E S1
  | .exc c fs S1 => .exc c fs E S1
  | .bad => .bad
@[simp] theorem ev_for (t : Tg) (m : MI) (b : MS) : sFor t m b E S = kFor t b E (m E S) := by
  unfold sFor kFor
  cases m E S <;> rfl
def forS (src : Src) (t : Tg) (b : MS) (E : Env) (S : List D) : O := forGo src t b S.length src.len 0 E S
@[simp] theorem kfor (t : Tg) (b : MS) (src : Src) : kFor t b E (.ok src S) = forS src t b E S := id rfl
def Turn (t : Tg) (b : MS) (n : Nat) (d : D) (E : Env) (S : List D) (Q : Env → List D → Prop) : Prop :=
  ∃ E1 E2 S2 E3 S3, t.bind d E = some E1 ∧ (b E1 S = .nx E2 S2 ∨ b E1 S = .ct E2 S2) ∧ gcE n E2 S2 = some (E3, S3) ∧ Q E3 S3
def TurnR (t : Tg) (b : MS) (n : Nat) (d : D) (E : Env) (S : List D) (Q : Env → List D → Prop) (Rq : D → List D → Prop) : Prop :=
  Turn t b n d E S Q ∨ ∃ E1 v S2, t.bind d E = some E1 ∧ b E1 S = .rt v S2 ∧ Rq v S2
/-! a turn at which nothing new is left -/
/-! comprehensions -/
def kLc (w : Bool) (own : List Nat) (t : Tg) (c : MT) (e : ME) (E : Env) : R Src → R D
  | .ok src S1 => if src.len ≤ SL then (lcGo src t c e (wipeE E own) S1.length src.len 0 [] S1).bind fun acc S1 => if w = true then .ok (.loc S1.length) (S1 ++ [.lst acc]) else .ok (.lst acc) S1 else .bad
  | .exc c fs S1 => .exc c fs S1
  | .bad => .bad
def lcS (w : Bool) (src : Src) (own : List Nat) (t : Tg) (c : MT) (e : ME) (E : Env) (S : List D) : R D := kLc w own t c e E (.ok src S)
@[simp] theorem klc (w : Bool) (src : Src) (own : List Nat) (t : Tg) (c : MT) (e : ME) : kLc w own t c e E (.ok src S) = lcS w src own t c e E S := id rfl
@[simp] theorem ev_lc (own : List Nat) (t : Tg) (m : MI) (c : MT) (e : ME) : eLc own t m c e E S = kLc false own t c e E (m E S) := by
  unfold eLc kLc lcRun
  cases m E S with
  | ok src S1 =>
    simp only
    by_cases h : src.len ≤ SL
    · rw [if_pos h, if_pos h]; rfl
    · rw [if_neg h, if_neg h]; rfl
  | exc c fs S1 => rfl
  | bad => rfl
@[simp] theorem ev_lcL (own : List Nat) (t : Tg) (m : MI) (c : MT) (e : ME) : eLcL own t m c e E S = kLc true own t c e E (m E S) := by
  unfold eLcL kLc lcRun
  cases m E S with
  | ok src S1 =>
    simp only
    by_cases h : src.len ≤ SL
    · rw [if_pos h, if_pos h]; rfl
    · rw [if_neg h, if_neg h]; rfl
  | exc c fs S1 => rfl
  | bad => rfl
/-! while -/
def kWh (t : MT) (b : MS) (n k : Nat) : O → O
  | .nx E2 S2 => match gcE n E2 S2 with
    | some (E3, S3) => whileGo t b n k E3 S3
    | none => .bad
  | .ct E2 S2 => match gcE n E2 S2 with
    | some (E3, S3) => whileGo t b n k E3 S3
    | none => .bad
  | .bk E2 S2 => .nx E2 S2
  | o => o
def whS (fuel : Nat) (t : MT) (b : MS) (E : Env) (S : List D) : O := whileGo t b S.length fuel E S
@[simp] theorem ev_while (fuel : Nat) (t : MT) (b : MS) : sWhile fuel t b E S = whS fuel t b E S := id rfl
end J
set_option linter.all false
set_option maxRecDepth 100000
namespace J
@[simp] theorem b_max2 (i j : Int) (S : List D) : bMax2 [.int i, .int j] S = .ok (.int (if j > i then j else i)) S := id rfl
@[simp] theorem b_min2 (i j : Int) (S : List D) : bMin2 [.int i, .int j] S = .ok (.int (if j < i then j else i)) S := id rfl
@[simp] theorem b_max3 (i j k : Int) (S : List D) : bMax3 [.int i, .int j, .int k] S = .ok (.int (if k > (if j > i then j else i) then k else (if j > i then j else i))) S := id rfl
def popL (o : Option D) (n : Nat) (S : List D) : R D := match o with
  | some (.lst xs) => match xs[xs.length - 1]? with
    | some y => .ok y (S.set n (.lst xs.dropLast))
    | none => .bad
  | _ => .bad
@[simp] theorem m_pop (n : Nat) (S : List D) : mPop (.loc n) [] S = popL S[n]? n S := by
  unfold popL
  cases h : S[n]? with
  | none => simp only [mPop, h]
  | some d => cases d <;> (simp only [mPop, h]; try rfl)
@[simp] theorem popL_l (n : Nat) (xs : List D) (y : D) (S : List D) : popL (some (.lst (xs ++ [y]))) n S = .ok y (S.set n (.lst xs)) := by simp [popL]
def kLstRg (x : D) (S1 : List D) : R D := match x with
  | .int n => if 0 ≤ n ∧ n ≤ SL then .ok (.loc S1.length) (S1 ++ [.lst ((List.range n.toNat).map fun i : Nat => .int (i : Int))]) else .bad
  | _ => .bad
@[simp] theorem ev_lstRgL (a : ME) (E : Env) (S : List D) : eLstRgL a E S = (a E S).bind kLstRg := id rfl
@[simp] theorem b_listT (xs S : List D) : bList [.tup xs] S = .ok (.lst xs) S := id rfl
@[simp] theorem b_listLs (xs S : List D) : bList [.lst xs] S = .ok (.lst xs) S := id rfl
end J
set_option linter.all false
set_option maxRecDepth 100000
namespace J
open PySem (Str)
variable {E : Env} {S : List D} {d x y z : D} {ds xs : List D}
@[simp] theorem fl_tuk (ds : List D) : D.flat (.tuk ds) = D.flats ds := id rfl
@[simp] theorem src_tuk : srcOf S (.tuk ds) = some (.its ds) := id rfl
@[simp] theorem toO_exc (c : Str) (fs : List (Str × D)) (S : List D) (k : D → List D → O) : (R.exc c fs S : R D).toO E k = .exc c fs E S := id rfl
@[simp] theorem tO_exc (c : Str) (fs : List (Str × D)) (S : List D) (k : Bool → List D → O) : (R.exc c fs S : R Bool).tO E k = .exc c fs E S := id rfl
@[simp] theorem kfn_exc (n : Nat) (c : Str) (fs : List (Str × D)) : kFn n (.exc c fs E S) = excF n c fs S := id rfl
@[simp] theorem excF_0 (c : Str) : excF 0 c [] S = .exc c [] [] := by simp [excF]
@[simp] theorem kc0_exc (c : Str) : kC0 S (.exc c [] []) = .exc c [] S := by simp [kC0]
@[simp] theorem ev_raise (c : Str) : sRaise c E S = .exc c [] E S := id rfl
def kTryIs (kt : Str → Option Bool) (i j : Nat) (u v : D) : O → O
  | .exc c fs E1 S1 => if (fs.isEmpty && decide (i < E1.length)) = true then (match kt c with
    | some b => .nx ((E1.set j (some (if b = true then u else v))).set i none) S1
    | none => .bad) else .bad
  | o => o
@[simp] theorem ev_tryIs (kt : Str → Option Bool) (i j : Nat) (u v : D) (mb : MS) : sTryIs kt i j u v mb E S = kTryIs kt i j u v (mb E S) := by
  unfold sTryIs kTryIs
  cases mb E S <;> rfl
@[simp] theorem ktry_nx (kt : Str → Option Bool) (i j : Nat) (u v : D) : kTryIs kt i j u v (.nx E S) = .nx E S := id rfl
@[simp] theorem ktry_rt (kt : Str → Option Bool) (i j : Nat) (u v : D) : kTryIs kt i j u v (.rt d S) = .rt d S := id rfl
def kMK1 (f : D → List D → List D → R D) (a : MA) (E : Env) (x : D) (S : List D) : R D := if isTuk x = true then (a E S).bind fun xs S2 => f x xs S2 else .bad
def kMK2 (f : D → List D → List D → R D) (x : D) (xs : List D) (S : List D) : R D := f x xs S
@[simp] theorem ev_methK (f : D → List D → List D → R D) (o : ME) (a : MA) : eMethK f o a E S = (o E S).bind (kMK1 f a E) := id rfl
@[simp] theorem kmk1 (f : D → List D → List D → R D) (a : MA) : kMK1 f a E (.tuk ds) S = (a E S).bind (kMK2 f (.tuk ds)) := id rfl
@[simp] theorem kmk2 (f : D → List D → List D → R D) : kMK2 f x xs S = f x xs S := id rfl
@[simp] theorem tupK1 (a : D) (ds : List D) : bTupK [.loc 1] [a, .lst ds] = .ok (.tuk ds) [a, .lst ds] := rfl
@[simp] theorem isi_tuk : oIsi ["tuple"] (.tuk ds) S = .ok (.bl true) S := by simp [oIsi, tyOf, isiB]
end J
set_option linter.all false
set_option maxRecDepth 100000
/-! laws that ask nothing of the script -/
namespace J
def isRt : O → Bool
  | .rt (.bl true) [] => true
  | _ => false
theorem isRt_eq {o : O} (h : isRt o = true) : o = .rt (.bl true) [] := by
  unfold isRt at h
  split at h
  · rfl
  · cases h
theorem closed_law {n : Nat} {A R : MS} {d : D} (h1 : A (some d :: List.replicate n none) [] = .nx (List.replicate (n + 1) none) []) (h2 : isRt (R (List.replicate (n + 1) none) []) = true) : fnF 1 (n + 1) (sSeq A R) [d] [] = .ok (.bl true) [] := by
  unfold fnF
  rw [if_pos (show [d].length = 1 from rfl)]
  have e : ([d].map some ++ List.replicate (n + 1 - 1) none : Env) = some d :: List.replicate n none := by simp
  rw [e]
  unfold sSeq
  rw [h1]
  simp only
  rw [isRt_eq h2]
  rfl
end J
set_option linter.all false
set_option maxRecDepth 100000
/-! exceptions with a field; a loop that ends in an exception -/
namespace J
open PySem (Str)
variable {E : Env} {S : List D} {d x y z : D} {ds xs : List D}
def kRaiseF (c f : Str) (E : Env) (d : D) (S : List D) : O := match d with
  | .int i => if i.natAbs.log2 < 1920 then .exc c [(f, .int i)] E S else .bad
  | _ => .bad
@[simp] theorem ev_raiseF (c f : Str) (a : ME) : sRaiseF c f a E S = (a E S).toO E (kRaiseF c f E) := id rfl
@[simp] theorem excF_0f (c f : Str) (i : Int) : excF 0 c [(f, .int i)] S = .exc c [(f, .int i)] [] := by simp [excF]
@[simp] theorem kc0_excf (c f : Str) (i : Int) : kC0 S (.exc c [(f, .int i)] []) = .exc c [(f, .int i)] S := by simp [kC0]
def kTryFld (kt : Str → Option Bool) (f : Str) (i j : Nat) (v : D) : O → O
  | .exc c fs E1 S1 => if i < E1.length then (match kt c with
    | some true => (match fs with
      | [(g, d)] => if g = f then .nx ((E1.set j (some d)).set i none) S1 else .bad
      | _ => .bad)
    | some false => .nx ((E1.set j (some v)).set i none) S1
    | none => .bad) else .bad
  | o => o
@[simp] theorem ev_tryFld (kt : Str → Option Bool) (f : Str) (i j : Nat) (v : D) (mb : MS) : sTryFld kt f i j v mb E S = kTryFld kt f i j v (mb E S) := by
  unfold sTryFld kTryFld
  cases mb E S <;> rfl
@[simp] theorem ktryf_nx (kt : Str → Option Bool) (f : Str) (i j : Nat) (v : D) : kTryFld kt f i j v (.nx E S) = .nx E S := id rfl
end J
set_option linter.all false
set_option maxRecDepth 100000
/-! len, in, index of tuples of known make -/
namespace J
open PySem (Str)
variable {E : Env} {S : List D} {d x y z : D} {ds xs : List D}
@[simp] theorem lenK_tuk : bLenK [.tuk ds] S = .ok (.int ds.length) S := id rfl
@[simp] theorem lenK_tup : bLenK [.tup ds] S = .ok (.int ds.length) S := id rfl
@[simp] theorem lenK_lst : bLenK [.lst ds] S = bLen [.lst ds] S := id rfl
@[simp] theorem ev_lstRg (a : ME) : eLstRg a E S = (a E S).bind fun x S1 => match x with
  | .int n => if 0 ≤ n ∧ n ≤ SL then .ok (.lst ((List.range n.toNat).map fun i : Nat => .int (i : Int))) S1 else .bad
  | _ => .bad := id rfl
end J
set_option linter.all false
set_option maxRecDepth 100000
set_option maxHeartbeats 0
namespace K51
open J
def chunkN (src : Src) (t : Tg) (b : MS) : Nat → Nat → J.Env → List D → Option (J.Env × List D)
  | 0, _, E, S => some (E, S)
  | j + 1, i, E, S => if src.alive S = true then match src.at_ S i with
    | none => none
    | some d => match t.bind d E with
      | none => none
      | some E1 => match b E1 S with
        | .nx E2 S2 => chunkN src t b j (i + 1) E2 S2
        | .ct E2 S2 => chunkN src t b j (i + 1) E2 S2
        | _ => none
    else none
theorem goN_add {src : Src} {t : Tg} {b : MS} : ∀ (j k i : Nat) (E : J.Env) (S : List D) (E1 : J.Env) (S1 : List D), chunkN src t b j i E S = some (E1, S1) → forGoN src t b (j + k) i E S = forGoN src t b k (i + j) E1 S1
  | 0, k, i, E, S, E1, S1, h => by
    simp only [chunkN, Option.some.injEq, Prod.mk.injEq] at h
    rw [h.1, h.2, Nat.zero_add]
    rfl
  | j + 1, k, i, E, S, E1, S1, h => by
    rw [show j + 1 + k = (j + k) + 1 by omega]
    unfold chunkN at h
    conv => lhs; unfold forGoN
    split at h
    · rename_i al
      rw [if_pos al]
      split at h
      · cases h
      · rename_i d hd
        try rw [hd]
        try simp only
        split at h
        · cases h
        · rename_i E2 he
          try rw [he]
          try simp only
          split at h
          · rename_i E3 S3 hb
            try rw [hb]
            try simp only
            rw [goN_add j k (i + 1) E3 S3 E1 S1 h]
            rw [show i + 1 + j = i + (j + 1) by omega]
          · rename_i E3 S3 hb
            try rw [hb]
            try simp only
            rw [goN_add j k (i + 1) E3 S3 E1 S1 h]
            rw [show i + 1 + j = i + (j + 1) by omega]
          · cases h
    · cases h
theorem seq_nx {a b : MS} {E E1 : J.Env} {S S1 : List D} (h : a E S = .nx E1 S1) : sSeq a b E S = b E1 S1 := by
  unfold sSeq
  rw [h]
def WD : List D := (List.replicate 60 ([(.int 0), (.int 0), (.int 0), (.int 1), (.int 1)] : List D)).flatten
def EA0 : J.Env := [some (.tup [(.tup [(.int 0), (.int 1), (.int 2), (.int 3), (.int 1)])]), some (.tup [(.int 3), (.int 2)]), some (.tup [(.int 2), (.int 5)]), some (.int 60), some (.lst [(.lst []), (.lst [(.int 0)])]), some (.lst [(.loc 0), (.loc 1)]), none, none, none, none, none, none, none]
def SA0 : List D := [(.lst []), (.lst [])]
def EA1 : J.Env := [some (.tup [(.tup [(.int 0), (.int 1), (.int 2), (.int 3), (.int 1)])]), some (.tup [(.int 3), (.int 2)]), some (.tup [(.int 2), (.int 5)]), some (.int 60), some (.lst [(.lst []), (.lst [(.int 0)])]), some (.lst [(.loc 0), (.loc 1)]), some (.int 1), some (.int 19), some (.loc 51), some (.int 0), some (.int 0), some (.int 29), none]
def SA1 : List D := [(.lst [(.int 0), (.int 2), (.int 4), (.int 6), (.int 8), (.int 10), (.int 12), (.int 14), (.int 16), (.int 18), (.int 20), (.int 22), (.int 24), (.int 26), (.int 28), (.int 30), (.int 32), (.int 34), (.int 36), (.int 38), (.int 40), (.int 42), (.int 44), (.int 46), (.int 48), (.int 50), (.int 52), (.int 54), (.int 56), (.int 58)]), (.lst [(.int 2), (.int 7), (.int 12), (.int 17), (.int 22), (.int 27), (.int 32), (.int 37), (.int 42), (.int 47), (.int 52), (.int 57), (.int 62), (.int 67), (.int 72), (.int 77), (.int 82), (.int 87), (.int 92), (.int 97)]), (.lst [(.int 0)]), (.lst [(.int 2)]), (.lst [(.int 4)]), (.lst [(.int 0), (.int 2)]), (.lst [(.int 7), (.int 6)]), (.lst [(.int 6)]), (.lst [(.int 8)]), (.lst [(.int 10)]), (.lst [(.int 12), (.int 8)]), (.lst [(.int 17), (.int 12)]), (.lst [(.int 12)]), (.lst [(.int 14)]), (.lst [(.int 16)]), (.lst [(.int 22), (.int 14)]), (.lst [(.int 27), (.int 18)]), (.lst [(.int 18)]), (.lst [(.int 20)]), (.lst [(.int 22)]), (.lst [(.int 32), (.int 20)]), (.lst [(.int 37), (.int 24)]), (.lst [(.int 24)]), (.lst [(.int 26)]), (.lst [(.int 28)]), (.lst [(.int 42), (.int 26)]), (.lst [(.int 47), (.int 30)]), (.lst [(.int 30)]), (.lst [(.int 32)]), (.lst [(.int 34)]), (.lst [(.int 52), (.int 32)]), (.lst [(.int 57), (.int 36)]), (.lst [(.int 36)]), (.lst [(.int 38)]), (.lst [(.int 40)]), (.lst [(.int 62), (.int 38)]), (.lst [(.int 67), (.int 42)]), (.lst [(.int 42)]), (.lst [(.int 44)]), (.lst [(.int 46)]), (.lst [(.int 72), (.int 44)]), (.lst [(.int 77), (.int 48)]), (.lst [(.int 48)]), (.lst [(.int 50)]), (.lst [(.int 52)]), (.lst [(.int 82), (.int 50)]), (.lst [(.int 87), (.int 54)]), (.lst [(.int 54)]), (.lst [(.int 56)]), (.lst [(.int 58)]), (.lst [(.int 92), (.int 56)]), (.lst [(.int 97), (.int 60)])]
def EA2 : J.Env := [some (.tup [(.tup [(.int 0), (.int 1), (.int 2), (.int 3), (.int 1)])]), some (.tup [(.int 3), (.int 2)]), some (.tup [(.int 2), (.int 5)]), some (.int 60), some (.lst [(.lst []), (.lst [(.int 0)])]), some (.lst [(.loc 0), (.loc 1)]), some (.int 1), some (.int 39), some (.loc 101), some (.int 0), some (.int 0), some (.int 59), none]
def SA2 : List D := [(.lst [(.int 0), (.int 2), (.int 4), (.int 6), (.int 8), (.int 10), (.int 12), (.int 14), (.int 16), (.int 18), (.int 20), (.int 22), (.int 24), (.int 26), (.int 28), (.int 30), (.int 32), (.int 34), (.int 36), (.int 38), (.int 40), (.int 42), (.int 44), (.int 46), (.int 48), (.int 50), (.int 52), (.int 54), (.int 56), (.int 58), (.int 60), (.int 62), (.int 64), (.int 66), (.int 68), (.int 70), (.int 72), (.int 74), (.int 76), (.int 78), (.int 80), (.int 82), (.int 84), (.int 86), (.int 88), (.int 90), (.int 92), (.int 94), (.int 96), (.int 98), (.int 100), (.int 102), (.int 104), (.int 106), (.int 108), (.int 110), (.int 112), (.int 114), (.int 116), (.int 118)]), (.lst [(.int 2), (.int 7), (.int 12), (.int 17), (.int 22), (.int 27), (.int 32), (.int 37), (.int 42), (.int 47), (.int 52), (.int 57), (.int 62), (.int 67), (.int 72), (.int 77), (.int 82), (.int 87), (.int 92), (.int 97), (.int 102), (.int 107), (.int 112), (.int 117), (.int 122), (.int 127), (.int 132), (.int 137), (.int 142), (.int 147), (.int 152), (.int 157), (.int 162), (.int 167), (.int 172), (.int 177), (.int 182), (.int 187), (.int 192), (.int 197)]), (.lst [(.int 0)]), (.lst [(.int 2)]), (.lst [(.int 4)]), (.lst [(.int 0), (.int 2)]), (.lst [(.int 7), (.int 6)]), (.lst [(.int 6)]), (.lst [(.int 8)]), (.lst [(.int 10)]), (.lst [(.int 12), (.int 8)]), (.lst [(.int 17), (.int 12)]), (.lst [(.int 12)]), (.lst [(.int 14)]), (.lst [(.int 16)]), (.lst [(.int 22), (.int 14)]), (.lst [(.int 27), (.int 18)]), (.lst [(.int 18)]), (.lst [(.int 20)]), (.lst [(.int 22)]), (.lst [(.int 32), (.int 20)]), (.lst [(.int 37), (.int 24)]), (.lst [(.int 24)]), (.lst [(.int 26)]), (.lst [(.int 28)]), (.lst [(.int 42), (.int 26)]), (.lst [(.int 47), (.int 30)]), (.lst [(.int 30)]), (.lst [(.int 32)]), (.lst [(.int 34)]), (.lst [(.int 52), (.int 32)]), (.lst [(.int 57), (.int 36)]), (.lst [(.int 36)]), (.lst [(.int 38)]), (.lst [(.int 40)]), (.lst [(.int 62), (.int 38)]), (.lst [(.int 67), (.int 42)]), (.lst [(.int 42)]), (.lst [(.int 44)]), (.lst [(.int 46)]), (.lst [(.int 72), (.int 44)]), (.lst [(.int 77), (.int 48)]), (.lst [(.int 48)]), (.lst [(.int 50)]), (.lst [(.int 52)]), (.lst [(.int 82), (.int 50)]), (.lst [(.int 87), (.int 54)]), (.lst [(.int 54)]), (.lst [(.int 56)]), (.lst [(.int 58)]), (.lst [(.int 92), (.int 56)]), (.lst [(.int 97), (.int 60)]), (.lst [(.int 60)]), (.lst [(.int 62)]), (.lst [(.int 64)]), (.lst [(.int 102), (.int 62)]), (.lst [(.int 107), (.int 66)]), (.lst [(.int 66)]), (.lst [(.int 68)]), (.lst [(.int 70)]), (.lst [(.int 112), (.int 68)]), (.lst [(.int 117), (.int 72)]), (.lst [(.int 72)]), (.lst [(.int 74)]), (.lst [(.int 76)]), (.lst [(.int 122), (.int 74)]), (.lst [(.int 127), (.int 78)]), (.lst [(.int 78)]), (.lst [(.int 80)]), (.lst [(.int 82)]), (.lst [(.int 132), (.int 80)]), (.lst [(.int 137), (.int 84)]), (.lst [(.int 84)]), (.lst [(.int 86)]), (.lst [(.int 88)]), (.lst [(.int 142), (.int 86)]), (.lst [(.int 147), (.int 90)]), (.lst [(.int 90)]), (.lst [(.int 92)]), (.lst [(.int 94)]), (.lst [(.int 152), (.int 92)]), (.lst [(.int 157), (.int 96)]), (.lst [(.int 96)]), (.lst [(.int 98)]), (.lst [(.int 100)]), (.lst [(.int 162), (.int 98)]), (.lst [(.int 167), (.int 102)]), (.lst [(.int 102)]), (.lst [(.int 104)]), (.lst [(.int 106)]), (.lst [(.int 172), (.int 104)]), (.lst [(.int 177), (.int 108)]), (.lst [(.int 108)]), (.lst [(.int 110)]), (.lst [(.int 112)]), (.lst [(.int 182), (.int 110)]), (.lst [(.int 187), (.int 114)]), (.lst [(.int 114)]), (.lst [(.int 116)]), (.lst [(.int 118)]), (.lst [(.int 192), (.int 116)]), (.lst [(.int 197), (.int 120)])]
def EA3 : J.Env := [some (.tup [(.tup [(.int 0), (.int 1), (.int 2), (.int 3), (.int 1)])]), some (.tup [(.int 3), (.int 2)]), some (.tup [(.int 2), (.int 5)]), some (.int 60), some (.lst [(.lst []), (.lst [(.int 0)])]), some (.lst [(.loc 0), (.loc 1)]), some (.int 1), some (.int 59), some (.loc 151), some (.int 0), some (.int 0), some (.int 89), none]
def SA3 : List D := [(.lst [(.int 0), (.int 2), (.int 4), (.int 6), (.int 8), (.int 10), (.int 12), (.int 14), (.int 16), (.int 18), (.int 20), (.int 22), (.int 24), (.int 26), (.int 28), (.int 30), (.int 32), (.int 34), (.int 36), (.int 38), (.int 40), (.int 42), (.int 44), (.int 46), (.int 48), (.int 50), (.int 52), (.int 54), (.int 56), (.int 58), (.int 60), (.int 62), (.int 64), (.int 66), (.int 68), (.int 70), (.int 72), (.int 74), (.int 76), (.int 78), (.int 80), (.int 82), (.int 84), (.int 86), (.int 88), (.int 90), (.int 92), (.int 94), (.int 96), (.int 98), (.int 100), (.int 102), (.int 104), (.int 106), (.int 108), (.int 110), (.int 112), (.int 114), (.int 116), (.int 118), (.int 120), (.int 122), (.int 124), (.int 126), (.int 128), (.int 130), (.int 132), (.int 134), (.int 136), (.int 138), (.int 140), (.int 142), (.int 144), (.int 146), (.int 148), (.int 150), (.int 152), (.int 154), (.int 156), (.int 158), (.int 160), (.int 162), (.int 164), (.int 166), (.int 168), (.int 170), (.int 172), (.int 174), (.int 176), (.int 178)]), (.lst [(.int 2), (.int 7), (.int 12), (.int 17), (.int 22), (.int 27), (.int 32), (.int 37), (.int 42), (.int 47), (.int 52), (.int 57), (.int 62), (.int 67), (.int 72), (.int 77), (.int 82), (.int 87), (.int 92), (.int 97), (.int 102), (.int 107), (.int 112), (.int 117), (.int 122), (.int 127), (.int 132), (.int 137), (.int 142), (.int 147), (.int 152), (.int 157), (.int 162), (.int 167), (.int 172), (.int 177), (.int 182), (.int 187), (.int 192), (.int 197), (.int 202), (.int 207), (.int 212), (.int 217), (.int 222), (.int 227), (.int 232), (.int 237), (.int 242), (.int 247), (.int 252), (.int 257), (.int 262), (.int 267), (.int 272), (.int 277), (.int 282), (.int 287), (.int 292), (.int 297)]), (.lst [(.int 0)]), (.lst [(.int 2)]), (.lst [(.int 4)]), (.lst [(.int 0), (.int 2)]), (.lst [(.int 7), (.int 6)]), (.lst [(.int 6)]), (.lst [(.int 8)]), (.lst [(.int 10)]), (.lst [(.int 12), (.int 8)]), (.lst [(.int 17), (.int 12)]), (.lst [(.int 12)]), (.lst [(.int 14)]), (.lst [(.int 16)]), (.lst [(.int 22), (.int 14)]), (.lst [(.int 27), (.int 18)]), (.lst [(.int 18)]), (.lst [(.int 20)]), (.lst [(.int 22)]), (.lst [(.int 32), (.int 20)]), (.lst [(.int 37), (.int 24)]), (.lst [(.int 24)]), (.lst [(.int 26)]), (.lst [(.int 28)]), (.lst [(.int 42), (.int 26)]), (.lst [(.int 47), (.int 30)]), (.lst [(.int 30)]), (.lst [(.int 32)]), (.lst [(.int 34)]), (.lst [(.int 52), (.int 32)]), (.lst [(.int 57), (.int 36)]), (.lst [(.int 36)]), (.lst [(.int 38)]), (.lst [(.int 40)]), (.lst [(.int 62), (.int 38)]), (.lst [(.int 67), (.int 42)]), (.lst [(.int 42)]), (.lst [(.int 44)]), (.lst [(.int 46)]), (.lst [(.int 72), (.int 44)]), (.lst [(.int 77), (.int 48)]), (.lst [(.int 48)]), (.lst [(.int 50)]), (.lst [(.int 52)]), (.lst [(.int 82), (.int 50)]), (.lst [(.int 87), (.int 54)]), (.lst [(.int 54)]), (.lst [(.int 56)]), (.lst [(.int 58)]), (.lst [(.int 92), (.int 56)]), (.lst [(.int 97), (.int 60)]), (.lst [(.int 60)]), (.lst [(.int 62)]), (.lst [(.int 64)]), (.lst [(.int 102), (.int 62)]), (.lst [(.int 107), (.int 66)]), (.lst [(.int 66)]), (.lst [(.int 68)]), (.lst [(.int 70)]), (.lst [(.int 112), (.int 68)]), (.lst [(.int 117), (.int 72)]), (.lst [(.int 72)]), (.lst [(.int 74)]), (.lst [(.int 76)]), (.lst [(.int 122), (.int 74)]), (.lst [(.int 127), (.int 78)]), (.lst [(.int 78)]), (.lst [(.int 80)]), (.lst [(.int 82)]), (.lst [(.int 132), (.int 80)]), (.lst [(.int 137), (.int 84)]), (.lst [(.int 84)]), (.lst [(.int 86)]), (.lst [(.int 88)]), (.lst [(.int 142), (.int 86)]), (.lst [(.int 147), (.int 90)]), (.lst [(.int 90)]), (.lst [(.int 92)]), (.lst [(.int 94)]), (.lst [(.int 152), (.int 92)]), (.lst [(.int 157), (.int 96)]), (.lst [(.int 96)]), (.lst [(.int 98)]), (.lst [(.int 100)]), (.lst [(.int 162), (.int 98)]), (.lst [(.int 167), (.int 102)]), (.lst [(.int 102)]), (.lst [(.int 104)]), (.lst [(.int 106)]), (.lst [(.int 172), (.int 104)]), (.lst [(.int 177), (.int 108)]), (.lst [(.int 108)]), (.lst [(.int 110)]), (.lst [(.int 112)]), (.lst [(.int 182), (.int 110)]), (.lst [(.int 187), (.int 114)]), (.lst [(.int 114)]), (.lst [(.int 116)]), (.lst [(.int 118)]), (.lst [(.int 192), (.int 116)]), (.lst [(.int 197), (.int 120)]), (.lst [(.int 120)]), (.lst [(.int 122)]), (.lst [(.int 124)]), (.lst [(.int 202), (.int 122)]), (.lst [(.int 207), (.int 126)]), (.lst [(.int 126)]), (.lst [(.int 128)]), (.lst [(.int 130)]), (.lst [(.int 212), (.int 128)]), (.lst [(.int 217), (.int 132)]), (.lst [(.int 132)]), (.lst [(.int 134)]), (.lst [(.int 136)]), (.lst [(.int 222), (.int 134)]), (.lst [(.int 227), (.int 138)]), (.lst [(.int 138)]), (.lst [(.int 140)]), (.lst [(.int 142)]), (.lst [(.int 232), (.int 140)]), (.lst [(.int 237), (.int 144)]), (.lst [(.int 144)]), (.lst [(.int 146)]), (.lst [(.int 148)]), (.lst [(.int 242), (.int 146)]), (.lst [(.int 247), (.int 150)]), (.lst [(.int 150)]), (.lst [(.int 152)]), (.lst [(.int 154)]), (.lst [(.int 252), (.int 152)]), (.lst [(.int 257), (.int 156)]), (.lst [(.int 156)]), (.lst [(.int 158)]), (.lst [(.int 160)]), (.lst [(.int 262), (.int 158)]), (.lst [(.int 267), (.int 162)]), (.lst [(.int 162)]), (.lst [(.int 164)]), (.lst [(.int 166)]), (.lst [(.int 272), (.int 164)]), (.lst [(.int 277), (.int 168)]), (.lst [(.int 168)]), (.lst [(.int 170)]), (.lst [(.int 172)]), (.lst [(.int 282), (.int 170)]), (.lst [(.int 287), (.int 174)]), (.lst [(.int 174)]), (.lst [(.int 176)]), (.lst [(.int 178)]), (.lst [(.int 292), (.int 176)]), (.lst [(.int 297), (.int 180)])]
def EA4 : J.Env := [some (.tup [(.tup [(.int 0), (.int 1), (.int 2), (.int 3), (.int 1)])]), some (.tup [(.int 3), (.int 2)]), some (.tup [(.int 2), (.int 5)]), some (.int 60), some (.lst [(.lst []), (.lst [(.int 0)])]), some (.lst [(.loc 0), (.loc 1)]), some (.int 1), some (.int 79), some (.loc 201), some (.int 0), some (.int 0), some (.int 119), none]
def SA4 : List D := [(.lst [(.int 0), (.int 2), (.int 4), (.int 6), (.int 8), (.int 10), (.int 12), (.int 14), (.int 16), (.int 18), (.int 20), (.int 22), (.int 24), (.int 26), (.int 28), (.int 30), (.int 32), (.int 34), (.int 36), (.int 38), (.int 40), (.int 42), (.int 44), (.int 46), (.int 48), (.int 50), (.int 52), (.int 54), (.int 56), (.int 58), (.int 60), (.int 62), (.int 64), (.int 66), (.int 68), (.int 70), (.int 72), (.int 74), (.int 76), (.int 78), (.int 80), (.int 82), (.int 84), (.int 86), (.int 88), (.int 90), (.int 92), (.int 94), (.int 96), (.int 98), (.int 100), (.int 102), (.int 104), (.int 106), (.int 108), (.int 110), (.int 112), (.int 114), (.int 116), (.int 118), (.int 120), (.int 122), (.int 124), (.int 126), (.int 128), (.int 130), (.int 132), (.int 134), (.int 136), (.int 138), (.int 140), (.int 142), (.int 144), (.int 146), (.int 148), (.int 150), (.int 152), (.int 154), (.int 156), (.int 158), (.int 160), (.int 162), (.int 164), (.int 166), (.int 168), (.int 170), (.int 172), (.int 174), (.int 176), (.int 178), (.int 180), (.int 182), (.int 184), (.int 186), (.int 188), (.int 190), (.int 192), (.int 194), (.int 196), (.int 198), (.int 200), (.int 202), (.int 204), (.int 206), (.int 208), (.int 210), (.int 212), (.int 214), (.int 216), (.int 218), (.int 220), (.int 222), (.int 224), (.int 226), (.int 228), (.int 230), (.int 232), (.int 234), (.int 236), (.int 238)]), (.lst [(.int 2), (.int 7), (.int 12), (.int 17), (.int 22), (.int 27), (.int 32), (.int 37), (.int 42), (.int 47), (.int 52), (.int 57), (.int 62), (.int 67), (.int 72), (.int 77), (.int 82), (.int 87), (.int 92), (.int 97), (.int 102), (.int 107), (.int 112), (.int 117), (.int 122), (.int 127), (.int 132), (.int 137), (.int 142), (.int 147), (.int 152), (.int 157), (.int 162), (.int 167), (.int 172), (.int 177), (.int 182), (.int 187), (.int 192), (.int 197), (.int 202), (.int 207), (.int 212), (.int 217), (.int 222), (.int 227), (.int 232), (.int 237), (.int 242), (.int 247), (.int 252), (.int 257), (.int 262), (.int 267), (.int 272), (.int 277), (.int 282), (.int 287), (.int 292), (.int 297), (.int 302), (.int 307), (.int 312), (.int 317), (.int 322), (.int 327), (.int 332), (.int 337), (.int 342), (.int 347), (.int 352), (.int 357), (.int 362), (.int 367), (.int 372), (.int 377), (.int 382), (.int 387), (.int 392), (.int 397)]), (.lst [(.int 0)]), (.lst [(.int 2)]), (.lst [(.int 4)]), (.lst [(.int 0), (.int 2)]), (.lst [(.int 7), (.int 6)]), (.lst [(.int 6)]), (.lst [(.int 8)]), (.lst [(.int 10)]), (.lst [(.int 12), (.int 8)]), (.lst [(.int 17), (.int 12)]), (.lst [(.int 12)]), (.lst [(.int 14)]), (.lst [(.int 16)]), (.lst [(.int 22), (.int 14)]), (.lst [(.int 27), (.int 18)]), (.lst [(.int 18)]), (.lst [(.int 20)]), (.lst [(.int 22)]), (.lst [(.int 32), (.int 20)]), (.lst [(.int 37), (.int 24)]), (.lst [(.int 24)]), (.lst [(.int 26)]), (.lst [(.int 28)]), (.lst [(.int 42), (.int 26)]), (.lst [(.int 47), (.int 30)]), (.lst [(.int 30)]), (.lst [(.int 32)]), (.lst [(.int 34)]), (.lst [(.int 52), (.int 32)]), (.lst [(.int 57), (.int 36)]), (.lst [(.int 36)]), (.lst [(.int 38)]), (.lst [(.int 40)]), (.lst [(.int 62), (.int 38)]), (.lst [(.int 67), (.int 42)]), (.lst [(.int 42)]), (.lst [(.int 44)]), (.lst [(.int 46)]), (.lst [(.int 72), (.int 44)]), (.lst [(.int 77), (.int 48)]), (.lst [(.int 48)]), (.lst [(.int 50)]), (.lst [(.int 52)]), (.lst [(.int 82), (.int 50)]), (.lst [(.int 87), (.int 54)]), (.lst [(.int 54)]), (.lst [(.int 56)]), (.lst [(.int 58)]), (.lst [(.int 92), (.int 56)]), (.lst [(.int 97), (.int 60)]), (.lst [(.int 60)]), (.lst [(.int 62)]), (.lst [(.int 64)]), (.lst [(.int 102), (.int 62)]), (.lst [(.int 107), (.int 66)]), (.lst [(.int 66)]), (.lst [(.int 68)]), (.lst [(.int 70)]), (.lst [(.int 112), (.int 68)]), (.lst [(.int 117), (.int 72)]), (.lst [(.int 72)]), (.lst [(.int 74)]), (.lst [(.int 76)]), (.lst [(.int 122), (.int 74)]), (.lst [(.int 127), (.int 78)]), (.lst [(.int 78)]), (.lst [(.int 80)]), (.lst [(.int 82)]), (.lst [(.int 132), (.int 80)]), (.lst [(.int 137), (.int 84)]), (.lst [(.int 84)]), (.lst [(.int 86)]), (.lst [(.int 88)]), (.lst [(.int 142), (.int 86)]), (.lst [(.int 147), (.int 90)]), (.lst [(.int 90)]), (.lst [(.int 92)]), (.lst [(.int 94)]), (.lst [(.int 152), (.int 92)]), (.lst [(.int 157), (.int 96)]), (.lst [(.int 96)]), (.lst [(.int 98)]), (.lst [(.int 100)]), (.lst [(.int 162), (.int 98)]), (.lst [(.int 167), (.int 102)]), (.lst [(.int 102)]), (.lst [(.int 104)]), (.lst [(.int 106)]), (.lst [(.int 172), (.int 104)]), (.lst [(.int 177), (.int 108)]), (.lst [(.int 108)]), (.lst [(.int 110)]), (.lst [(.int 112)]), (.lst [(.int 182), (.int 110)]), (.lst [(.int 187), (.int 114)]), (.lst [(.int 114)]), (.lst [(.int 116)]), (.lst [(.int 118)]), (.lst [(.int 192), (.int 116)]), (.lst [(.int 197), (.int 120)]), (.lst [(.int 120)]), (.lst [(.int 122)]), (.lst [(.int 124)]), (.lst [(.int 202), (.int 122)]), (.lst [(.int 207), (.int 126)]), (.lst [(.int 126)]), (.lst [(.int 128)]), (.lst [(.int 130)]), (.lst [(.int 212), (.int 128)]), (.lst [(.int 217), (.int 132)]), (.lst [(.int 132)]), (.lst [(.int 134)]), (.lst [(.int 136)]), (.lst [(.int 222), (.int 134)]), (.lst [(.int 227), (.int 138)]), (.lst [(.int 138)]), (.lst [(.int 140)]), (.lst [(.int 142)]), (.lst [(.int 232), (.int 140)]), (.lst [(.int 237), (.int 144)]), (.lst [(.int 144)]), (.lst [(.int 146)]), (.lst [(.int 148)]), (.lst [(.int 242), (.int 146)]), (.lst [(.int 247), (.int 150)]), (.lst [(.int 150)]), (.lst [(.int 152)]), (.lst [(.int 154)]), (.lst [(.int 252), (.int 152)]), (.lst [(.int 257), (.int 156)]), (.lst [(.int 156)]), (.lst [(.int 158)]), (.lst [(.int 160)]), (.lst [(.int 262), (.int 158)]), (.lst [(.int 267), (.int 162)]), (.lst [(.int 162)]), (.lst [(.int 164)]), (.lst [(.int 166)]), (.lst [(.int 272), (.int 164)]), (.lst [(.int 277), (.int 168)]), (.lst [(.int 168)]), (.lst [(.int 170)]), (.lst [(.int 172)]), (.lst [(.int 282), (.int 170)]), (.lst [(.int 287), (.int 174)]), (.lst [(.int 174)]), (.lst [(.int 176)]), (.lst [(.int 178)]), (.lst [(.int 292), (.int 176)]), (.lst [(.int 297), (.int 180)]), (.lst [(.int 180)]), (.lst [(.int 182)]), (.lst [(.int 184)]), (.lst [(.int 302), (.int 182)]), (.lst [(.int 307), (.int 186)]), (.lst [(.int 186)]), (.lst [(.int 188)]), (.lst [(.int 190)]), (.lst [(.int 312), (.int 188)]), (.lst [(.int 317), (.int 192)]), (.lst [(.int 192)]), (.lst [(.int 194)]), (.lst [(.int 196)]), (.lst [(.int 322), (.int 194)]), (.lst [(.int 327), (.int 198)]), (.lst [(.int 198)]), (.lst [(.int 200)]), (.lst [(.int 202)]), (.lst [(.int 332), (.int 200)]), (.lst [(.int 337), (.int 204)]), (.lst [(.int 204)]), (.lst [(.int 206)]), (.lst [(.int 208)]), (.lst [(.int 342), (.int 206)]), (.lst [(.int 347), (.int 210)]), (.lst [(.int 210)]), (.lst [(.int 212)]), (.lst [(.int 214)]), (.lst [(.int 352), (.int 212)]), (.lst [(.int 357), (.int 216)]), (.lst [(.int 216)]), (.lst [(.int 218)]), (.lst [(.int 220)]), (.lst [(.int 362), (.int 218)]), (.lst [(.int 367), (.int 222)]), (.lst [(.int 222)]), (.lst [(.int 224)]), (.lst [(.int 226)]), (.lst [(.int 372), (.int 224)]), (.lst [(.int 377), (.int 228)]), (.lst [(.int 228)]), (.lst [(.int 230)]), (.lst [(.int 232)]), (.lst [(.int 382), (.int 230)]), (.lst [(.int 387), (.int 234)]), (.lst [(.int 234)]), (.lst [(.int 236)]), (.lst [(.int 238)]), (.lst [(.int 392), (.int 236)]), (.lst [(.int 397), (.int 240)])]
def EA5 : J.Env := [some (.tup [(.tup [(.int 0), (.int 1), (.int 2), (.int 3), (.int 1)])]), some (.tup [(.int 3), (.int 2)]), some (.tup [(.int 2), (.int 5)]), some (.int 60), some (.lst [(.lst []), (.lst [(.int 0)])]), some (.lst [(.loc 0), (.loc 1)]), some (.int 1), some (.int 99), some (.loc 251), some (.int 0), some (.int 0), some (.int 149), none]
def SA5 : List D := [(.lst [(.int 0), (.int 2), (.int 4), (.int 6), (.int 8), (.int 10), (.int 12), (.int 14), (.int 16), (.int 18), (.int 20), (.int 22), (.int 24), (.int 26), (.int 28), (.int 30), (.int 32), (.int 34), (.int 36), (.int 38), (.int 40), (.int 42), (.int 44), (.int 46), (.int 48), (.int 50), (.int 52), (.int 54), (.int 56), (.int 58), (.int 60), (.int 62), (.int 64), (.int 66), (.int 68), (.int 70), (.int 72), (.int 74), (.int 76), (.int 78), (.int 80), (.int 82), (.int 84), (.int 86), (.int 88), (.int 90), (.int 92), (.int 94), (.int 96), (.int 98), (.int 100), (.int 102), (.int 104), (.int 106), (.int 108), (.int 110), (.int 112), (.int 114), (.int 116), (.int 118), (.int 120), (.int 122), (.int 124), (.int 126), (.int 128), (.int 130), (.int 132), (.int 134), (.int 136), (.int 138), (.int 140), (.int 142), (.int 144), (.int 146), (.int 148), (.int 150), (.int 152), (.int 154), (.int 156), (.int 158), (.int 160), (.int 162), (.int 164), (.int 166), (.int 168), (.int 170), (.int 172), (.int 174), (.int 176), (.int 178), (.int 180), (.int 182), (.int 184), (.int 186), (.int 188), (.int 190), (.int 192), (.int 194), (.int 196), (.int 198), (.int 200), (.int 202), (.int 204), (.int 206), (.int 208), (.int 210), (.int 212), (.int 214), (.int 216), (.int 218), (.int 220), (.int 222), (.int 224), (.int 226), (.int 228), (.int 230), (.int 232), (.int 234), (.int 236), (.int 238), (.int 240), (.int 242), (.int 244), (.int 246), (.int 248), (.int 250), (.int 252), (.int 254), (.int 256), (.int 258), (.int 260), (.int 262), (.int 264), (.int 266), (.int 268), (.int 270), (.int 272), (.int 274), (.int 276), (.int 278), (.int 280), (.int 282), (.int 284), (.int 286), (.int 288), (.int 290), (.int 292), (.int 294), (.int 296), (.int 298)]), (.lst [(.int 2), (.int 7), (.int 12), (.int 17), (.int 22), (.int 27), (.int 32), (.int 37), (.int 42), (.int 47), (.int 52), (.int 57), (.int 62), (.int 67), (.int 72), (.int 77), (.int 82), (.int 87), (.int 92), (.int 97), (.int 102), (.int 107), (.int 112), (.int 117), (.int 122), (.int 127), (.int 132), (.int 137), (.int 142), (.int 147), (.int 152), (.int 157), (.int 162), (.int 167), (.int 172), (.int 177), (.int 182), (.int 187), (.int 192), (.int 197), (.int 202), (.int 207), (.int 212), (.int 217), (.int 222), (.int 227), (.int 232), (.int 237), (.int 242), (.int 247), (.int 252), (.int 257), (.int 262), (.int 267), (.int 272), (.int 277), (.int 282), (.int 287), (.int 292), (.int 297), (.int 302), (.int 307), (.int 312), (.int 317), (.int 322), (.int 327), (.int 332), (.int 337), (.int 342), (.int 347), (.int 352), (.int 357), (.int 362), (.int 367), (.int 372), (.int 377), (.int 382), (.int 387), (.int 392), (.int 397), (.int 402), (.int 407), (.int 412), (.int 417), (.int 422), (.int 427), (.int 432), (.int 437), (.int 442), (.int 447), (.int 452), (.int 457), (.int 462), (.int 467), (.int 472), (.int 477), (.int 482), (.int 487), (.int 492), (.int 497)]), (.lst [(.int 0)]), (.lst [(.int 2)]), (.lst [(.int 4)]), (.lst [(.int 0), (.int 2)]), (.lst [(.int 7), (.int 6)]), (.lst [(.int 6)]), (.lst [(.int 8)]), (.lst [(.int 10)]), (.lst [(.int 12), (.int 8)]), (.lst [(.int 17), (.int 12)]), (.lst [(.int 12)]), (.lst [(.int 14)]), (.lst [(.int 16)]), (.lst [(.int 22), (.int 14)]), (.lst [(.int 27), (.int 18)]), (.lst [(.int 18)]), (.lst [(.int 20)]), (.lst [(.int 22)]), (.lst [(.int 32), (.int 20)]), (.lst [(.int 37), (.int 24)]), (.lst [(.int 24)]), (.lst [(.int 26)]), (.lst [(.int 28)]), (.lst [(.int 42), (.int 26)]), (.lst [(.int 47), (.int 30)]), (.lst [(.int 30)]), (.lst [(.int 32)]), (.lst [(.int 34)]), (.lst [(.int 52), (.int 32)]), (.lst [(.int 57), (.int 36)]), (.lst [(.int 36)]), (.lst [(.int 38)]), (.lst [(.int 40)]), (.lst [(.int 62), (.int 38)]), (.lst [(.int 67), (.int 42)]), (.lst [(.int 42)]), (.lst [(.int 44)]), (.lst [(.int 46)]), (.lst [(.int 72), (.int 44)]), (.lst [(.int 77), (.int 48)]), (.lst [(.int 48)]), (.lst [(.int 50)]), (.lst [(.int 52)]), (.lst [(.int 82), (.int 50)]), (.lst [(.int 87), (.int 54)]), (.lst [(.int 54)]), (.lst [(.int 56)]), (.lst [(.int 58)]), (.lst [(.int 92), (.int 56)]), (.lst [(.int 97), (.int 60)]), (.lst [(.int 60)]), (.lst [(.int 62)]), (.lst [(.int 64)]), (.lst [(.int 102), (.int 62)]), (.lst [(.int 107), (.int 66)]), (.lst [(.int 66)]), (.lst [(.int 68)]), (.lst [(.int 70)]), (.lst [(.int 112), (.int 68)]), (.lst [(.int 117), (.int 72)]), (.lst [(.int 72)]), (.lst [(.int 74)]), (.lst [(.int 76)]), (.lst [(.int 122), (.int 74)]), (.lst [(.int 127), (.int 78)]), (.lst [(.int 78)]), (.lst [(.int 80)]), (.lst [(.int 82)]), (.lst [(.int 132), (.int 80)]), (.lst [(.int 137), (.int 84)]), (.lst [(.int 84)]), (.lst [(.int 86)]), (.lst [(.int 88)]), (.lst [(.int 142), (.int 86)]), (.lst [(.int 147), (.int 90)]), (.lst [(.int 90)]), (.lst [(.int 92)]), (.lst [(.int 94)]), (.lst [(.int 152), (.int 92)]), (.lst [(.int 157), (.int 96)]), (.lst [(.int 96)]), (.lst [(.int 98)]), (.lst [(.int 100)]), (.lst [(.int 162), (.int 98)]), (.lst [(.int 167), (.int 102)]), (.lst [(.int 102)]), (.lst [(.int 104)]), (.lst [(.int 106)]), (.lst [(.int 172), (.int 104)]), (.lst [(.int 177), (.int 108)]), (.lst [(.int 108)]), (.lst [(.int 110)]), (.lst [(.int 112)]), (.lst [(.int 182), (.int 110)]), (.lst [(.int 187), (.int 114)]), (.lst [(.int 114)]), (.lst [(.int 116)]), (.lst [(.int 118)]), (.lst [(.int 192), (.int 116)]), (.lst [(.int 197), (.int 120)]), (.lst [(.int 120)]), (.lst [(.int 122)]), (.lst [(.int 124)]), (.lst [(.int 202), (.int 122)]), (.lst [(.int 207), (.int 126)]), (.lst [(.int 126)]), (.lst [(.int 128)]), (.lst [(.int 130)]), (.lst [(.int 212), (.int 128)]), (.lst [(.int 217), (.int 132)]), (.lst [(.int 132)]), (.lst [(.int 134)]), (.lst [(.int 136)]), (.lst [(.int 222), (.int 134)]), (.lst [(.int 227), (.int 138)]), (.lst [(.int 138)]), (.lst [(.int 140)]), (.lst [(.int 142)]), (.lst [(.int 232), (.int 140)]), (.lst [(.int 237), (.int 144)]), (.lst [(.int 144)]), (.lst [(.int 146)]), (.lst [(.int 148)]), (.lst [(.int 242), (.int 146)]), (.lst [(.int 247), (.int 150)]), (.lst [(.int 150)]), (.lst [(.int 152)]), (.lst [(.int 154)]), (.lst [(.int 252), (.int 152)]), (.lst [(.int 257), (.int 156)]), (.lst [(.int 156)]), (.lst [(.int 158)]), (.lst [(.int 160)]), (.lst [(.int 262), (.int 158)]), (.lst [(.int 267), (.int 162)]), (.lst [(.int 162)]), (.lst [(.int 164)]), (.lst [(.int 166)]), (.lst [(.int 272), (.int 164)]), (.lst [(.int 277), (.int 168)]), (.lst [(.int 168)]), (.lst [(.int 170)]), (.lst [(.int 172)]), (.lst [(.int 282), (.int 170)]), (.lst [(.int 287), (.int 174)]), (.lst [(.int 174)]), (.lst [(.int 176)]), (.lst [(.int 178)]), (.lst [(.int 292), (.int 176)]), (.lst [(.int 297), (.int 180)]), (.lst [(.int 180)]), (.lst [(.int 182)]), (.lst [(.int 184)]), (.lst [(.int 302), (.int 182)]), (.lst [(.int 307), (.int 186)]), (.lst [(.int 186)]), (.lst [(.int 188)]), (.lst [(.int 190)]), (.lst [(.int 312), (.int 188)]), (.lst [(.int 317), (.int 192)]), (.lst [(.int 192)]), (.lst [(.int 194)]), (.lst [(.int 196)]), (.lst [(.int 322), (.int 194)]), (.lst [(.int 327), (.int 198)]), (.lst [(.int 198)]), (.lst [(.int 200)]), (.lst [(.int 202)]), (.lst [(.int 332), (.int 200)]), (.lst [(.int 337), (.int 204)]), (.lst [(.int 204)]), (.lst [(.int 206)]), (.lst [(.int 208)]), (.lst [(.int 342), (.int 206)]), (.lst [(.int 347), (.int 210)]), (.lst [(.int 210)]), (.lst [(.int 212)]), (.lst [(.int 214)]), (.lst [(.int 352), (.int 212)]), (.lst [(.int 357), (.int 216)]), (.lst [(.int 216)]), (.lst [(.int 218)]), (.lst [(.int 220)]), (.lst [(.int 362), (.int 218)]), (.lst [(.int 367), (.int 222)]), (.lst [(.int 222)]), (.lst [(.int 224)]), (.lst [(.int 226)]), (.lst [(.int 372), (.int 224)]), (.lst [(.int 377), (.int 228)]), (.lst [(.int 228)]), (.lst [(.int 230)]), (.lst [(.int 232)]), (.lst [(.int 382), (.int 230)]), (.lst [(.int 387), (.int 234)]), (.lst [(.int 234)]), (.lst [(.int 236)]), (.lst [(.int 238)]), (.lst [(.int 392), (.int 236)]), (.lst [(.int 397), (.int 240)]), (.lst [(.int 240)]), (.lst [(.int 242)]), (.lst [(.int 244)]), (.lst [(.int 402), (.int 242)]), (.lst [(.int 407), (.int 246)]), (.lst [(.int 246)]), (.lst [(.int 248)]), (.lst [(.int 250)]), (.lst [(.int 412), (.int 248)]), (.lst [(.int 417), (.int 252)]), (.lst [(.int 252)]), (.lst [(.int 254)]), (.lst [(.int 256)]), (.lst [(.int 422), (.int 254)]), (.lst [(.int 427), (.int 258)]), (.lst [(.int 258)]), (.lst [(.int 260)]), (.lst [(.int 262)]), (.lst [(.int 432), (.int 260)]), (.lst [(.int 437), (.int 264)]), (.lst [(.int 264)]), (.lst [(.int 266)]), (.lst [(.int 268)]), (.lst [(.int 442), (.int 266)]), (.lst [(.int 447), (.int 270)]), (.lst [(.int 270)]), (.lst [(.int 272)]), (.lst [(.int 274)]), (.lst [(.int 452), (.int 272)]), (.lst [(.int 457), (.int 276)]), (.lst [(.int 276)]), (.lst [(.int 278)]), (.lst [(.int 280)]), (.lst [(.int 462), (.int 278)]), (.lst [(.int 467), (.int 282)]), (.lst [(.int 282)]), (.lst [(.int 284)]), (.lst [(.int 286)]), (.lst [(.int 472), (.int 284)]), (.lst [(.int 477), (.int 288)]), (.lst [(.int 288)]), (.lst [(.int 290)]), (.lst [(.int 292)]), (.lst [(.int 482), (.int 290)]), (.lst [(.int 487), (.int 294)]), (.lst [(.int 294)]), (.lst [(.int 296)]), (.lst [(.int 298)]), (.lst [(.int 492), (.int 296)]), (.lst [(.int 497), (.int 300)])]
def EA6 : J.Env := [some (.tup [(.tup [(.int 0), (.int 1), (.int 2), (.int 3), (.int 1)])]), some (.tup [(.int 3), (.int 2)]), some (.tup [(.int 2), (.int 5)]), some (.int 60), some (.lst [(.lst []), (.lst [(.int 0)])]), some (.lst [(.loc 0), (.loc 1)]), some (.int 1), some (.int 119), some (.loc 301), some (.int 0), some (.int 0), some (.int 179), none]
def SA6 : List D := [(.lst [(.int 0), (.int 2), (.int 4), (.int 6), (.int 8), (.int 10), (.int 12), (.int 14), (.int 16), (.int 18), (.int 20), (.int 22), (.int 24), (.int 26), (.int 28), (.int 30), (.int 32), (.int 34), (.int 36), (.int 38), (.int 40), (.int 42), (.int 44), (.int 46), (.int 48), (.int 50), (.int 52), (.int 54), (.int 56), (.int 58), (.int 60), (.int 62), (.int 64), (.int 66), (.int 68), (.int 70), (.int 72), (.int 74), (.int 76), (.int 78), (.int 80), (.int 82), (.int 84), (.int 86), (.int 88), (.int 90), (.int 92), (.int 94), (.int 96), (.int 98), (.int 100), (.int 102), (.int 104), (.int 106), (.int 108), (.int 110), (.int 112), (.int 114), (.int 116), (.int 118), (.int 120), (.int 122), (.int 124), (.int 126), (.int 128), (.int 130), (.int 132), (.int 134), (.int 136), (.int 138), (.int 140), (.int 142), (.int 144), (.int 146), (.int 148), (.int 150), (.int 152), (.int 154), (.int 156), (.int 158), (.int 160), (.int 162), (.int 164), (.int 166), (.int 168), (.int 170), (.int 172), (.int 174), (.int 176), (.int 178), (.int 180), (.int 182), (.int 184), (.int 186), (.int 188), (.int 190), (.int 192), (.int 194), (.int 196), (.int 198), (.int 200), (.int 202), (.int 204), (.int 206), (.int 208), (.int 210), (.int 212), (.int 214), (.int 216), (.int 218), (.int 220), (.int 222), (.int 224), (.int 226), (.int 228), (.int 230), (.int 232), (.int 234), (.int 236), (.int 238), (.int 240), (.int 242), (.int 244), (.int 246), (.int 248), (.int 250), (.int 252), (.int 254), (.int 256), (.int 258), (.int 260), (.int 262), (.int 264), (.int 266), (.int 268), (.int 270), (.int 272), (.int 274), (.int 276), (.int 278), (.int 280), (.int 282), (.int 284), (.int 286), (.int 288), (.int 290), (.int 292), (.int 294), (.int 296), (.int 298), (.int 300), (.int 302), (.int 304), (.int 306), (.int 308), (.int 310), (.int 312), (.int 314), (.int 316), (.int 318), (.int 320), (.int 322), (.int 324), (.int 326), (.int 328), (.int 330), (.int 332), (.int 334), (.int 336), (.int 338), (.int 340), (.int 342), (.int 344), (.int 346), (.int 348), (.int 350), (.int 352), (.int 354), (.int 356), (.int 358)]), (.lst [(.int 2), (.int 7), (.int 12), (.int 17), (.int 22), (.int 27), (.int 32), (.int 37), (.int 42), (.int 47), (.int 52), (.int 57), (.int 62), (.int 67), (.int 72), (.int 77), (.int 82), (.int 87), (.int 92), (.int 97), (.int 102), (.int 107), (.int 112), (.int 117), (.int 122), (.int 127), (.int 132), (.int 137), (.int 142), (.int 147), (.int 152), (.int 157), (.int 162), (.int 167), (.int 172), (.int 177), (.int 182), (.int 187), (.int 192), (.int 197), (.int 202), (.int 207), (.int 212), (.int 217), (.int 222), (.int 227), (.int 232), (.int 237), (.int 242), (.int 247), (.int 252), (.int 257), (.int 262), (.int 267), (.int 272), (.int 277), (.int 282), (.int 287), (.int 292), (.int 297), (.int 302), (.int 307), (.int 312), (.int 317), (.int 322), (.int 327), (.int 332), (.int 337), (.int 342), (.int 347), (.int 352), (.int 357), (.int 362), (.int 367), (.int 372), (.int 377), (.int 382), (.int 387), (.int 392), (.int 397), (.int 402), (.int 407), (.int 412), (.int 417), (.int 422), (.int 427), (.int 432), (.int 437), (.int 442), (.int 447), (.int 452), (.int 457), (.int 462), (.int 467), (.int 472), (.int 477), (.int 482), (.int 487), (.int 492), (.int 497), (.int 502), (.int 507), (.int 512), (.int 517), (.int 522), (.int 527), (.int 532), (.int 537), (.int 542), (.int 547), (.int 552), (.int 557), (.int 562), (.int 567), (.int 572), (.int 577), (.int 582), (.int 587), (.int 592), (.int 597)]), (.lst [(.int 0)]), (.lst [(.int 2)]), (.lst [(.int 4)]), (.lst [(.int 0), (.int 2)]), (.lst [(.int 7), (.int 6)]), (.lst [(.int 6)]), (.lst [(.int 8)]), (.lst [(.int 10)]), (.lst [(.int 12), (.int 8)]), (.lst [(.int 17), (.int 12)]), (.lst [(.int 12)]), (.lst [(.int 14)]), (.lst [(.int 16)]), (.lst [(.int 22), (.int 14)]), (.lst [(.int 27), (.int 18)]), (.lst [(.int 18)]), (.lst [(.int 20)]), (.lst [(.int 22)]), (.lst [(.int 32), (.int 20)]), (.lst [(.int 37), (.int 24)]), (.lst [(.int 24)]), (.lst [(.int 26)]), (.lst [(.int 28)]), (.lst [(.int 42), (.int 26)]), (.lst [(.int 47), (.int 30)]), (.lst [(.int 30)]), (.lst [(.int 32)]), (.lst [(.int 34)]), (.lst [(.int 52), (.int 32)]), (.lst [(.int 57), (.int 36)]), (.lst [(.int 36)]), (.lst [(.int 38)]), (.lst [(.int 40)]), (.lst [(.int 62), (.int 38)]), (.lst [(.int 67), (.int 42)]), (.lst [(.int 42)]), (.lst [(.int 44)]), (.lst [(.int 46)]), (.lst [(.int 72), (.int 44)]), (.lst [(.int 77), (.int 48)]), (.lst [(.int 48)]), (.lst [(.int 50)]), (.lst [(.int 52)]), (.lst [(.int 82), (.int 50)]), (.lst [(.int 87), (.int 54)]), (.lst [(.int 54)]), (.lst [(.int 56)]), (.lst [(.int 58)]), (.lst [(.int 92), (.int 56)]), (.lst [(.int 97), (.int 60)]), (.lst [(.int 60)]), (.lst [(.int 62)]), (.lst [(.int 64)]), (.lst [(.int 102), (.int 62)]), (.lst [(.int 107), (.int 66)]), (.lst [(.int 66)]), (.lst [(.int 68)]), (.lst [(.int 70)]), (.lst [(.int 112), (.int 68)]), (.lst [(.int 117), (.int 72)]), (.lst [(.int 72)]), (.lst [(.int 74)]), (.lst [(.int 76)]), (.lst [(.int 122), (.int 74)]), (.lst [(.int 127), (.int 78)]), (.lst [(.int 78)]), (.lst [(.int 80)]), (.lst [(.int 82)]), (.lst [(.int 132), (.int 80)]), (.lst [(.int 137), (.int 84)]), (.lst [(.int 84)]), (.lst [(.int 86)]), (.lst [(.int 88)]), (.lst [(.int 142), (.int 86)]), (.lst [(.int 147), (.int 90)]), (.lst [(.int 90)]), (.lst [(.int 92)]), (.lst [(.int 94)]), (.lst [(.int 152), (.int 92)]), (.lst [(.int 157), (.int 96)]), (.lst [(.int 96)]), (.lst [(.int 98)]), (.lst [(.int 100)]), (.lst [(.int 162), (.int 98)]), (.lst [(.int 167), (.int 102)]), (.lst [(.int 102)]), (.lst [(.int 104)]), (.lst [(.int 106)]), (.lst [(.int 172), (.int 104)]), (.lst [(.int 177), (.int 108)]), (.lst [(.int 108)]), (.lst [(.int 110)]), (.lst [(.int 112)]), (.lst [(.int 182), (.int 110)]), (.lst [(.int 187), (.int 114)]), (.lst [(.int 114)]), (.lst [(.int 116)]), (.lst [(.int 118)]), (.lst [(.int 192), (.int 116)]), (.lst [(.int 197), (.int 120)]), (.lst [(.int 120)]), (.lst [(.int 122)]), (.lst [(.int 124)]), (.lst [(.int 202), (.int 122)]), (.lst [(.int 207), (.int 126)]), (.lst [(.int 126)]), (.lst [(.int 128)]), (.lst [(.int 130)]), (.lst [(.int 212), (.int 128)]), (.lst [(.int 217), (.int 132)]), (.lst [(.int 132)]), (.lst [(.int 134)]), (.lst [(.int 136)]), (.lst [(.int 222), (.int 134)]), (.lst [(.int 227), (.int 138)]), (.lst [(.int 138)]), (.lst [(.int 140)]), (.lst [(.int 142)]), (.lst [(.int 232), (.int 140)]), (.lst [(.int 237), (.int 144)]), (.lst [(.int 144)]), (.lst [(.int 146)]), (.lst [(.int 148)]), (.lst [(.int 242), (.int 146)]), (.lst [(.int 247), (.int 150)]), (.lst [(.int 150)]), (.lst [(.int 152)]), (.lst [(.int 154)]), (.lst [(.int 252), (.int 152)]), (.lst [(.int 257), (.int 156)]), (.lst [(.int 156)]), (.lst [(.int 158)]), (.lst [(.int 160)]), (.lst [(.int 262), (.int 158)]), (.lst [(.int 267), (.int 162)]), (.lst [(.int 162)]), (.lst [(.int 164)]), (.lst [(.int 166)]), (.lst [(.int 272), (.int 164)]), (.lst [(.int 277), (.int 168)]), (.lst [(.int 168)]), (.lst [(.int 170)]), (.lst [(.int 172)]), (.lst [(.int 282), (.int 170)]), (.lst [(.int 287), (.int 174)]), (.lst [(.int 174)]), (.lst [(.int 176)]), (.lst [(.int 178)]), (.lst [(.int 292), (.int 176)]), (.lst [(.int 297), (.int 180)]), (.lst [(.int 180)]), (.lst [(.int 182)]), (.lst [(.int 184)]), (.lst [(.int 302), (.int 182)]), (.lst [(.int 307), (.int 186)]), (.lst [(.int 186)]), (.lst [(.int 188)]), (.lst [(.int 190)]), (.lst [(.int 312), (.int 188)]), (.lst [(.int 317), (.int 192)]), (.lst [(.int 192)]), (.lst [(.int 194)]), (.lst [(.int 196)]), (.lst [(.int 322), (.int 194)]), (.lst [(.int 327), (.int 198)]), (.lst [(.int 198)]), (.lst [(.int 200)]), (.lst [(.int 202)]), (.lst [(.int 332), (.int 200)]), (.lst [(.int 337), (.int 204)]), (.lst [(.int 204)]), (.lst [(.int 206)]), (.lst [(.int 208)]), (.lst [(.int 342), (.int 206)]), (.lst [(.int 347), (.int 210)]), (.lst [(.int 210)]), (.lst [(.int 212)]), (.lst [(.int 214)]), (.lst [(.int 352), (.int 212)]), (.lst [(.int 357), (.int 216)]), (.lst [(.int 216)]), (.lst [(.int 218)]), (.lst [(.int 220)]), (.lst [(.int 362), (.int 218)]), (.lst [(.int 367), (.int 222)]), (.lst [(.int 222)]), (.lst [(.int 224)]), (.lst [(.int 226)]), (.lst [(.int 372), (.int 224)]), (.lst [(.int 377), (.int 228)]), (.lst [(.int 228)]), (.lst [(.int 230)]), (.lst [(.int 232)]), (.lst [(.int 382), (.int 230)]), (.lst [(.int 387), (.int 234)]), (.lst [(.int 234)]), (.lst [(.int 236)]), (.lst [(.int 238)]), (.lst [(.int 392), (.int 236)]), (.lst [(.int 397), (.int 240)]), (.lst [(.int 240)]), (.lst [(.int 242)]), (.lst [(.int 244)]), (.lst [(.int 402), (.int 242)]), (.lst [(.int 407), (.int 246)]), (.lst [(.int 246)]), (.lst [(.int 248)]), (.lst [(.int 250)]), (.lst [(.int 412), (.int 248)]), (.lst [(.int 417), (.int 252)]), (.lst [(.int 252)]), (.lst [(.int 254)]), (.lst [(.int 256)]), (.lst [(.int 422), (.int 254)]), (.lst [(.int 427), (.int 258)]), (.lst [(.int 258)]), (.lst [(.int 260)]), (.lst [(.int 262)]), (.lst [(.int 432), (.int 260)]), (.lst [(.int 437), (.int 264)]), (.lst [(.int 264)]), (.lst [(.int 266)]), (.lst [(.int 268)]), (.lst [(.int 442), (.int 266)]), (.lst [(.int 447), (.int 270)]), (.lst [(.int 270)]), (.lst [(.int 272)]), (.lst [(.int 274)]), (.lst [(.int 452), (.int 272)]), (.lst [(.int 457), (.int 276)]), (.lst [(.int 276)]), (.lst [(.int 278)]), (.lst [(.int 280)]), (.lst [(.int 462), (.int 278)]), (.lst [(.int 467), (.int 282)]), (.lst [(.int 282)]), (.lst [(.int 284)]), (.lst [(.int 286)]), (.lst [(.int 472), (.int 284)]), (.lst [(.int 477), (.int 288)]), (.lst [(.int 288)]), (.lst [(.int 290)]), (.lst [(.int 292)]), (.lst [(.int 482), (.int 290)]), (.lst [(.int 487), (.int 294)]), (.lst [(.int 294)]), (.lst [(.int 296)]), (.lst [(.int 298)]), (.lst [(.int 492), (.int 296)]), (.lst [(.int 497), (.int 300)]), (.lst [(.int 300)]), (.lst [(.int 302)]), (.lst [(.int 304)]), (.lst [(.int 502), (.int 302)]), (.lst [(.int 507), (.int 306)]), (.lst [(.int 306)]), (.lst [(.int 308)]), (.lst [(.int 310)]), (.lst [(.int 512), (.int 308)]), (.lst [(.int 517), (.int 312)]), (.lst [(.int 312)]), (.lst [(.int 314)]), (.lst [(.int 316)]), (.lst [(.int 522), (.int 314)]), (.lst [(.int 527), (.int 318)]), (.lst [(.int 318)]), (.lst [(.int 320)]), (.lst [(.int 322)]), (.lst [(.int 532), (.int 320)]), (.lst [(.int 537), (.int 324)]), (.lst [(.int 324)]), (.lst [(.int 326)]), (.lst [(.int 328)]), (.lst [(.int 542), (.int 326)]), (.lst [(.int 547), (.int 330)]), (.lst [(.int 330)]), (.lst [(.int 332)]), (.lst [(.int 334)]), (.lst [(.int 552), (.int 332)]), (.lst [(.int 557), (.int 336)]), (.lst [(.int 336)]), (.lst [(.int 338)]), (.lst [(.int 340)]), (.lst [(.int 562), (.int 338)]), (.lst [(.int 567), (.int 342)]), (.lst [(.int 342)]), (.lst [(.int 344)]), (.lst [(.int 346)]), (.lst [(.int 572), (.int 344)]), (.lst [(.int 577), (.int 348)]), (.lst [(.int 348)]), (.lst [(.int 350)]), (.lst [(.int 352)]), (.lst [(.int 582), (.int 350)]), (.lst [(.int 587), (.int 354)]), (.lst [(.int 354)]), (.lst [(.int 356)]), (.lst [(.int 358)]), (.lst [(.int 592), (.int 356)]), (.lst [(.int 597), (.int 360)])]
theorem chA0 : chunkN (.its WD) (.nm 6) B3_p_starts 50 0 EA0 SA0 = some (EA1, SA1) := by kernel_rfl
theorem chA1 : chunkN (.its WD) (.nm 6) B3_p_starts 50 50 EA1 SA1 = some (EA2, SA2) := by kernel_rfl
theorem chA2 : chunkN (.its WD) (.nm 6) B3_p_starts 50 100 EA2 SA2 = some (EA3, SA3) := by kernel_rfl
theorem chA3 : chunkN (.its WD) (.nm 6) B3_p_starts 50 150 EA3 SA3 = some (EA4, SA4) := by kernel_rfl
theorem chA4 : chunkN (.its WD) (.nm 6) B3_p_starts 50 200 EA4 SA4 = some (EA5, SA5) := by kernel_rfl
theorem chA5 : chunkN (.its WD) (.nm 6) B3_p_starts 50 250 EA5 SA5 = some (EA6, SA6) := by kernel_rfl
theorem lpA : forGoN (.its WD) (.nm 6) B3_p_starts 300 0 EA0 SA0 = .nx EA6 SA6 := by
  refine (goN_add 50 250 0 _ _ _ _ chA0).trans ?_
  refine (goN_add 50 200 50 _ _ _ _ chA1).trans ?_
  refine (goN_add 50 150 100 _ _ _ _ chA2).trans ?_
  refine (goN_add 50 100 150 _ _ _ _ chA3).trans ?_
  refine (goN_add 50 50 200 _ _ _ _ chA4).trans ?_
  refine (goN_add 50 0 250 _ _ _ _ chA5).trans ?_
  kernel_rfl
def STA : D := (.lst [(.lst [(.int 0), (.int 2), (.int 4), (.int 6), (.int 8), (.int 10), (.int 12), (.int 14), (.int 16), (.int 18), (.int 20), (.int 22), (.int 24), (.int 26), (.int 28), (.int 30), (.int 32), (.int 34), (.int 36), (.int 38), (.int 40), (.int 42), (.int 44), (.int 46), (.int 48), (.int 50), (.int 52), (.int 54), (.int 56), (.int 58), (.int 60), (.int 62), (.int 64), (.int 66), (.int 68), (.int 70), (.int 72), (.int 74), (.int 76), (.int 78), (.int 80), (.int 82), (.int 84), (.int 86), (.int 88), (.int 90), (.int 92), (.int 94), (.int 96), (.int 98), (.int 100), (.int 102), (.int 104), (.int 106), (.int 108), (.int 110), (.int 112), (.int 114), (.int 116), (.int 118), (.int 120), (.int 122), (.int 124), (.int 126), (.int 128), (.int 130), (.int 132), (.int 134), (.int 136), (.int 138), (.int 140), (.int 142), (.int 144), (.int 146), (.int 148), (.int 150), (.int 152), (.int 154), (.int 156), (.int 158), (.int 160), (.int 162), (.int 164), (.int 166), (.int 168), (.int 170), (.int 172), (.int 174), (.int 176), (.int 178), (.int 180), (.int 182), (.int 184), (.int 186), (.int 188), (.int 190), (.int 192), (.int 194), (.int 196), (.int 198), (.int 200), (.int 202), (.int 204), (.int 206), (.int 208), (.int 210), (.int 212), (.int 214), (.int 216), (.int 218), (.int 220), (.int 222), (.int 224), (.int 226), (.int 228), (.int 230), (.int 232), (.int 234), (.int 236), (.int 238), (.int 240), (.int 242), (.int 244), (.int 246), (.int 248), (.int 250), (.int 252), (.int 254), (.int 256), (.int 258), (.int 260), (.int 262), (.int 264), (.int 266), (.int 268), (.int 270), (.int 272), (.int 274), (.int 276), (.int 278), (.int 280), (.int 282), (.int 284), (.int 286), (.int 288), (.int 290), (.int 292), (.int 294), (.int 296), (.int 298), (.int 300), (.int 302), (.int 304), (.int 306), (.int 308), (.int 310), (.int 312), (.int 314), (.int 316), (.int 318), (.int 320), (.int 322), (.int 324), (.int 326), (.int 328), (.int 330), (.int 332), (.int 334), (.int 336), (.int 338), (.int 340), (.int 342), (.int 344), (.int 346), (.int 348), (.int 350), (.int 352), (.int 354), (.int 356), (.int 358)]), (.lst [(.int 2), (.int 7), (.int 12), (.int 17), (.int 22), (.int 27), (.int 32), (.int 37), (.int 42), (.int 47), (.int 52), (.int 57), (.int 62), (.int 67), (.int 72), (.int 77), (.int 82), (.int 87), (.int 92), (.int 97), (.int 102), (.int 107), (.int 112), (.int 117), (.int 122), (.int 127), (.int 132), (.int 137), (.int 142), (.int 147), (.int 152), (.int 157), (.int 162), (.int 167), (.int 172), (.int 177), (.int 182), (.int 187), (.int 192), (.int 197), (.int 202), (.int 207), (.int 212), (.int 217), (.int 222), (.int 227), (.int 232), (.int 237), (.int 242), (.int 247), (.int 252), (.int 257), (.int 262), (.int 267), (.int 272), (.int 277), (.int 282), (.int 287), (.int 292), (.int 297), (.int 302), (.int 307), (.int 312), (.int 317), (.int 322), (.int 327), (.int 332), (.int 337), (.int 342), (.int 347), (.int 352), (.int 357), (.int 362), (.int 367), (.int 372), (.int 377), (.int 382), (.int 387), (.int 392), (.int 397), (.int 402), (.int 407), (.int 412), (.int 417), (.int 422), (.int 427), (.int 432), (.int 437), (.int 442), (.int 447), (.int 452), (.int 457), (.int 462), (.int 467), (.int 472), (.int 477), (.int 482), (.int 487), (.int 492), (.int 497), (.int 502), (.int 507), (.int 512), (.int 517), (.int 522), (.int 527), (.int 532), (.int 537), (.int 542), (.int 547), (.int 552), (.int 557), (.int 562), (.int 567), (.int 572), (.int 577), (.int 582), (.int 587), (.int 592), (.int 597)])])
theorem retA : kFn 0 (.rt (.lst [.loc 0, .loc 1]) SA6) = .ok STA [] := by kernel_rfl
theorem m1A : (sSet 4 (eArgs (callF F_p_pipes_at) (aCons (eVar 0) (aCons (eC (.int 1)) (aCons (eArgs bLen (aCons (eVar 1) aNil)) aNil))))) [some (.tup [.tup [.int 0, .int 1, .int 2, .int 3, .int 1]]), some (.tup [.int 3, .int 2]), some (.tup [.int 2, .int 5]), some (.int 60), none, none, none, none, none, none, none, none, none] [] = .nx [some (.tup [.tup [.int 0, .int 1, .int 2, .int 3, .int 1]]), some (.tup [.int 3, .int 2]), some (.tup [.int 2, .int 5]), some (.int 60), EA0.getD 4 none, none, none, none, none, none, none, none, none] [] := by kernel_rfl
theorem m2A : (sSet 5 (eLc [12] (.nm 12) (iSeq (eVar 1)) J.tYes V1_p_starts)) [some (.tup [.tup [.int 0, .int 1, .int 2, .int 3, .int 1]]), some (.tup [.int 3, .int 2]), some (.tup [.int 2, .int 5]), some (.int 60), EA0.getD 4 none, none, none, none, none, none, none, none, none] [] = .nx EA0 SA0 := by kernel_rfl
theorem m3A : iSeq (eOp oMulQ (eVar 3) (eArgs (callF F_p_least_word) (aCons (eVar 0) (aCons (eVar 1) aNil)))) EA0 SA0 = .ok (.its WD) SA0 := by kernel_rfl
theorem m4A : sRet (eVar 5) EA6 SA6 = .rt (.lst [.loc 0, .loc 1]) SA6 := by kernel_rfl
theorem sforN {t : Tg} {m : MI} {b : MS} {E E1 : J.Env} {S S1 : List D} {src : Src} (h : m E S = .ok src S) (h2 : forGoN src t b src.len 0 E S = .nx E1 S1) : sForN t m b E S = .nx E1 S1 := by
  unfold sForN
  rw [h]
  exact h2
theorem staA : F_p_starts [(.tup [.tup [.int 0, .int 1, .int 2, .int 3, .int 1]]), (.tup [.int 3, .int 2]), (.tup [.int 2, .int 5]), .int 60] [] = .ok STA [] := by
  unfold F_p_starts S_p_starts
  rw [fn_ev 4 13 _ rfl]
  show kFn 0 (sSeq _ _ [some (.tup [.tup [.int 0, .int 1, .int 2, .int 3, .int 1]]), some (.tup [.int 3, .int 2]), some (.tup [.int 2, .int 5]), some (.int 60), none, none, none, none, none, none, none, none, none] []) = _
  rw [seq_nx m1A, seq_nx m2A, seq_nx (sforN m3A lpA), m4A]
  exact retA
def EB0 : J.Env := [some (.tup [(.tup [(.int 0), (.int 1), (.int 2), (.int 3), (.int 1)])]), some (.tup [(.int 3), (.int 2)]), some (.tup [(.int 5), (.int 3)]), some (.int 60), some (.lst [(.lst []), (.lst [(.int 0)])]), some (.lst [(.loc 0), (.loc 1)]), none, none, none, none, none, none, none]
def SB0 : List D := [(.lst []), (.lst [])]
def EB1 : J.Env := [some (.tup [(.tup [(.int 0), (.int 1), (.int 2), (.int 3), (.int 1)])]), some (.tup [(.int 3), (.int 2)]), some (.tup [(.int 5), (.int 3)]), some (.int 60), some (.lst [(.lst []), (.lst [(.int 0)])]), some (.lst [(.loc 0), (.loc 1)]), some (.int 1), some (.int 19), some (.loc 51), some (.int 0), some (.int 0), some (.int 29), none]
def SB1 : List D := [(.lst [(.int 0), (.int 5), (.int 10), (.int 15), (.int 20), (.int 25), (.int 30), (.int 35), (.int 40), (.int 45), (.int 50), (.int 55), (.int 60), (.int 65), (.int 70), (.int 75), (.int 80), (.int 85), (.int 90), (.int 95), (.int 100), (.int 105), (.int 110), (.int 115), (.int 120), (.int 125), (.int 130), (.int 135), (.int 140), (.int 145)]), (.lst [(.int 5), (.int 15), (.int 20), (.int 30), (.int 35), (.int 45), (.int 50), (.int 60), (.int 65), (.int 75), (.int 80), (.int 90), (.int 95), (.int 105), (.int 110), (.int 120), (.int 125), (.int 135), (.int 140), (.int 150)]), (.lst [(.int 0)]), (.lst [(.int 5)]), (.lst [(.int 10)]), (.lst [(.int 0), (.int 5)]), (.lst [(.int 8), (.int 15)]), (.lst [(.int 15)]), (.lst [(.int 20)]), (.lst [(.int 25)]), (.lst [(.int 18), (.int 20)]), (.lst [(.int 23), (.int 30)]), (.lst [(.int 30)]), (.lst [(.int 35)]), (.lst [(.int 40)]), (.lst [(.int 33), (.int 35)]), (.lst [(.int 38), (.int 45)]), (.lst [(.int 45)]), (.lst [(.int 50)]), (.lst [(.int 55)]), (.lst [(.int 48), (.int 50)]), (.lst [(.int 53), (.int 60)]), (.lst [(.int 60)]), (.lst [(.int 65)]), (.lst [(.int 70)]), (.lst [(.int 63), (.int 65)]), (.lst [(.int 68), (.int 75)]), (.lst [(.int 75)]), (.lst [(.int 80)]), (.lst [(.int 85)]), (.lst [(.int 78), (.int 80)]), (.lst [(.int 83), (.int 90)]), (.lst [(.int 90)]), (.lst [(.int 95)]), (.lst [(.int 100)]), (.lst [(.int 93), (.int 95)]), (.lst [(.int 98), (.int 105)]), (.lst [(.int 105)]), (.lst [(.int 110)]), (.lst [(.int 115)]), (.lst [(.int 108), (.int 110)]), (.lst [(.int 113), (.int 120)]), (.lst [(.int 120)]), (.lst [(.int 125)]), (.lst [(.int 130)]), (.lst [(.int 123), (.int 125)]), (.lst [(.int 128), (.int 135)]), (.lst [(.int 135)]), (.lst [(.int 140)]), (.lst [(.int 145)]), (.lst [(.int 138), (.int 140)]), (.lst [(.int 143), (.int 150)])]
def EB2 : J.Env := [some (.tup [(.tup [(.int 0), (.int 1), (.int 2), (.int 3), (.int 1)])]), some (.tup [(.int 3), (.int 2)]), some (.tup [(.int 5), (.int 3)]), some (.int 60), some (.lst [(.lst []), (.lst [(.int 0)])]), some (.lst [(.loc 0), (.loc 1)]), some (.int 1), some (.int 39), some (.loc 101), some (.int 0), some (.int 0), some (.int 59), none]
def SB2 : List D := [(.lst [(.int 0), (.int 5), (.int 10), (.int 15), (.int 20), (.int 25), (.int 30), (.int 35), (.int 40), (.int 45), (.int 50), (.int 55), (.int 60), (.int 65), (.int 70), (.int 75), (.int 80), (.int 85), (.int 90), (.int 95), (.int 100), (.int 105), (.int 110), (.int 115), (.int 120), (.int 125), (.int 130), (.int 135), (.int 140), (.int 145), (.int 150), (.int 155), (.int 160), (.int 165), (.int 170), (.int 175), (.int 180), (.int 185), (.int 190), (.int 195), (.int 200), (.int 205), (.int 210), (.int 215), (.int 220), (.int 225), (.int 230), (.int 235), (.int 240), (.int 245), (.int 250), (.int 255), (.int 260), (.int 265), (.int 270), (.int 275), (.int 280), (.int 285), (.int 290), (.int 295)]), (.lst [(.int 5), (.int 15), (.int 20), (.int 30), (.int 35), (.int 45), (.int 50), (.int 60), (.int 65), (.int 75), (.int 80), (.int 90), (.int 95), (.int 105), (.int 110), (.int 120), (.int 125), (.int 135), (.int 140), (.int 150), (.int 155), (.int 165), (.int 170), (.int 180), (.int 185), (.int 195), (.int 200), (.int 210), (.int 215), (.int 225), (.int 230), (.int 240), (.int 245), (.int 255), (.int 260), (.int 270), (.int 275), (.int 285), (.int 290), (.int 300)]), (.lst [(.int 0)]), (.lst [(.int 5)]), (.lst [(.int 10)]), (.lst [(.int 0), (.int 5)]), (.lst [(.int 8), (.int 15)]), (.lst [(.int 15)]), (.lst [(.int 20)]), (.lst [(.int 25)]), (.lst [(.int 18), (.int 20)]), (.lst [(.int 23), (.int 30)]), (.lst [(.int 30)]), (.lst [(.int 35)]), (.lst [(.int 40)]), (.lst [(.int 33), (.int 35)]), (.lst [(.int 38), (.int 45)]), (.lst [(.int 45)]), (.lst [(.int 50)]), (.lst [(.int 55)]), (.lst [(.int 48), (.int 50)]), (.lst [(.int 53), (.int 60)]), (.lst [(.int 60)]), (.lst [(.int 65)]), (.lst [(.int 70)]), (.lst [(.int 63), (.int 65)]), (.lst [(.int 68), (.int 75)]), (.lst [(.int 75)]), (.lst [(.int 80)]), (.lst [(.int 85)]), (.lst [(.int 78), (.int 80)]), (.lst [(.int 83), (.int 90)]), (.lst [(.int 90)]), (.lst [(.int 95)]), (.lst [(.int 100)]), (.lst [(.int 93), (.int 95)]), (.lst [(.int 98), (.int 105)]), (.lst [(.int 105)]), (.lst [(.int 110)]), (.lst [(.int 115)]), (.lst [(.int 108), (.int 110)]), (.lst [(.int 113), (.int 120)]), (.lst [(.int 120)]), (.lst [(.int 125)]), (.lst [(.int 130)]), (.lst [(.int 123), (.int 125)]), (.lst [(.int 128), (.int 135)]), (.lst [(.int 135)]), (.lst [(.int 140)]), (.lst [(.int 145)]), (.lst [(.int 138), (.int 140)]), (.lst [(.int 143), (.int 150)]), (.lst [(.int 150)]), (.lst [(.int 155)]), (.lst [(.int 160)]), (.lst [(.int 153), (.int 155)]), (.lst [(.int 158), (.int 165)]), (.lst [(.int 165)]), (.lst [(.int 170)]), (.lst [(.int 175)]), (.lst [(.int 168), (.int 170)]), (.lst [(.int 173), (.int 180)]), (.lst [(.int 180)]), (.lst [(.int 185)]), (.lst [(.int 190)]), (.lst [(.int 183), (.int 185)]), (.lst [(.int 188), (.int 195)]), (.lst [(.int 195)]), (.lst [(.int 200)]), (.lst [(.int 205)]), (.lst [(.int 198), (.int 200)]), (.lst [(.int 203), (.int 210)]), (.lst [(.int 210)]), (.lst [(.int 215)]), (.lst [(.int 220)]), (.lst [(.int 213), (.int 215)]), (.lst [(.int 218), (.int 225)]), (.lst [(.int 225)]), (.lst [(.int 230)]), (.lst [(.int 235)]), (.lst [(.int 228), (.int 230)]), (.lst [(.int 233), (.int 240)]), (.lst [(.int 240)]), (.lst [(.int 245)]), (.lst [(.int 250)]), (.lst [(.int 243), (.int 245)]), (.lst [(.int 248), (.int 255)]), (.lst [(.int 255)]), (.lst [(.int 260)]), (.lst [(.int 265)]), (.lst [(.int 258), (.int 260)]), (.lst [(.int 263), (.int 270)]), (.lst [(.int 270)]), (.lst [(.int 275)]), (.lst [(.int 280)]), (.lst [(.int 273), (.int 275)]), (.lst [(.int 278), (.int 285)]), (.lst [(.int 285)]), (.lst [(.int 290)]), (.lst [(.int 295)]), (.lst [(.int 288), (.int 290)]), (.lst [(.int 293), (.int 300)])]
def EB3 : J.Env := [some (.tup [(.tup [(.int 0), (.int 1), (.int 2), (.int 3), (.int 1)])]), some (.tup [(.int 3), (.int 2)]), some (.tup [(.int 5), (.int 3)]), some (.int 60), some (.lst [(.lst []), (.lst [(.int 0)])]), some (.lst [(.loc 0), (.loc 1)]), some (.int 1), some (.int 59), some (.loc 151), some (.int 0), some (.int 0), some (.int 89), none]
def SB3 : List D := [(.lst [(.int 0), (.int 5), (.int 10), (.int 15), (.int 20), (.int 25), (.int 30), (.int 35), (.int 40), (.int 45), (.int 50), (.int 55), (.int 60), (.int 65), (.int 70), (.int 75), (.int 80), (.int 85), (.int 90), (.int 95), (.int 100), (.int 105), (.int 110), (.int 115), (.int 120), (.int 125), (.int 130), (.int 135), (.int 140), (.int 145), (.int 150), (.int 155), (.int 160), (.int 165), (.int 170), (.int 175), (.int 180), (.int 185), (.int 190), (.int 195), (.int 200), (.int 205), (.int 210), (.int 215), (.int 220), (.int 225), (.int 230), (.int 235), (.int 240), (.int 245), (.int 250), (.int 255), (.int 260), (.int 265), (.int 270), (.int 275), (.int 280), (.int 285), (.int 290), (.int 295), (.int 300), (.int 305), (.int 310), (.int 315), (.int 320), (.int 325), (.int 330), (.int 335), (.int 340), (.int 345), (.int 350), (.int 355), (.int 360), (.int 365), (.int 370), (.int 375), (.int 380), (.int 385), (.int 390), (.int 395), (.int 400), (.int 405), (.int 410), (.int 415), (.int 420), (.int 425), (.int 430), (.int 435), (.int 440), (.int 445)]), (.lst [(.int 5), (.int 15), (.int 20), (.int 30), (.int 35), (.int 45), (.int 50), (.int 60), (.int 65), (.int 75), (.int 80), (.int 90), (.int 95), (.int 105), (.int 110), (.int 120), (.int 125), (.int 135), (.int 140), (.int 150), (.int 155), (.int 165), (.int 170), (.int 180), (.int 185), (.int 195), (.int 200), (.int 210), (.int 215), (.int 225), (.int 230), (.int 240), (.int 245), (.int 255), (.int 260), (.int 270), (.int 275), (.int 285), (.int 290), (.int 300), (.int 305), (.int 315), (.int 320), (.int 330), (.int 335), (.int 345), (.int 350), (.int 360), (.int 365), (.int 375), (.int 380), (.int 390), (.int 395), (.int 405), (.int 410), (.int 420), (.int 425), (.int 435), (.int 440), (.int 450)]), (.lst [(.int 0)]), (.lst [(.int 5)]), (.lst [(.int 10)]), (.lst [(.int 0), (.int 5)]), (.lst [(.int 8), (.int 15)]), (.lst [(.int 15)]), (.lst [(.int 20)]), (.lst [(.int 25)]), (.lst [(.int 18), (.int 20)]), (.lst [(.int 23), (.int 30)]), (.lst [(.int 30)]), (.lst [(.int 35)]), (.lst [(.int 40)]), (.lst [(.int 33), (.int 35)]), (.lst [(.int 38), (.int 45)]), (.lst [(.int 45)]), (.lst [(.int 50)]), (.lst [(.int 55)]), (.lst [(.int 48), (.int 50)]), (.lst [(.int 53), (.int 60)]), (.lst [(.int 60)]), (.lst [(.int 65)]), (.lst [(.int 70)]), (.lst [(.int 63), (.int 65)]), (.lst [(.int 68), (.int 75)]), (.lst [(.int 75)]), (.lst [(.int 80)]), (.lst [(.int 85)]), (.lst [(.int 78), (.int 80)]), (.lst [(.int 83), (.int 90)]), (.lst [(.int 90)]), (.lst [(.int 95)]), (.lst [(.int 100)]), (.lst [(.int 93), (.int 95)]), (.lst [(.int 98), (.int 105)]), (.lst [(.int 105)]), (.lst [(.int 110)]), (.lst [(.int 115)]), (.lst [(.int 108), (.int 110)]), (.lst [(.int 113), (.int 120)]), (.lst [(.int 120)]), (.lst [(.int 125)]), (.lst [(.int 130)]), (.lst [(.int 123), (.int 125)]), (.lst [(.int 128), (.int 135)]), (.lst [(.int 135)]), (.lst [(.int 140)]), (.lst [(.int 145)]), (.lst [(.int 138), (.int 140)]), (.lst [(.int 143), (.int 150)]), (.lst [(.int 150)]), (.lst [(.int 155)]), (.lst [(.int 160)]), (.lst [(.int 153), (.int 155)]), (.lst [(.int 158), (.int 165)]), (.lst [(.int 165)]), (.lst [(.int 170)]), (.lst [(.int 175)]), (.lst [(.int 168), (.int 170)]), (.lst [(.int 173), (.int 180)]), (.lst [(.int 180)]), (.lst [(.int 185)]), (.lst [(.int 190)]), (.lst [(.int 183), (.int 185)]), (.lst [(.int 188), (.int 195)]), (.lst [(.int 195)]), (.lst [(.int 200)]), (.lst [(.int 205)]), (.lst [(.int 198), (.int 200)]), (.lst [(.int 203), (.int 210)]), (.lst [(.int 210)]), (.lst [(.int 215)]), (.lst [(.int 220)]), (.lst [(.int 213), (.int 215)]), (.lst [(.int 218), (.int 225)]), (.lst [(.int 225)]), (.lst [(.int 230)]), (.lst [(.int 235)]), (.lst [(.int 228), (.int 230)]), (.lst [(.int 233), (.int 240)]), (.lst [(.int 240)]), (.lst [(.int 245)]), (.lst [(.int 250)]), (.lst [(.int 243), (.int 245)]), (.lst [(.int 248), (.int 255)]), (.lst [(.int 255)]), (.lst [(.int 260)]), (.lst [(.int 265)]), (.lst [(.int 258), (.int 260)]), (.lst [(.int 263), (.int 270)]), (.lst [(.int 270)]), (.lst [(.int 275)]), (.lst [(.int 280)]), (.lst [(.int 273), (.int 275)]), (.lst [(.int 278), (.int 285)]), (.lst [(.int 285)]), (.lst [(.int 290)]), (.lst [(.int 295)]), (.lst [(.int 288), (.int 290)]), (.lst [(.int 293), (.int 300)]), (.lst [(.int 300)]), (.lst [(.int 305)]), (.lst [(.int 310)]), (.lst [(.int 303), (.int 305)]), (.lst [(.int 308), (.int 315)]), (.lst [(.int 315)]), (.lst [(.int 320)]), (.lst [(.int 325)]), (.lst [(.int 318), (.int 320)]), (.lst [(.int 323), (.int 330)]), (.lst [(.int 330)]), (.lst [(.int 335)]), (.lst [(.int 340)]), (.lst [(.int 333), (.int 335)]), (.lst [(.int 338), (.int 345)]), (.lst [(.int 345)]), (.lst [(.int 350)]), (.lst [(.int 355)]), (.lst [(.int 348), (.int 350)]), (.lst [(.int 353), (.int 360)]), (.lst [(.int 360)]), (.lst [(.int 365)]), (.lst [(.int 370)]), (.lst [(.int 363), (.int 365)]), (.lst [(.int 368), (.int 375)]), (.lst [(.int 375)]), (.lst [(.int 380)]), (.lst [(.int 385)]), (.lst [(.int 378), (.int 380)]), (.lst [(.int 383), (.int 390)]), (.lst [(.int 390)]), (.lst [(.int 395)]), (.lst [(.int 400)]), (.lst [(.int 393), (.int 395)]), (.lst [(.int 398), (.int 405)]), (.lst [(.int 405)]), (.lst [(.int 410)]), (.lst [(.int 415)]), (.lst [(.int 408), (.int 410)]), (.lst [(.int 413), (.int 420)]), (.lst [(.int 420)]), (.lst [(.int 425)]), (.lst [(.int 430)]), (.lst [(.int 423), (.int 425)]), (.lst [(.int 428), (.int 435)]), (.lst [(.int 435)]), (.lst [(.int 440)]), (.lst [(.int 445)]), (.lst [(.int 438), (.int 440)]), (.lst [(.int 443), (.int 450)])]
def EB4 : J.Env := [some (.tup [(.tup [(.int 0), (.int 1), (.int 2), (.int 3), (.int 1)])]), some (.tup [(.int 3), (.int 2)]), some (.tup [(.int 5), (.int 3)]), some (.int 60), some (.lst [(.lst []), (.lst [(.int 0)])]), some (.lst [(.loc 0), (.loc 1)]), some (.int 1), some (.int 79), some (.loc 201), some (.int 0), some (.int 0), some (.int 119), none]
def SB4 : List D := [(.lst [(.int 0), (.int 5), (.int 10), (.int 15), (.int 20), (.int 25), (.int 30), (.int 35), (.int 40), (.int 45), (.int 50), (.int 55), (.int 60), (.int 65), (.int 70), (.int 75), (.int 80), (.int 85), (.int 90), (.int 95), (.int 100), (.int 105), (.int 110), (.int 115), (.int 120), (.int 125), (.int 130), (.int 135), (.int 140), (.int 145), (.int 150), (.int 155), (.int 160), (.int 165), (.int 170), (.int 175), (.int 180), (.int 185), (.int 190), (.int 195), (.int 200), (.int 205), (.int 210), (.int 215), (.int 220), (.int 225), (.int 230), (.int 235), (.int 240), (.int 245), (.int 250), (.int 255), (.int 260), (.int 265), (.int 270), (.int 275), (.int 280), (.int 285), (.int 290), (.int 295), (.int 300), (.int 305), (.int 310), (.int 315), (.int 320), (.int 325), (.int 330), (.int 335), (.int 340), (.int 345), (.int 350), (.int 355), (.int 360), (.int 365), (.int 370), (.int 375), (.int 380), (.int 385), (.int 390), (.int 395), (.int 400), (.int 405), (.int 410), (.int 415), (.int 420), (.int 425), (.int 430), (.int 435), (.int 440), (.int 445), (.int 450), (.int 455), (.int 460), (.int 465), (.int 470), (.int 475), (.int 480), (.int 485), (.int 490), (.int 495), (.int 500), (.int 505), (.int 510), (.int 515), (.int 520), (.int 525), (.int 530), (.int 535), (.int 540), (.int 545), (.int 550), (.int 555), (.int 560), (.int 565), (.int 570), (.int 575), (.int 580), (.int 585), (.int 590), (.int 595)]), (.lst [(.int 5), (.int 15), (.int 20), (.int 30), (.int 35), (.int 45), (.int 50), (.int 60), (.int 65), (.int 75), (.int 80), (.int 90), (.int 95), (.int 105), (.int 110), (.int 120), (.int 125), (.int 135), (.int 140), (.int 150), (.int 155), (.int 165), (.int 170), (.int 180), (.int 185), (.int 195), (.int 200), (.int 210), (.int 215), (.int 225), (.int 230), (.int 240), (.int 245), (.int 255), (.int 260), (.int 270), (.int 275), (.int 285), (.int 290), (.int 300), (.int 305), (.int 315), (.int 320), (.int 330), (.int 335), (.int 345), (.int 350), (.int 360), (.int 365), (.int 375), (.int 380), (.int 390), (.int 395), (.int 405), (.int 410), (.int 420), (.int 425), (.int 435), (.int 440), (.int 450), (.int 455), (.int 465), (.int 470), (.int 480), (.int 485), (.int 495), (.int 500), (.int 510), (.int 515), (.int 525), (.int 530), (.int 540), (.int 545), (.int 555), (.int 560), (.int 570), (.int 575), (.int 585), (.int 590), (.int 600)]), (.lst [(.int 0)]), (.lst [(.int 5)]), (.lst [(.int 10)]), (.lst [(.int 0), (.int 5)]), (.lst [(.int 8), (.int 15)]), (.lst [(.int 15)]), (.lst [(.int 20)]), (.lst [(.int 25)]), (.lst [(.int 18), (.int 20)]), (.lst [(.int 23), (.int 30)]), (.lst [(.int 30)]), (.lst [(.int 35)]), (.lst [(.int 40)]), (.lst [(.int 33), (.int 35)]), (.lst [(.int 38), (.int 45)]), (.lst [(.int 45)]), (.lst [(.int 50)]), (.lst [(.int 55)]), (.lst [(.int 48), (.int 50)]), (.lst [(.int 53), (.int 60)]), (.lst [(.int 60)]), (.lst [(.int 65)]), (.lst [(.int 70)]), (.lst [(.int 63), (.int 65)]), (.lst [(.int 68), (.int 75)]), (.lst [(.int 75)]), (.lst [(.int 80)]), (.lst [(.int 85)]), (.lst [(.int 78), (.int 80)]), (.lst [(.int 83), (.int 90)]), (.lst [(.int 90)]), (.lst [(.int 95)]), (.lst [(.int 100)]), (.lst [(.int 93), (.int 95)]), (.lst [(.int 98), (.int 105)]), (.lst [(.int 105)]), (.lst [(.int 110)]), (.lst [(.int 115)]), (.lst [(.int 108), (.int 110)]), (.lst [(.int 113), (.int 120)]), (.lst [(.int 120)]), (.lst [(.int 125)]), (.lst [(.int 130)]), (.lst [(.int 123), (.int 125)]), (.lst [(.int 128), (.int 135)]), (.lst [(.int 135)]), (.lst [(.int 140)]), (.lst [(.int 145)]), (.lst [(.int 138), (.int 140)]), (.lst [(.int 143), (.int 150)]), (.lst [(.int 150)]), (.lst [(.int 155)]), (.lst [(.int 160)]), (.lst [(.int 153), (.int 155)]), (.lst [(.int 158), (.int 165)]), (.lst [(.int 165)]), (.lst [(.int 170)]), (.lst [(.int 175)]), (.lst [(.int 168), (.int 170)]), (.lst [(.int 173), (.int 180)]), (.lst [(.int 180)]), (.lst [(.int 185)]), (.lst [(.int 190)]), (.lst [(.int 183), (.int 185)]), (.lst [(.int 188), (.int 195)]), (.lst [(.int 195)]), (.lst [(.int 200)]), (.lst [(.int 205)]), (.lst [(.int 198), (.int 200)]), (.lst [(.int 203), (.int 210)]), (.lst [(.int 210)]), (.lst [(.int 215)]), (.lst [(.int 220)]), (.lst [(.int 213), (.int 215)]), (.lst [(.int 218), (.int 225)]), (.lst [(.int 225)]), (.lst [(.int 230)]), (.lst [(.int 235)]), (.lst [(.int 228), (.int 230)]), (.lst [(.int 233), (.int 240)]), (.lst [(.int 240)]), (.lst [(.int 245)]), (.lst [(.int 250)]), (.lst [(.int 243), (.int 245)]), (.lst [(.int 248), (.int 255)]), (.lst [(.int 255)]), (.lst [(.int 260)]), (.lst [(.int 265)]), (.lst [(.int 258), (.int 260)]), (.lst [(.int 263), (.int 270)]), (.lst [(.int 270)]), (.lst [(.int 275)]), (.lst [(.int 280)]), (.lst [(.int 273), (.int 275)]), (.lst [(.int 278), (.int 285)]), (.lst [(.int 285)]), (.lst [(.int 290)]), (.lst [(.int 295)]), (.lst [(.int 288), (.int 290)]), (.lst [(.int 293), (.int 300)]), (.lst [(.int 300)]), (.lst [(.int 305)]), (.lst [(.int 310)]), (.lst [(.int 303), (.int 305)]), (.lst [(.int 308), (.int 315)]), (.lst [(.int 315)]), (.lst [(.int 320)]), (.lst [(.int 325)]), (.lst [(.int 318), (.int 320)]), (.lst [(.int 323), (.int 330)]), (.lst [(.int 330)]), (.lst [(.int 335)]), (.lst [(.int 340)]), (.lst [(.int 333), (.int 335)]), (.lst [(.int 338), (.int 345)]), (.lst [(.int 345)]), (.lst [(.int 350)]), (.lst [(.int 355)]), (.lst [(.int 348), (.int 350)]), (.lst [(.int 353), (.int 360)]), (.lst [(.int 360)]), (.lst [(.int 365)]), (.lst [(.int 370)]), (.lst [(.int 363), (.int 365)]), (.lst [(.int 368), (.int 375)]), (.lst [(.int 375)]), (.lst [(.int 380)]), (.lst [(.int 385)]), (.lst [(.int 378), (.int 380)]), (.lst [(.int 383), (.int 390)]), (.lst [(.int 390)]), (.lst [(.int 395)]), (.lst [(.int 400)]), (.lst [(.int 393), (.int 395)]), (.lst [(.int 398), (.int 405)]), (.lst [(.int 405)]), (.lst [(.int 410)]), (.lst [(.int 415)]), (.lst [(.int 408), (.int 410)]), (.lst [(.int 413), (.int 420)]), (.lst [(.int 420)]), (.lst [(.int 425)]), (.lst [(.int 430)]), (.lst [(.int 423), (.int 425)]), (.lst [(.int 428), (.int 435)]), (.lst [(.int 435)]), (.lst [(.int 440)]), (.lst [(.int 445)]), (.lst [(.int 438), (.int 440)]), (.lst [(.int 443), (.int 450)]), (.lst [(.int 450)]), (.lst [(.int 455)]), (.lst [(.int 460)]), (.lst [(.int 453), (.int 455)]), (.lst [(.int 458), (.int 465)]), (.lst [(.int 465)]), (.lst [(.int 470)]), (.lst [(.int 475)]), (.lst [(.int 468), (.int 470)]), (.lst [(.int 473), (.int 480)]), (.lst [(.int 480)]), (.lst [(.int 485)]), (.lst [(.int 490)]), (.lst [(.int 483), (.int 485)]), (.lst [(.int 488), (.int 495)]), (.lst [(.int 495)]), (.lst [(.int 500)]), (.lst [(.int 505)]), (.lst [(.int 498), (.int 500)]), (.lst [(.int 503), (.int 510)]), (.lst [(.int 510)]), (.lst [(.int 515)]), (.lst [(.int 520)]), (.lst [(.int 513), (.int 515)]), (.lst [(.int 518), (.int 525)]), (.lst [(.int 525)]), (.lst [(.int 530)]), (.lst [(.int 535)]), (.lst [(.int 528), (.int 530)]), (.lst [(.int 533), (.int 540)]), (.lst [(.int 540)]), (.lst [(.int 545)]), (.lst [(.int 550)]), (.lst [(.int 543), (.int 545)]), (.lst [(.int 548), (.int 555)]), (.lst [(.int 555)]), (.lst [(.int 560)]), (.lst [(.int 565)]), (.lst [(.int 558), (.int 560)]), (.lst [(.int 563), (.int 570)]), (.lst [(.int 570)]), (.lst [(.int 575)]), (.lst [(.int 580)]), (.lst [(.int 573), (.int 575)]), (.lst [(.int 578), (.int 585)]), (.lst [(.int 585)]), (.lst [(.int 590)]), (.lst [(.int 595)]), (.lst [(.int 588), (.int 590)]), (.lst [(.int 593), (.int 600)])]
def EB5 : J.Env := [some (.tup [(.tup [(.int 0), (.int 1), (.int 2), (.int 3), (.int 1)])]), some (.tup [(.int 3), (.int 2)]), some (.tup [(.int 5), (.int 3)]), some (.int 60), some (.lst [(.lst []), (.lst [(.int 0)])]), some (.lst [(.loc 0), (.loc 1)]), some (.int 1), some (.int 99), some (.loc 251), some (.int 0), some (.int 0), some (.int 149), none]
def SB5 : List D := [(.lst [(.int 0), (.int 5), (.int 10), (.int 15), (.int 20), (.int 25), (.int 30), (.int 35), (.int 40), (.int 45), (.int 50), (.int 55), (.int 60), (.int 65), (.int 70), (.int 75), (.int 80), (.int 85), (.int 90), (.int 95), (.int 100), (.int 105), (.int 110), (.int 115), (.int 120), (.int 125), (.int 130), (.int 135), (.int 140), (.int 145), (.int 150), (.int 155), (.int 160), (.int 165), (.int 170), (.int 175), (.int 180), (.int 185), (.int 190), (.int 195), (.int 200), (.int 205), (.int 210), (.int 215), (.int 220), (.int 225), (.int 230), (.int 235), (.int 240), (.int 245), (.int 250), (.int 255), (.int 260), (.int 265), (.int 270), (.int 275), (.int 280), (.int 285), (.int 290), (.int 295), (.int 300), (.int 305), (.int 310), (.int 315), (.int 320), (.int 325), (.int 330), (.int 335), (.int 340), (.int 345), (.int 350), (.int 355), (.int 360), (.int 365), (.int 370), (.int 375), (.int 380), (.int 385), (.int 390), (.int 395), (.int 400), (.int 405), (.int 410), (.int 415), (.int 420), (.int 425), (.int 430), (.int 435), (.int 440), (.int 445), (.int 450), (.int 455), (.int 460), (.int 465), (.int 470), (.int 475), (.int 480), (.int 485), (.int 490), (.int 495), (.int 500), (.int 505), (.int 510), (.int 515), (.int 520), (.int 525), (.int 530), (.int 535), (.int 540), (.int 545), (.int 550), (.int 555), (.int 560), (.int 565), (.int 570), (.int 575), (.int 580), (.int 585), (.int 590), (.int 595), (.int 600), (.int 605), (.int 610), (.int 615), (.int 620), (.int 625), (.int 630), (.int 635), (.int 640), (.int 645), (.int 650), (.int 655), (.int 660), (.int 665), (.int 670), (.int 675), (.int 680), (.int 685), (.int 690), (.int 695), (.int 700), (.int 705), (.int 710), (.int 715), (.int 720), (.int 725), (.int 730), (.int 735), (.int 740), (.int 745)]), (.lst [(.int 5), (.int 15), (.int 20), (.int 30), (.int 35), (.int 45), (.int 50), (.int 60), (.int 65), (.int 75), (.int 80), (.int 90), (.int 95), (.int 105), (.int 110), (.int 120), (.int 125), (.int 135), (.int 140), (.int 150), (.int 155), (.int 165), (.int 170), (.int 180), (.int 185), (.int 195), (.int 200), (.int 210), (.int 215), (.int 225), (.int 230), (.int 240), (.int 245), (.int 255), (.int 260), (.int 270), (.int 275), (.int 285), (.int 290), (.int 300), (.int 305), (.int 315), (.int 320), (.int 330), (.int 335), (.int 345), (.int 350), (.int 360), (.int 365), (.int 375), (.int 380), (.int 390), (.int 395), (.int 405), (.int 410), (.int 420), (.int 425), (.int 435), (.int 440), (.int 450), (.int 455), (.int 465), (.int 470), (.int 480), (.int 485), (.int 495), (.int 500), (.int 510), (.int 515), (.int 525), (.int 530), (.int 540), (.int 545), (.int 555), (.int 560), (.int 570), (.int 575), (.int 585), (.int 590), (.int 600), (.int 605), (.int 615), (.int 620), (.int 630), (.int 635), (.int 645), (.int 650), (.int 660), (.int 665), (.int 675), (.int 680), (.int 690), (.int 695), (.int 705), (.int 710), (.int 720), (.int 725), (.int 735), (.int 740), (.int 750)]), (.lst [(.int 0)]), (.lst [(.int 5)]), (.lst [(.int 10)]), (.lst [(.int 0), (.int 5)]), (.lst [(.int 8), (.int 15)]), (.lst [(.int 15)]), (.lst [(.int 20)]), (.lst [(.int 25)]), (.lst [(.int 18), (.int 20)]), (.lst [(.int 23), (.int 30)]), (.lst [(.int 30)]), (.lst [(.int 35)]), (.lst [(.int 40)]), (.lst [(.int 33), (.int 35)]), (.lst [(.int 38), (.int 45)]), (.lst [(.int 45)]), (.lst [(.int 50)]), (.lst [(.int 55)]), (.lst [(.int 48), (.int 50)]), (.lst [(.int 53), (.int 60)]), (.lst [(.int 60)]), (.lst [(.int 65)]), (.lst [(.int 70)]), (.lst [(.int 63), (.int 65)]), (.lst [(.int 68), (.int 75)]), (.lst [(.int 75)]), (.lst [(.int 80)]), (.lst [(.int 85)]), (.lst [(.int 78), (.int 80)]), (.lst [(.int 83), (.int 90)]), (.lst [(.int 90)]), (.lst [(.int 95)]), (.lst [(.int 100)]), (.lst [(.int 93), (.int 95)]), (.lst [(.int 98), (.int 105)]), (.lst [(.int 105)]), (.lst [(.int 110)]), (.lst [(.int 115)]), (.lst [(.int 108), (.int 110)]), (.lst [(.int 113), (.int 120)]), (.lst [(.int 120)]), (.lst [(.int 125)]), (.lst [(.int 130)]), (.lst [(.int 123), (.int 125)]), (.lst [(.int 128), (.int 135)]), (.lst [(.int 135)]), (.lst [(.int 140)]), (.lst [(.int 145)]), (.lst [(.int 138), (.int 140)]), (.lst [(.int 143), (.int 150)]), (.lst [(.int 150)]), (.lst [(.int 155)]), (.lst [(.int 160)]), (.lst [(.int 153), (.int 155)]), (.lst [(.int 158), (.int 165)]), (.lst [(.int 165)]), (.lst [(.int 170)]), (.lst [(.int 175)]), (.lst [(.int 168), (.int 170)]), (.lst [(.int 173), (.int 180)]), (.lst [(.int 180)]), (.lst [(.int 185)]), (.lst [(.int 190)]), (.lst [(.int 183), (.int 185)]), (.lst [(.int 188), (.int 195)]), (.lst [(.int 195)]), (.lst [(.int 200)]), (.lst [(.int 205)]), (.lst [(.int 198), (.int 200)]), (.lst [(.int 203), (.int 210)]), (.lst [(.int 210)]), (.lst [(.int 215)]), (.lst [(.int 220)]), (.lst [(.int 213), (.int 215)]), (.lst [(.int 218), (.int 225)]), (.lst [(.int 225)]), (.lst [(.int 230)]), (.lst [(.int 235)]), (.lst [(.int 228), (.int 230)]), (.lst [(.int 233), (.int 240)]), (.lst [(.int 240)]), (.lst [(.int 245)]), (.lst [(.int 250)]), (.lst [(.int 243), (.int 245)]), (.lst [(.int 248), (.int 255)]), (.lst [(.int 255)]), (.lst [(.int 260)]), (.lst [(.int 265)]), (.lst [(.int 258), (.int 260)]), (.lst [(.int 263), (.int 270)]), (.lst [(.int 270)]), (.lst [(.int 275)]), (.lst [(.int 280)]), (.lst [(.int 273), (.int 275)]), (.lst [(.int 278), (.int 285)]), (.lst [(.int 285)]), (.lst [(.int 290)]), (.lst [(.int 295)]), (.lst [(.int 288), (.int 290)]), (.lst [(.int 293), (.int 300)]), (.lst [(.int 300)]), (.lst [(.int 305)]), (.lst [(.int 310)]), (.lst [(.int 303), (.int 305)]), (.lst [(.int 308), (.int 315)]), (.lst [(.int 315)]), (.lst [(.int 320)]), (.lst [(.int 325)]), (.lst [(.int 318), (.int 320)]), (.lst [(.int 323), (.int 330)]), (.lst [(.int 330)]), (.lst [(.int 335)]), (.lst [(.int 340)]), (.lst [(.int 333), (.int 335)]), (.lst [(.int 338), (.int 345)]), (.lst [(.int 345)]), (.lst [(.int 350)]), (.lst [(.int 355)]), (.lst [(.int 348), (.int 350)]), (.lst [(.int 353), (.int 360)]), (.lst [(.int 360)]), (.lst [(.int 365)]), (.lst [(.int 370)]), (.lst [(.int 363), (.int 365)]), (.lst [(.int 368), (.int 375)]), (.lst [(.int 375)]), (.lst [(.int 380)]), (.lst [(.int 385)]), (.lst [(.int 378), (.int 380)]), (.lst [(.int 383), (.int 390)]), (.lst [(.int 390)]), (.lst [(.int 395)]), (.lst [(.int 400)]), (.lst [(.int 393), (.int 395)]), (.lst [(.int 398), (.int 405)]), (.lst [(.int 405)]), (.lst [(.int 410)]), (.lst [(.int 415)]), (.lst [(.int 408), (.int 410)]), (.lst [(.int 413), (.int 420)]), (.lst [(.int 420)]), (.lst [(.int 425)]), (.lst [(.int 430)]), (.lst [(.int 423), (.int 425)]), (.lst [(.int 428), (.int 435)]), (.lst [(.int 435)]), (.lst [(.int 440)]), (.lst [(.int 445)]), (.lst [(.int 438), (.int 440)]), (.lst [(.int 443), (.int 450)]), (.lst [(.int 450)]), (.lst [(.int 455)]), (.lst [(.int 460)]), (.lst [(.int 453), (.int 455)]), (.lst [(.int 458), (.int 465)]), (.lst [(.int 465)]), (.lst [(.int 470)]), (.lst [(.int 475)]), (.lst [(.int 468), (.int 470)]), (.lst [(.int 473), (.int 480)]), (.lst [(.int 480)]), (.lst [(.int 485)]), (.lst [(.int 490)]), (.lst [(.int 483), (.int 485)]), (.lst [(.int 488), (.int 495)]), (.lst [(.int 495)]), (.lst [(.int 500)]), (.lst [(.int 505)]), (.lst [(.int 498), (.int 500)]), (.lst [(.int 503), (.int 510)]), (.lst [(.int 510)]), (.lst [(.int 515)]), (.lst [(.int 520)]), (.lst [(.int 513), (.int 515)]), (.lst [(.int 518), (.int 525)]), (.lst [(.int 525)]), (.lst [(.int 530)]), (.lst [(.int 535)]), (.lst [(.int 528), (.int 530)]), (.lst [(.int 533), (.int 540)]), (.lst [(.int 540)]), (.lst [(.int 545)]), (.lst [(.int 550)]), (.lst [(.int 543), (.int 545)]), (.lst [(.int 548), (.int 555)]), (.lst [(.int 555)]), (.lst [(.int 560)]), (.lst [(.int 565)]), (.lst [(.int 558), (.int 560)]), (.lst [(.int 563), (.int 570)]), (.lst [(.int 570)]), (.lst [(.int 575)]), (.lst [(.int 580)]), (.lst [(.int 573), (.int 575)]), (.lst [(.int 578), (.int 585)]), (.lst [(.int 585)]), (.lst [(.int 590)]), (.lst [(.int 595)]), (.lst [(.int 588), (.int 590)]), (.lst [(.int 593), (.int 600)]), (.lst [(.int 600)]), (.lst [(.int 605)]), (.lst [(.int 610)]), (.lst [(.int 603), (.int 605)]), (.lst [(.int 608), (.int 615)]), (.lst [(.int 615)]), (.lst [(.int 620)]), (.lst [(.int 625)]), (.lst [(.int 618), (.int 620)]), (.lst [(.int 623), (.int 630)]), (.lst [(.int 630)]), (.lst [(.int 635)]), (.lst [(.int 640)]), (.lst [(.int 633), (.int 635)]), (.lst [(.int 638), (.int 645)]), (.lst [(.int 645)]), (.lst [(.int 650)]), (.lst [(.int 655)]), (.lst [(.int 648), (.int 650)]), (.lst [(.int 653), (.int 660)]), (.lst [(.int 660)]), (.lst [(.int 665)]), (.lst [(.int 670)]), (.lst [(.int 663), (.int 665)]), (.lst [(.int 668), (.int 675)]), (.lst [(.int 675)]), (.lst [(.int 680)]), (.lst [(.int 685)]), (.lst [(.int 678), (.int 680)]), (.lst [(.int 683), (.int 690)]), (.lst [(.int 690)]), (.lst [(.int 695)]), (.lst [(.int 700)]), (.lst [(.int 693), (.int 695)]), (.lst [(.int 698), (.int 705)]), (.lst [(.int 705)]), (.lst [(.int 710)]), (.lst [(.int 715)]), (.lst [(.int 708), (.int 710)]), (.lst [(.int 713), (.int 720)]), (.lst [(.int 720)]), (.lst [(.int 725)]), (.lst [(.int 730)]), (.lst [(.int 723), (.int 725)]), (.lst [(.int 728), (.int 735)]), (.lst [(.int 735)]), (.lst [(.int 740)]), (.lst [(.int 745)]), (.lst [(.int 738), (.int 740)]), (.lst [(.int 743), (.int 750)])]
def EB6 : J.Env := [some (.tup [(.tup [(.int 0), (.int 1), (.int 2), (.int 3), (.int 1)])]), some (.tup [(.int 3), (.int 2)]), some (.tup [(.int 5), (.int 3)]), some (.int 60), some (.lst [(.lst []), (.lst [(.int 0)])]), some (.lst [(.loc 0), (.loc 1)]), some (.int 1), some (.int 119), some (.loc 301), some (.int 0), some (.int 0), some (.int 179), none]
def SB6 : List D := [(.lst [(.int 0), (.int 5), (.int 10), (.int 15), (.int 20), (.int 25), (.int 30), (.int 35), (.int 40), (.int 45), (.int 50), (.int 55), (.int 60), (.int 65), (.int 70), (.int 75), (.int 80), (.int 85), (.int 90), (.int 95), (.int 100), (.int 105), (.int 110), (.int 115), (.int 120), (.int 125), (.int 130), (.int 135), (.int 140), (.int 145), (.int 150), (.int 155), (.int 160), (.int 165), (.int 170), (.int 175), (.int 180), (.int 185), (.int 190), (.int 195), (.int 200), (.int 205), (.int 210), (.int 215), (.int 220), (.int 225), (.int 230), (.int 235), (.int 240), (.int 245), (.int 250), (.int 255), (.int 260), (.int 265), (.int 270), (.int 275), (.int 280), (.int 285), (.int 290), (.int 295), (.int 300), (.int 305), (.int 310), (.int 315), (.int 320), (.int 325), (.int 330), (.int 335), (.int 340), (.int 345), (.int 350), (.int 355), (.int 360), (.int 365), (.int 370), (.int 375), (.int 380), (.int 385), (.int 390), (.int 395), (.int 400), (.int 405), (.int 410), (.int 415), (.int 420), (.int 425), (.int 430), (.int 435), (.int 440), (.int 445), (.int 450), (.int 455), (.int 460), (.int 465), (.int 470), (.int 475), (.int 480), (.int 485), (.int 490), (.int 495), (.int 500), (.int 505), (.int 510), (.int 515), (.int 520), (.int 525), (.int 530), (.int 535), (.int 540), (.int 545), (.int 550), (.int 555), (.int 560), (.int 565), (.int 570), (.int 575), (.int 580), (.int 585), (.int 590), (.int 595), (.int 600), (.int 605), (.int 610), (.int 615), (.int 620), (.int 625), (.int 630), (.int 635), (.int 640), (.int 645), (.int 650), (.int 655), (.int 660), (.int 665), (.int 670), (.int 675), (.int 680), (.int 685), (.int 690), (.int 695), (.int 700), (.int 705), (.int 710), (.int 715), (.int 720), (.int 725), (.int 730), (.int 735), (.int 740), (.int 745), (.int 750), (.int 755), (.int 760), (.int 765), (.int 770), (.int 775), (.int 780), (.int 785), (.int 790), (.int 795), (.int 800), (.int 805), (.int 810), (.int 815), (.int 820), (.int 825), (.int 830), (.int 835), (.int 840), (.int 845), (.int 850), (.int 855), (.int 860), (.int 865), (.int 870), (.int 875), (.int 880), (.int 885), (.int 890), (.int 895)]), (.lst [(.int 5), (.int 15), (.int 20), (.int 30), (.int 35), (.int 45), (.int 50), (.int 60), (.int 65), (.int 75), (.int 80), (.int 90), (.int 95), (.int 105), (.int 110), (.int 120), (.int 125), (.int 135), (.int 140), (.int 150), (.int 155), (.int 165), (.int 170), (.int 180), (.int 185), (.int 195), (.int 200), (.int 210), (.int 215), (.int 225), (.int 230), (.int 240), (.int 245), (.int 255), (.int 260), (.int 270), (.int 275), (.int 285), (.int 290), (.int 300), (.int 305), (.int 315), (.int 320), (.int 330), (.int 335), (.int 345), (.int 350), (.int 360), (.int 365), (.int 375), (.int 380), (.int 390), (.int 395), (.int 405), (.int 410), (.int 420), (.int 425), (.int 435), (.int 440), (.int 450), (.int 455), (.int 465), (.int 470), (.int 480), (.int 485), (.int 495), (.int 500), (.int 510), (.int 515), (.int 525), (.int 530), (.int 540), (.int 545), (.int 555), (.int 560), (.int 570), (.int 575), (.int 585), (.int 590), (.int 600), (.int 605), (.int 615), (.int 620), (.int 630), (.int 635), (.int 645), (.int 650), (.int 660), (.int 665), (.int 675), (.int 680), (.int 690), (.int 695), (.int 705), (.int 710), (.int 720), (.int 725), (.int 735), (.int 740), (.int 750), (.int 755), (.int 765), (.int 770), (.int 780), (.int 785), (.int 795), (.int 800), (.int 810), (.int 815), (.int 825), (.int 830), (.int 840), (.int 845), (.int 855), (.int 860), (.int 870), (.int 875), (.int 885), (.int 890), (.int 900)]), (.lst [(.int 0)]), (.lst [(.int 5)]), (.lst [(.int 10)]), (.lst [(.int 0), (.int 5)]), (.lst [(.int 8), (.int 15)]), (.lst [(.int 15)]), (.lst [(.int 20)]), (.lst [(.int 25)]), (.lst [(.int 18), (.int 20)]), (.lst [(.int 23), (.int 30)]), (.lst [(.int 30)]), (.lst [(.int 35)]), (.lst [(.int 40)]), (.lst [(.int 33), (.int 35)]), (.lst [(.int 38), (.int 45)]), (.lst [(.int 45)]), (.lst [(.int 50)]), (.lst [(.int 55)]), (.lst [(.int 48), (.int 50)]), (.lst [(.int 53), (.int 60)]), (.lst [(.int 60)]), (.lst [(.int 65)]), (.lst [(.int 70)]), (.lst [(.int 63), (.int 65)]), (.lst [(.int 68), (.int 75)]), (.lst [(.int 75)]), (.lst [(.int 80)]), (.lst [(.int 85)]), (.lst [(.int 78), (.int 80)]), (.lst [(.int 83), (.int 90)]), (.lst [(.int 90)]), (.lst [(.int 95)]), (.lst [(.int 100)]), (.lst [(.int 93), (.int 95)]), (.lst [(.int 98), (.int 105)]), (.lst [(.int 105)]), (.lst [(.int 110)]), (.lst [(.int 115)]), (.lst [(.int 108), (.int 110)]), (.lst [(.int 113), (.int 120)]), (.lst [(.int 120)]), (.lst [(.int 125)]), (.lst [(.int 130)]), (.lst [(.int 123), (.int 125)]), (.lst [(.int 128), (.int 135)]), (.lst [(.int 135)]), (.lst [(.int 140)]), (.lst [(.int 145)]), (.lst [(.int 138), (.int 140)]), (.lst [(.int 143), (.int 150)]), (.lst [(.int 150)]), (.lst [(.int 155)]), (.lst [(.int 160)]), (.lst [(.int 153), (.int 155)]), (.lst [(.int 158), (.int 165)]), (.lst [(.int 165)]), (.lst [(.int 170)]), (.lst [(.int 175)]), (.lst [(.int 168), (.int 170)]), (.lst [(.int 173), (.int 180)]), (.lst [(.int 180)]), (.lst [(.int 185)]), (.lst [(.int 190)]), (.lst [(.int 183), (.int 185)]), (.lst [(.int 188), (.int 195)]), (.lst [(.int 195)]), (.lst [(.int 200)]), (.lst [(.int 205)]), (.lst [(.int 198), (.int 200)]), (.lst [(.int 203), (.int 210)]), (.lst [(.int 210)]), (.lst [(.int 215)]), (.lst [(.int 220)]), (.lst [(.int 213), (.int 215)]), (.lst [(.int 218), (.int 225)]), (.lst [(.int 225)]), (.lst [(.int 230)]), (.lst [(.int 235)]), (.lst [(.int 228), (.int 230)]), (.lst [(.int 233), (.int 240)]), (.lst [(.int 240)]), (.lst [(.int 245)]), (.lst [(.int 250)]), (.lst [(.int 243), (.int 245)]), (.lst [(.int 248), (.int 255)]), (.lst [(.int 255)]), (.lst [(.int 260)]), (.lst [(.int 265)]), (.lst [(.int 258), (.int 260)]), (.lst [(.int 263), (.int 270)]), (.lst [(.int 270)]), (.lst [(.int 275)]), (.lst [(.int 280)]), (.lst [(.int 273), (.int 275)]), (.lst [(.int 278), (.int 285)]), (.lst [(.int 285)]), (.lst [(.int 290)]), (.lst [(.int 295)]), (.lst [(.int 288), (.int 290)]), (.lst [(.int 293), (.int 300)]), (.lst [(.int 300)]), (.lst [(.int 305)]), (.lst [(.int 310)]), (.lst [(.int 303), (.int 305)]), (.lst [(.int 308), (.int 315)]), (.lst [(.int 315)]), (.lst [(.int 320)]), (.lst [(.int 325)]), (.lst [(.int 318), (.int 320)]), (.lst [(.int 323), (.int 330)]), (.lst [(.int 330)]), (.lst [(.int 335)]), (.lst [(.int 340)]), (.lst [(.int 333), (.int 335)]), (.lst [(.int 338), (.int 345)]), (.lst [(.int 345)]), (.lst [(.int 350)]), (.lst [(.int 355)]), (.lst [(.int 348), (.int 350)]), (.lst [(.int 353), (.int 360)]), (.lst [(.int 360)]), (.lst [(.int 365)]), (.lst [(.int 370)]), (.lst [(.int 363), (.int 365)]), (.lst [(.int 368), (.int 375)]), (.lst [(.int 375)]), (.lst [(.int 380)]), (.lst [(.int 385)]), (.lst [(.int 378), (.int 380)]), (.lst [(.int 383), (.int 390)]), (.lst [(.int 390)]), (.lst [(.int 395)]), (.lst [(.int 400)]), (.lst [(.int 393), (.int 395)]), (.lst [(.int 398), (.int 405)]), (.lst [(.int 405)]), (.lst [(.int 410)]), (.lst [(.int 415)]), (.lst [(.int 408), (.int 410)]), (.lst [(.int 413), (.int 420)]), (.lst [(.int 420)]), (.lst [(.int 425)]), (.lst [(.int 430)]), (.lst [(.int 423), (.int 425)]), (.lst [(.int 428), (.int 435)]), (.lst [(.int 435)]), (.lst [(.int 440)]), (.lst [(.int 445)]), (.lst [(.int 438), (.int 440)]), (.lst [(.int 443), (.int 450)]), (.lst [(.int 450)]), (.lst [(.int 455)]), (.lst [(.int 460)]), (.lst [(.int 453), (.int 455)]), (.lst [(.int 458), (.int 465)]), (.lst [(.int 465)]), (.lst [(.int 470)]), (.lst [(.int 475)]), (.lst [(.int 468), (.int 470)]), (.lst [(.int 473), (.int 480)]), (.lst [(.int 480)]), (.lst [(.int 485)]), (.lst [(.int 490)]), (.lst [(.int 483), (.int 485)]), (.lst [(.int 488), (.int 495)]), (.lst [(.int 495)]), (.lst [(.int 500)]), (.lst [(.int 505)]), (.lst [(.int 498), (.int 500)]), (.lst [(.int 503), (.int 510)]), (.lst [(.int 510)]), (.lst [(.int 515)]), (.lst [(.int 520)]), (.lst [(.int 513), (.int 515)]), (.lst [(.int 518), (.int 525)]), (.lst [(.int 525)]), (.lst [(.int 530)]), (.lst [(.int 535)]), (.lst [(.int 528), (.int 530)]), (.lst [(.int 533), (.int 540)]), (.lst [(.int 540)]), (.lst [(.int 545)]), (.lst [(.int 550)]), (.lst [(.int 543), (.int 545)]), (.lst [(.int 548), (.int 555)]), (.lst [(.int 555)]), (.lst [(.int 560)]), (.lst [(.int 565)]), (.lst [(.int 558), (.int 560)]), (.lst [(.int 563), (.int 570)]), (.lst [(.int 570)]), (.lst [(.int 575)]), (.lst [(.int 580)]), (.lst [(.int 573), (.int 575)]), (.lst [(.int 578), (.int 585)]), (.lst [(.int 585)]), (.lst [(.int 590)]), (.lst [(.int 595)]), (.lst [(.int 588), (.int 590)]), (.lst [(.int 593), (.int 600)]), (.lst [(.int 600)]), (.lst [(.int 605)]), (.lst [(.int 610)]), (.lst [(.int 603), (.int 605)]), (.lst [(.int 608), (.int 615)]), (.lst [(.int 615)]), (.lst [(.int 620)]), (.lst [(.int 625)]), (.lst [(.int 618), (.int 620)]), (.lst [(.int 623), (.int 630)]), (.lst [(.int 630)]), (.lst [(.int 635)]), (.lst [(.int 640)]), (.lst [(.int 633), (.int 635)]), (.lst [(.int 638), (.int 645)]), (.lst [(.int 645)]), (.lst [(.int 650)]), (.lst [(.int 655)]), (.lst [(.int 648), (.int 650)]), (.lst [(.int 653), (.int 660)]), (.lst [(.int 660)]), (.lst [(.int 665)]), (.lst [(.int 670)]), (.lst [(.int 663), (.int 665)]), (.lst [(.int 668), (.int 675)]), (.lst [(.int 675)]), (.lst [(.int 680)]), (.lst [(.int 685)]), (.lst [(.int 678), (.int 680)]), (.lst [(.int 683), (.int 690)]), (.lst [(.int 690)]), (.lst [(.int 695)]), (.lst [(.int 700)]), (.lst [(.int 693), (.int 695)]), (.lst [(.int 698), (.int 705)]), (.lst [(.int 705)]), (.lst [(.int 710)]), (.lst [(.int 715)]), (.lst [(.int 708), (.int 710)]), (.lst [(.int 713), (.int 720)]), (.lst [(.int 720)]), (.lst [(.int 725)]), (.lst [(.int 730)]), (.lst [(.int 723), (.int 725)]), (.lst [(.int 728), (.int 735)]), (.lst [(.int 735)]), (.lst [(.int 740)]), (.lst [(.int 745)]), (.lst [(.int 738), (.int 740)]), (.lst [(.int 743), (.int 750)]), (.lst [(.int 750)]), (.lst [(.int 755)]), (.lst [(.int 760)]), (.lst [(.int 753), (.int 755)]), (.lst [(.int 758), (.int 765)]), (.lst [(.int 765)]), (.lst [(.int 770)]), (.lst [(.int 775)]), (.lst [(.int 768), (.int 770)]), (.lst [(.int 773), (.int 780)]), (.lst [(.int 780)]), (.lst [(.int 785)]), (.lst [(.int 790)]), (.lst [(.int 783), (.int 785)]), (.lst [(.int 788), (.int 795)]), (.lst [(.int 795)]), (.lst [(.int 800)]), (.lst [(.int 805)]), (.lst [(.int 798), (.int 800)]), (.lst [(.int 803), (.int 810)]), (.lst [(.int 810)]), (.lst [(.int 815)]), (.lst [(.int 820)]), (.lst [(.int 813), (.int 815)]), (.lst [(.int 818), (.int 825)]), (.lst [(.int 825)]), (.lst [(.int 830)]), (.lst [(.int 835)]), (.lst [(.int 828), (.int 830)]), (.lst [(.int 833), (.int 840)]), (.lst [(.int 840)]), (.lst [(.int 845)]), (.lst [(.int 850)]), (.lst [(.int 843), (.int 845)]), (.lst [(.int 848), (.int 855)]), (.lst [(.int 855)]), (.lst [(.int 860)]), (.lst [(.int 865)]), (.lst [(.int 858), (.int 860)]), (.lst [(.int 863), (.int 870)]), (.lst [(.int 870)]), (.lst [(.int 875)]), (.lst [(.int 880)]), (.lst [(.int 873), (.int 875)]), (.lst [(.int 878), (.int 885)]), (.lst [(.int 885)]), (.lst [(.int 890)]), (.lst [(.int 895)]), (.lst [(.int 888), (.int 890)]), (.lst [(.int 893), (.int 900)])]
theorem chB0 : chunkN (.its WD) (.nm 6) B3_p_starts 50 0 EB0 SB0 = some (EB1, SB1) := by kernel_rfl
theorem chB1 : chunkN (.its WD) (.nm 6) B3_p_starts 50 50 EB1 SB1 = some (EB2, SB2) := by kernel_rfl
theorem chB2 : chunkN (.its WD) (.nm 6) B3_p_starts 50 100 EB2 SB2 = some (EB3, SB3) := by kernel_rfl
theorem chB3 : chunkN (.its WD) (.nm 6) B3_p_starts 50 150 EB3 SB3 = some (EB4, SB4) := by kernel_rfl
theorem chB4 : chunkN (.its WD) (.nm 6) B3_p_starts 50 200 EB4 SB4 = some (EB5, SB5) := by kernel_rfl
theorem chB5 : chunkN (.its WD) (.nm 6) B3_p_starts 50 250 EB5 SB5 = some (EB6, SB6) := by kernel_rfl
theorem lpB : forGoN (.its WD) (.nm 6) B3_p_starts 300 0 EB0 SB0 = .nx EB6 SB6 := by
  refine (goN_add 50 250 0 _ _ _ _ chB0).trans ?_
  refine (goN_add 50 200 50 _ _ _ _ chB1).trans ?_
  refine (goN_add 50 150 100 _ _ _ _ chB2).trans ?_
  refine (goN_add 50 100 150 _ _ _ _ chB3).trans ?_
  refine (goN_add 50 50 200 _ _ _ _ chB4).trans ?_
  refine (goN_add 50 0 250 _ _ _ _ chB5).trans ?_
  kernel_rfl
def STB : D := (.lst [(.lst [(.int 0), (.int 5), (.int 10), (.int 15), (.int 20), (.int 25), (.int 30), (.int 35), (.int 40), (.int 45), (.int 50), (.int 55), (.int 60), (.int 65), (.int 70), (.int 75), (.int 80), (.int 85), (.int 90), (.int 95), (.int 100), (.int 105), (.int 110), (.int 115), (.int 120), (.int 125), (.int 130), (.int 135), (.int 140), (.int 145), (.int 150), (.int 155), (.int 160), (.int 165), (.int 170), (.int 175), (.int 180), (.int 185), (.int 190), (.int 195), (.int 200), (.int 205), (.int 210), (.int 215), (.int 220), (.int 225), (.int 230), (.int 235), (.int 240), (.int 245), (.int 250), (.int 255), (.int 260), (.int 265), (.int 270), (.int 275), (.int 280), (.int 285), (.int 290), (.int 295), (.int 300), (.int 305), (.int 310), (.int 315), (.int 320), (.int 325), (.int 330), (.int 335), (.int 340), (.int 345), (.int 350), (.int 355), (.int 360), (.int 365), (.int 370), (.int 375), (.int 380), (.int 385), (.int 390), (.int 395), (.int 400), (.int 405), (.int 410), (.int 415), (.int 420), (.int 425), (.int 430), (.int 435), (.int 440), (.int 445), (.int 450), (.int 455), (.int 460), (.int 465), (.int 470), (.int 475), (.int 480), (.int 485), (.int 490), (.int 495), (.int 500), (.int 505), (.int 510), (.int 515), (.int 520), (.int 525), (.int 530), (.int 535), (.int 540), (.int 545), (.int 550), (.int 555), (.int 560), (.int 565), (.int 570), (.int 575), (.int 580), (.int 585), (.int 590), (.int 595), (.int 600), (.int 605), (.int 610), (.int 615), (.int 620), (.int 625), (.int 630), (.int 635), (.int 640), (.int 645), (.int 650), (.int 655), (.int 660), (.int 665), (.int 670), (.int 675), (.int 680), (.int 685), (.int 690), (.int 695), (.int 700), (.int 705), (.int 710), (.int 715), (.int 720), (.int 725), (.int 730), (.int 735), (.int 740), (.int 745), (.int 750), (.int 755), (.int 760), (.int 765), (.int 770), (.int 775), (.int 780), (.int 785), (.int 790), (.int 795), (.int 800), (.int 805), (.int 810), (.int 815), (.int 820), (.int 825), (.int 830), (.int 835), (.int 840), (.int 845), (.int 850), (.int 855), (.int 860), (.int 865), (.int 870), (.int 875), (.int 880), (.int 885), (.int 890), (.int 895)]), (.lst [(.int 5), (.int 15), (.int 20), (.int 30), (.int 35), (.int 45), (.int 50), (.int 60), (.int 65), (.int 75), (.int 80), (.int 90), (.int 95), (.int 105), (.int 110), (.int 120), (.int 125), (.int 135), (.int 140), (.int 150), (.int 155), (.int 165), (.int 170), (.int 180), (.int 185), (.int 195), (.int 200), (.int 210), (.int 215), (.int 225), (.int 230), (.int 240), (.int 245), (.int 255), (.int 260), (.int 270), (.int 275), (.int 285), (.int 290), (.int 300), (.int 305), (.int 315), (.int 320), (.int 330), (.int 335), (.int 345), (.int 350), (.int 360), (.int 365), (.int 375), (.int 380), (.int 390), (.int 395), (.int 405), (.int 410), (.int 420), (.int 425), (.int 435), (.int 440), (.int 450), (.int 455), (.int 465), (.int 470), (.int 480), (.int 485), (.int 495), (.int 500), (.int 510), (.int 515), (.int 525), (.int 530), (.int 540), (.int 545), (.int 555), (.int 560), (.int 570), (.int 575), (.int 585), (.int 590), (.int 600), (.int 605), (.int 615), (.int 620), (.int 630), (.int 635), (.int 645), (.int 650), (.int 660), (.int 665), (.int 675), (.int 680), (.int 690), (.int 695), (.int 705), (.int 710), (.int 720), (.int 725), (.int 735), (.int 740), (.int 750), (.int 755), (.int 765), (.int 770), (.int 780), (.int 785), (.int 795), (.int 800), (.int 810), (.int 815), (.int 825), (.int 830), (.int 840), (.int 845), (.int 855), (.int 860), (.int 870), (.int 875), (.int 885), (.int 890), (.int 900)])])
theorem retB : kFn 0 (.rt (.lst [.loc 0, .loc 1]) SB6) = .ok STB [] := by kernel_rfl
theorem m1B : (sSet 4 (eArgs (callF F_p_pipes_at) (aCons (eVar 0) (aCons (eC (.int 1)) (aCons (eArgs bLen (aCons (eVar 1) aNil)) aNil))))) [some (.tup [.tup [.int 0, .int 1, .int 2, .int 3, .int 1]]), some (.tup [.int 3, .int 2]), some (.tup [.int 5, .int 3]), some (.int 60), none, none, none, none, none, none, none, none, none] [] = .nx [some (.tup [.tup [.int 0, .int 1, .int 2, .int 3, .int 1]]), some (.tup [.int 3, .int 2]), some (.tup [.int 5, .int 3]), some (.int 60), EB0.getD 4 none, none, none, none, none, none, none, none, none] [] := by kernel_rfl
theorem m2B : (sSet 5 (eLc [12] (.nm 12) (iSeq (eVar 1)) J.tYes V1_p_starts)) [some (.tup [.tup [.int 0, .int 1, .int 2, .int 3, .int 1]]), some (.tup [.int 3, .int 2]), some (.tup [.int 5, .int 3]), some (.int 60), EB0.getD 4 none, none, none, none, none, none, none, none, none] [] = .nx EB0 SB0 := by kernel_rfl
theorem m3B : iSeq (eOp oMulQ (eVar 3) (eArgs (callF F_p_least_word) (aCons (eVar 0) (aCons (eVar 1) aNil)))) EB0 SB0 = .ok (.its WD) SB0 := by kernel_rfl
theorem m4B : sRet (eVar 5) EB6 SB6 = .rt (.lst [.loc 0, .loc 1]) SB6 := by kernel_rfl
theorem staB : F_p_starts [(.tup [.tup [.int 0, .int 1, .int 2, .int 3, .int 1]]), (.tup [.int 3, .int 2]), (.tup [.int 5, .int 3]), .int 60] [] = .ok STB [] := by
  unfold F_p_starts S_p_starts
  rw [fn_ev 4 13 _ rfl]
  show kFn 0 (sSeq _ _ [some (.tup [.tup [.int 0, .int 1, .int 2, .int 3, .int 1]]), some (.tup [.int 3, .int 2]), some (.tup [.int 5, .int 3]), some (.int 60), none, none, none, none, none, none, none, none, none] []) = _
  rw [seq_nx m1B, seq_nx m2B, seq_nx (sforN m3B lpB), m4B]
  exact retB
end K51
set_option linter.all false
set_option maxRecDepth 100000
set_option maxHeartbeats 0
namespace K51
open J
theorem set_ev {i : Nat} {a : ME} {E : J.Env} {S S1 : List D} {d : D} (h : a E S = .ok d S1) : sSet i a E S = .nx (E.set i (some d)) S1 := by
  unfold sSet
  rw [h]
  rfl
theorem call_ev {F : MF} {a : MA} {E : J.Env} {xs : List D} {d : D} (h : a E [] = .ok xs []) (hf : D.flats xs = true) (h2 : F xs [] = .ok d []) (hd : d.flat = true) : J.eArgs (callF F) a E [] = .ok d [] := by
  show (a E []).bind (fun xs S1 => callF F xs S1) = _
  rw [h]
  show callF F xs [] = _
  rw [call0 F hf, h2]
  exact kc0 hd
def RRA : D := (.lst [(.lst [(.int 0), (.int 2), (.int 4), (.int 2), (.int 7)]), (.lst [(.int 6), (.int 8), (.int 10), (.int 12), (.int 17)]), (.lst [(.int 12), (.int 14), (.int 16), (.int 22), (.int 27)]), (.lst [(.int 18), (.int 20), (.int 22), (.int 32), (.int 37)]), (.lst [(.int 24), (.int 26), (.int 28), (.int 42), (.int 47)]), (.lst [(.int 30), (.int 32), (.int 34), (.int 52), (.int 57)]), (.lst [(.int 36), (.int 38), (.int 40), (.int 62), (.int 67)]), (.lst [(.int 42), (.int 44), (.int 46), (.int 72), (.int 77)]), (.lst [(.int 48), (.int 50), (.int 52), (.int 82), (.int 87)]), (.lst [(.int 54), (.int 56), (.int 58), (.int 92), (.int 97)]), (.lst [(.int 60), (.int 62), (.int 64), (.int 102), (.int 107)]), (.lst [(.int 66), (.int 68), (.int 70), (.int 112), (.int 117)]), (.lst [(.int 72), (.int 74), (.int 76), (.int 122), (.int 127)]), (.lst [(.int 78), (.int 80), (.int 82), (.int 132), (.int 137)]), (.lst [(.int 84), (.int 86), (.int 88), (.int 142), (.int 147)]), (.lst [(.int 90), (.int 92), (.int 94), (.int 152), (.int 157)]), (.lst [(.int 96), (.int 98), (.int 100), (.int 162), (.int 167)]), (.lst [(.int 102), (.int 104), (.int 106), (.int 172), (.int 177)]), (.lst [(.int 108), (.int 110), (.int 112), (.int 182), (.int 187)]), (.lst [(.int 114), (.int 116), (.int 118), (.int 192), (.int 197)]), (.lst [(.int 120), (.int 122), (.int 124), (.int 202), (.int 207)]), (.lst [(.int 126), (.int 128), (.int 130), (.int 212), (.int 217)]), (.lst [(.int 132), (.int 134), (.int 136), (.int 222), (.int 227)]), (.lst [(.int 138), (.int 140), (.int 142), (.int 232), (.int 237)]), (.lst [(.int 144), (.int 146), (.int 148), (.int 242), (.int 247)]), (.lst [(.int 150), (.int 152), (.int 154), (.int 252), (.int 257)]), (.lst [(.int 156), (.int 158), (.int 160), (.int 262), (.int 267)]), (.lst [(.int 162), (.int 164), (.int 166), (.int 272), (.int 277)]), (.lst [(.int 168), (.int 170), (.int 172), (.int 282), (.int 287)]), (.lst [(.int 174), (.int 176), (.int 178), (.int 292), (.int 297)]), (.lst [(.int 180), (.int 182), (.int 184), (.int 302), (.int 307)]), (.lst [(.int 186), (.int 188), (.int 190), (.int 312), (.int 317)]), (.lst [(.int 192), (.int 194), (.int 196), (.int 322), (.int 327)]), (.lst [(.int 198), (.int 200), (.int 202), (.int 332), (.int 337)]), (.lst [(.int 204), (.int 206), (.int 208), (.int 342), (.int 347)]), (.lst [(.int 210), (.int 212), (.int 214), (.int 352), (.int 357)]), (.lst [(.int 216), (.int 218), (.int 220), (.int 362), (.int 367)]), (.lst [(.int 222), (.int 224), (.int 226), (.int 372), (.int 377)]), (.lst [(.int 228), (.int 230), (.int 232), (.int 382), (.int 387)]), (.lst [(.int 234), (.int 236), (.int 238), (.int 392), (.int 397)]), (.lst [(.int 240), (.int 242), (.int 244), (.int 402), (.int 407)]), (.lst [(.int 246), (.int 248), (.int 250), (.int 412), (.int 417)]), (.lst [(.int 252), (.int 254), (.int 256), (.int 422), (.int 427)]), (.lst [(.int 258), (.int 260), (.int 262), (.int 432), (.int 437)]), (.lst [(.int 264), (.int 266), (.int 268), (.int 442), (.int 447)]), (.lst [(.int 270), (.int 272), (.int 274), (.int 452), (.int 457)]), (.lst [(.int 276), (.int 278), (.int 280), (.int 462), (.int 467)]), (.lst [(.int 282), (.int 284), (.int 286), (.int 472), (.int 477)]), (.lst [(.int 288), (.int 290), (.int 292), (.int 482), (.int 487)]), (.lst [(.int 294), (.int 296), (.int 298), (.int 492), (.int 497)]), (.lst [(.int 300), (.int 302), (.int 304), (.int 502), (.int 507)]), (.lst [(.int 306), (.int 308), (.int 310), (.int 512), (.int 517)]), (.lst [(.int 312), (.int 314), (.int 316), (.int 522), (.int 527)]), (.lst [(.int 318), (.int 320), (.int 322), (.int 532), (.int 537)]), (.lst [(.int 324), (.int 326), (.int 328), (.int 542), (.int 547)]), (.lst [(.int 330), (.int 332), (.int 334), (.int 552), (.int 557)]), (.lst [(.int 336), (.int 338), (.int 340), (.int 562), (.int 567)]), (.lst [(.int 342), (.int 344), (.int 346), (.int 572), (.int 577)]), (.lst [(.int 348), (.int 350), (.int 352), (.int 582), (.int 587)]), (.lst [(.int 354), (.int 356), (.int 358), (.int 592), (.int 597)])])
theorem rrestA : kFn 0 ((sSeq (sSet 4 (eArgs bLstL aNil)) (sSeq (sForN (.nm 5) (iRng1 (eC (.int 60))) B2_p_round_rows) (sRet (eVar 4)))) [some (.tup [.int 2, (.tup [.tup [.int 0, .int 1, .int 2, .int 3, .int 1]])]), some (.tup [.int 3, .int 2]), some (.tup [.int 2, .int 5]), some STA, none, none, none, none, none] []) = .ok RRA [] := by kernel_rfl
theorem rrA : F_p_round_rows [(.tup [.int 2, (.tup [.tup [.int 0, .int 1, .int 2, .int 3, .int 1]])]), (.tup [.int 3, .int 2]), (.tup [.int 2, .int 5])] [] = .ok RRA [] := by
  unfold F_p_round_rows S_p_round_rows
  rw [fn_ev 3 9 _ rfl]
  show kFn 0 (sSeq _ _ [some (.tup [.int 2, (.tup [.tup [.int 0, .int 1, .int 2, .int 3, .int 1]])]), some (.tup [.int 3, .int 2]), some (.tup [.int 2, .int 5]), none, none, none, none, none, none] []) = _
  have h : J.eArgs (callF F_p_starts) (aCons (eOp oIx (eVar 0) (eC (.int 1))) (aCons (eVar 1) (aCons (eVar 2) (aCons (eC (.int 60)) aNil)))) [some (.tup [.int 2, (.tup [.tup [.int 0, .int 1, .int 2, .int 3, .int 1]])]), some (.tup [.int 3, .int 2]), some (.tup [.int 2, .int 5]), none, none, none, none, none, none] [] = .ok STA [] := call_ev (xs := [(.tup [.tup [.int 0, .int 1, .int 2, .int 3, .int 1]]), (.tup [.int 3, .int 2]), (.tup [.int 2, .int 5]), .int 60]) (by kernel_rfl) (by kernel_rfl) staA (by kernel_rfl)
  rw [seq_nx (set_ev h)]
  exact rrestA
theorem q1A : (sSet 2 (eArgs (callF F_p_unrolled_counts) (aCons (eVar 0) aNil))) [some (.tup [.int 2, (.tup [.tup [.int 0, .int 1, .int 2, .int 3, .int 1]])]), some (.tup [.int 2, .int 5]), none, none, none, none, none, none, none, none, none, none] [] = .nx [some (.tup [.int 2, (.tup [.tup [.int 0, .int 1, .int 2, .int 3, .int 1]])]), some (.tup [.int 2, .int 5]), some (.tup [.int 3, .int 2]), none, none, none, none, none, none, none, none, none] [] := by kernel_rfl
theorem q2A : (sExpr (eArgs (callF F_p_check_times) (aCons (eVar 0) (aCons (eVar 1) aNil)))) [some (.tup [.int 2, (.tup [.tup [.int 0, .int 1, .int 2, .int 3, .int 1]])]), some (.tup [.int 2, .int 5]), some (.tup [.int 3, .int 2]), none, none, none, none, none, none, none, none, none] [] = .nx [some (.tup [.int 2, (.tup [.tup [.int 0, .int 1, .int 2, .int 3, .int 1]])]), some (.tup [.int 2, .int 5]), some (.tup [.int 3, .int 2]), none, none, none, none, none, none, none, none, none] [] := by kernel_rfl
def chunkF (src : Src) (t : Tg) (b : MS) (n : Nat) : Nat → Nat → J.Env → List D → Option (J.Env × List D)
  | 0, _, E, S => some (E, S)
  | j + 1, i, E, S => if src.alive S = true then match src.at_ S i with
    | none => none
    | some d => match t.bind d E with
      | none => none
      | some E1 => match b E1 S with
        | .nx E2 S2 => match gcE n E2 S2 with
          | some (E3, S3) => chunkF src t b n j (i + 1) E3 S3
          | none => none
        | _ => none
    else none
theorem goF_add {src : Src} {t : Tg} {b : MS} {n : Nat} : ∀ (j k i : Nat) (E : J.Env) (S : List D) (E1 : J.Env) (S1 : List D), chunkF src t b n j i E S = some (E1, S1) → forGo src t b n (j + k) i E S = forGo src t b n k (i + j) E1 S1
  | 0, k, i, E, S, E1, S1, h => by
    simp only [chunkF, Option.some.injEq, Prod.mk.injEq] at h
    rw [h.1, h.2, Nat.zero_add]
    rfl
  | j + 1, k, i, E, S, E1, S1, h => by
    rw [show j + 1 + k = (j + k) + 1 by omega]
    unfold chunkF at h
    conv => lhs; unfold forGo
    split at h
    · rename_i al
      rw [if_pos al]
      split at h
      · cases h
      · rename_i d hd
        try rw [hd]
        try simp only
        split at h
        · cases h
        · rename_i E2 he
          try rw [he]
          try simp only
          split at h
          · rename_i E3 S3 hb
            try rw [hb]
            try simp only
            split at h
            · rename_i E4 S4 hg
              try rw [hg]
              try simp only
              rw [goF_add j k (i + 1) E4 S4 E1 S1 h]
              rw [show i + 1 + j = i + (j + 1) by omega]
            · cases h
          · cases h
    · cases h
def C0 : J.Env := [some (.tup [(.int 2), (.tup [(.tup [(.int 0), (.int 1), (.int 2), (.int 3), (.int 1)])])]), some (.tup [(.int 2), (.int 5)]), some (.tup [(.int 3), (.int 2)]), some RRA, some (.int 1), none, none, none, none, none, none, none]
def C1 : J.Env := [some (.tup [(.int 2), (.tup [(.tup [(.int 0), (.int 1), (.int 2), (.int 3), (.int 1)])])]), some (.tup [(.int 2), (.int 5)]), some (.tup [(.int 3), (.int 2)]), some RRA, some (.int 1), some (.int 3), some (.lst [.non, .non, .non, .non, .non, .non, .non, .non, .non, .non, .non, .non, .non, .non, .non, .non, .non, .non, .non, .non, .non, .non, .non, .non, .non, .non, .non, .non, .non, .non, .non, .non, .non, .non, .non, .non, .non, .non, .non, .non, .non, .non, .non, .non, .non, .non, .non, .non, .non, .non, .non, .non, .non, .non, .non, .non, .non]), some (.int 56), some .non, none, none, none]
def C2 : J.Env := [some (.tup [(.int 2), (.tup [(.tup [(.int 0), (.int 1), (.int 2), (.int 3), (.int 1)])])]), some (.tup [(.int 2), (.int 5)]), some (.tup [(.int 3), (.int 2)]), some RRA, some (.int 1), some (.int 6), some (.lst [.non, .non, .non, .non, .non, .non, .non, .non, .non, .non, .non, .non, .non, .non, .non, .non, .non, .non, .non, .non, .non, .non, .non, .non, .non, .non, .non, .non, .non, .non, .non, .non, .non, .non, .non, .non, .non, .non, .non, .non, .non, .non, .non, .non, .non, .non, .non, .non, .non, .non, .non, .non, .non, .non]), some (.int 53), some .non, none, none, none]
def C3 : J.Env := [some (.tup [(.int 2), (.tup [(.tup [(.int 0), (.int 1), (.int 2), (.int 3), (.int 1)])])]), some (.tup [(.int 2), (.int 5)]), some (.tup [(.int 3), (.int 2)]), some RRA, some (.int 1), some (.int 9), some (.lst [.non, .non, .non, .non, .non, .non, .non, .non, .non, .non, .non, .non, .non, .non, .non, .non, .non, .non, .non, .non, .non, .non, .non, .non, .non, .non, .non, .non, .non, .non, .non, .non, .non, .non, .non, .non, .non, .non, .non, .non, .non, .non, .non, .non, .non, .non, .non, .non, .non, .non, .non]), some (.int 50), some .non, none, none, none]
def C4 : J.Env := [some (.tup [(.int 2), (.tup [(.tup [(.int 0), (.int 1), (.int 2), (.int 3), (.int 1)])])]), some (.tup [(.int 2), (.int 5)]), some (.tup [(.int 3), (.int 2)]), some RRA, some (.int 1), some (.int 12), some (.lst [.non, .non, .non, .non, .non, .non, .non, .non, .non, .non, .non, .non, .non, .non, .non, .non, .non, .non, .non, .non, .non, .non, .non, .non, .non, .non, .non, .non, .non, .non, .non, .non, .non, .non, .non, .non, .non, .non, .non, .non, .non, .non, .non, .non, .non, .non, .non, .non]), some (.int 47), some .non, none, none, none]
def C5 : J.Env := [some (.tup [(.int 2), (.tup [(.tup [(.int 0), (.int 1), (.int 2), (.int 3), (.int 1)])])]), some (.tup [(.int 2), (.int 5)]), some (.tup [(.int 3), (.int 2)]), some RRA, some (.int 1), some (.int 15), some (.lst [.non, .non, .non, .non, .non, .non, .non, .non, .non, .non, .non, .non, .non, .non, .non, .non, .non, .non, .non, .non, .non, .non, .non, .non, .non, .non, .non, .non, .non, .non, .non, .non, .non, .non, .non, .non, .non, .non, .non, .non, .non, .non, .non, .non, .non]), some (.int 44), some .non, none, none, none]
def C6 : J.Env := [some (.tup [(.int 2), (.tup [(.tup [(.int 0), (.int 1), (.int 2), (.int 3), (.int 1)])])]), some (.tup [(.int 2), (.int 5)]), some (.tup [(.int 3), (.int 2)]), some RRA, some (.int 1), some (.int 18), some (.lst [.non, .non, .non, .non, .non, .non, .non, .non, .non, .non, .non, .non, .non, .non, .non, .non, .non, .non, .non, .non, .non, .non, .non, .non, .non, .non, .non, .non, .non, .non, .non, .non, .non, .non, .non, .non, .non, .non, .non, .non, .non, .non]), some (.int 41), some .non, none, none, none]
def C7 : J.Env := [some (.tup [(.int 2), (.tup [(.tup [(.int 0), (.int 1), (.int 2), (.int 3), (.int 1)])])]), some (.tup [(.int 2), (.int 5)]), some (.tup [(.int 3), (.int 2)]), some RRA, some (.int 1), some (.int 21), some (.lst [.non, .non, .non, .non, .non, .non, .non, .non, .non, .non, .non, .non, .non, .non, .non, .non, .non, .non, .non, .non, .non, .non, .non, .non, .non, .non, .non, .non, .non, .non, .non, .non, .non, .non, .non, .non, .non, .non, .non]), some (.int 38), some .non, none, none, none]
def C8 : J.Env := [some (.tup [(.int 2), (.tup [(.tup [(.int 0), (.int 1), (.int 2), (.int 3), (.int 1)])])]), some (.tup [(.int 2), (.int 5)]), some (.tup [(.int 3), (.int 2)]), some RRA, some (.int 1), some (.int 24), some (.lst [.non, .non, .non, .non, .non, .non, .non, .non, .non, .non, .non, .non, .non, .non, .non, .non, .non, .non, .non, .non, .non, .non, .non, .non, .non, .non, .non, .non, .non, .non, .non, .non, .non, .non, .non, .non]), some (.int 35), some .non, none, none, none]
def C9 : J.Env := [some (.tup [(.int 2), (.tup [(.tup [(.int 0), (.int 1), (.int 2), (.int 3), (.int 1)])])]), some (.tup [(.int 2), (.int 5)]), some (.tup [(.int 3), (.int 2)]), some RRA, some (.int 1), some (.int 27), some (.lst [.non, .non, .non, .non, .non, .non, .non, .non, .non, .non, .non, .non, .non, .non, .non, .non, .non, .non, .non, .non, .non, .non, .non, .non, .non, .non, .non, .non, .non, .non, .non, .non, .non]), some (.int 32), some .non, none, none, none]
def C10 : J.Env := [some (.tup [(.int 2), (.tup [(.tup [(.int 0), (.int 1), (.int 2), (.int 3), (.int 1)])])]), some (.tup [(.int 2), (.int 5)]), some (.tup [(.int 3), (.int 2)]), some RRA, some (.int 1), some (.int 30), some (.lst [.non, .non, .non, .non, .non, .non, .non, .non, .non, .non, .non, .non, .non, .non, .non, .non, .non, .non, .non, .non, .non, .non, .non, .non, .non, .non, .non, .non, .non, .non]), some (.int 29), some .non, none, none, none]
def C11 : J.Env := [some (.tup [(.int 2), (.tup [(.tup [(.int 0), (.int 1), (.int 2), (.int 3), (.int 1)])])]), some (.tup [(.int 2), (.int 5)]), some (.tup [(.int 3), (.int 2)]), some RRA, some (.int 1), some (.int 33), some (.lst [.non, .non, .non, .non, .non, .non, .non, .non, .non, .non, .non, .non, .non, .non, .non, .non, .non, .non, .non, .non, .non, .non, .non, .non, .non, .non, .non]), some (.int 26), some .non, none, none, none]
def C12 : J.Env := [some (.tup [(.int 2), (.tup [(.tup [(.int 0), (.int 1), (.int 2), (.int 3), (.int 1)])])]), some (.tup [(.int 2), (.int 5)]), some (.tup [(.int 3), (.int 2)]), some RRA, some (.int 1), some (.int 36), some (.lst [.non, .non, .non, .non, .non, .non, .non, .non, .non, .non, .non, .non, .non, .non, .non, .non, .non, .non, .non, .non, .non, .non, .non, .non]), some (.int 23), some .non, none, none, none]
def C13 : J.Env := [some (.tup [(.int 2), (.tup [(.tup [(.int 0), (.int 1), (.int 2), (.int 3), (.int 1)])])]), some (.tup [(.int 2), (.int 5)]), some (.tup [(.int 3), (.int 2)]), some RRA, some (.int 1), some (.int 39), some (.lst [.non, .non, .non, .non, .non, .non, .non, .non, .non, .non, .non, .non, .non, .non, .non, .non, .non, .non, .non, .non, .non]), some (.int 20), some .non, none, none, none]
def C14 : J.Env := [some (.tup [(.int 2), (.tup [(.tup [(.int 0), (.int 1), (.int 2), (.int 3), (.int 1)])])]), some (.tup [(.int 2), (.int 5)]), some (.tup [(.int 3), (.int 2)]), some RRA, some (.int 1), some (.int 42), some (.lst [.non, .non, .non, .non, .non, .non, .non, .non, .non, .non, .non, .non, .non, .non, .non, .non, .non, .non]), some (.int 17), some .non, none, none, none]
def C15 : J.Env := [some (.tup [(.int 2), (.tup [(.tup [(.int 0), (.int 1), (.int 2), (.int 3), (.int 1)])])]), some (.tup [(.int 2), (.int 5)]), some (.tup [(.int 3), (.int 2)]), some RRA, some (.int 1), some (.int 45), some (.lst [.non, .non, .non, .non, .non, .non, .non, .non, .non, .non, .non, .non, .non, .non, .non]), some (.int 14), some .non, none, none, none]
def C16 : J.Env := [some (.tup [(.int 2), (.tup [(.tup [(.int 0), (.int 1), (.int 2), (.int 3), (.int 1)])])]), some (.tup [(.int 2), (.int 5)]), some (.tup [(.int 3), (.int 2)]), some RRA, some (.int 1), some (.int 48), some (.lst [.non, .non, .non, .non, .non, .non, .non, .non, .non, .non, .non, .non]), some (.int 11), some .non, none, none, none]
def C17 : J.Env := [some (.tup [(.int 2), (.tup [(.tup [(.int 0), (.int 1), (.int 2), (.int 3), (.int 1)])])]), some (.tup [(.int 2), (.int 5)]), some (.tup [(.int 3), (.int 2)]), some RRA, some (.int 1), some (.int 51), some (.lst [.non, .non, .non, .non, .non, .non, .non, .non, .non]), some (.int 8), some .non, none, none, none]
def C18 : J.Env := [some (.tup [(.int 2), (.tup [(.tup [(.int 0), (.int 1), (.int 2), (.int 3), (.int 1)])])]), some (.tup [(.int 2), (.int 5)]), some (.tup [(.int 3), (.int 2)]), some RRA, some (.int 1), some (.int 54), some (.lst [.non, .non, .non, .non, .non, .non]), some (.int 5), some .non, none, none, none]
def C19 : J.Env := [some (.tup [(.int 2), (.tup [(.tup [(.int 0), (.int 1), (.int 2), (.int 3), (.int 1)])])]), some (.tup [(.int 2), (.int 5)]), some (.tup [(.int 3), (.int 2)]), some RRA, some (.int 1), some (.int 57), some (.lst [.non, .non, .non]), some (.int 2), some .non, none, none, none]
def C20 : J.Env := [some (.tup [(.int 2), (.tup [(.tup [(.int 0), (.int 1), (.int 2), (.int 3), (.int 1)])])]), some (.tup [(.int 2), (.int 5)]), some (.tup [(.int 3), (.int 2)]), some RRA, some (.int 1), some (.int 59), some (.lst [.non]), some (.int 0), some .non, none, none, none]
theorem cf0 : chunkF (.rng 1 59) (.nm 5) B4_p_settled 0 3 0 C0 [] = some (C1, []) := by kernel_rfl
theorem cf1 : chunkF (.rng 1 59) (.nm 5) B4_p_settled 0 3 3 C1 [] = some (C2, []) := by kernel_rfl
theorem cf2 : chunkF (.rng 1 59) (.nm 5) B4_p_settled 0 3 6 C2 [] = some (C3, []) := by kernel_rfl
theorem cf3 : chunkF (.rng 1 59) (.nm 5) B4_p_settled 0 3 9 C3 [] = some (C4, []) := by kernel_rfl
theorem cf4 : chunkF (.rng 1 59) (.nm 5) B4_p_settled 0 3 12 C4 [] = some (C5, []) := by kernel_rfl
theorem cf5 : chunkF (.rng 1 59) (.nm 5) B4_p_settled 0 3 15 C5 [] = some (C6, []) := by kernel_rfl
theorem cf6 : chunkF (.rng 1 59) (.nm 5) B4_p_settled 0 3 18 C6 [] = some (C7, []) := by kernel_rfl
theorem cf7 : chunkF (.rng 1 59) (.nm 5) B4_p_settled 0 3 21 C7 [] = some (C8, []) := by kernel_rfl
theorem cf8 : chunkF (.rng 1 59) (.nm 5) B4_p_settled 0 3 24 C8 [] = some (C9, []) := by kernel_rfl
theorem cf9 : chunkF (.rng 1 59) (.nm 5) B4_p_settled 0 3 27 C9 [] = some (C10, []) := by kernel_rfl
theorem cf10 : chunkF (.rng 1 59) (.nm 5) B4_p_settled 0 3 30 C10 [] = some (C11, []) := by kernel_rfl
theorem cf11 : chunkF (.rng 1 59) (.nm 5) B4_p_settled 0 3 33 C11 [] = some (C12, []) := by kernel_rfl
theorem cf12 : chunkF (.rng 1 59) (.nm 5) B4_p_settled 0 3 36 C12 [] = some (C13, []) := by kernel_rfl
theorem cf13 : chunkF (.rng 1 59) (.nm 5) B4_p_settled 0 3 39 C13 [] = some (C14, []) := by kernel_rfl
theorem cf14 : chunkF (.rng 1 59) (.nm 5) B4_p_settled 0 3 42 C14 [] = some (C15, []) := by kernel_rfl
theorem cf15 : chunkF (.rng 1 59) (.nm 5) B4_p_settled 0 3 45 C15 [] = some (C16, []) := by kernel_rfl
theorem cf16 : chunkF (.rng 1 59) (.nm 5) B4_p_settled 0 3 48 C16 [] = some (C17, []) := by kernel_rfl
theorem cf17 : chunkF (.rng 1 59) (.nm 5) B4_p_settled 0 3 51 C17 [] = some (C18, []) := by kernel_rfl
theorem cf18 : chunkF (.rng 1 59) (.nm 5) B4_p_settled 0 3 54 C18 [] = some (C19, []) := by kernel_rfl
theorem cf19 : chunkF (.rng 1 59) (.nm 5) B4_p_settled 0 2 57 C19 [] = some (C20, []) := by kernel_rfl
theorem x4A : (sSet 4 (eArgs bMax1 (aCons (eLc [9, 10] (.tp [(.nm 9), (.nm 9), (.nm 10)]) (iSeq (eArgs (callF F_p_all_steps) (aCons (eVar 0) (aCons (eVar 2) aNil)))) J.tYes V1_p_settled) aNil))) [some (.tup [.int 2, (.tup [.tup [.int 0, .int 1, .int 2, .int 3, .int 1]])]), some (.tup [.int 2, .int 5]), some (.tup [.int 3, .int 2]), some RRA, none, none, none, none, none, none, none, none] [] = .nx C0 [] := by kernel_rfl
theorem rgA : (iRng2 (eC (.int 1)) (eOp oAdd (eOp oSub (eC (.int 60)) (eVar 4)) (eC (.int 1)))) C0 [] = .ok (.rng 1 59) [] := by kernel_rfl
theorem loopA : forGo (.rng 1 59) (.nm 5) B4_p_settled 0 59 0 C0 [] = .nx C20 [] := by
  refine (goF_add 3 56 0 _ _ _ _ cf0).trans ?_
  refine (goF_add 3 53 3 _ _ _ _ cf1).trans ?_
  refine (goF_add 3 50 6 _ _ _ _ cf2).trans ?_
  refine (goF_add 3 47 9 _ _ _ _ cf3).trans ?_
  refine (goF_add 3 44 12 _ _ _ _ cf4).trans ?_
  refine (goF_add 3 41 15 _ _ _ _ cf5).trans ?_
  refine (goF_add 3 38 18 _ _ _ _ cf6).trans ?_
  refine (goF_add 3 35 21 _ _ _ _ cf7).trans ?_
  refine (goF_add 3 32 24 _ _ _ _ cf8).trans ?_
  refine (goF_add 3 29 27 _ _ _ _ cf9).trans ?_
  refine (goF_add 3 26 30 _ _ _ _ cf10).trans ?_
  refine (goF_add 3 23 33 _ _ _ _ cf11).trans ?_
  refine (goF_add 3 20 36 _ _ _ _ cf12).trans ?_
  refine (goF_add 3 17 39 _ _ _ _ cf13).trans ?_
  refine (goF_add 3 14 42 _ _ _ _ cf14).trans ?_
  refine (goF_add 3 11 45 _ _ _ _ cf15).trans ?_
  refine (goF_add 3 8 48 _ _ _ _ cf16).trans ?_
  refine (goF_add 3 5 51 _ _ _ _ cf17).trans ?_
  refine (goF_add 3 2 54 _ _ _ _ cf18).trans ?_
  refine (goF_add 2 0 57 _ _ _ _ cf19).trans ?_
  kernel_rfl
theorem forA : sFor (.nm 5) (iRng2 (eC (.int 1)) (eOp oAdd (eOp oSub (eC (.int 60)) (eVar 4)) (eC (.int 1)))) B4_p_settled C0 [] = .nx C20 [] := by
  unfold sFor
  rw [rgA]
  exact loopA
theorem q3A : kFn 0 ((sSeq (sSet 4 (eArgs bMax1 (aCons (eLc [9, 10] (.tp [(.nm 9), (.nm 9), (.nm 10)]) (iSeq (eArgs (callF F_p_all_steps) (aCons (eVar 0) (aCons (eVar 2) aNil)))) J.tYes V1_p_settled) aNil))) (sSeq (sFor (.nm 5) (iRng2 (eC (.int 1)) (eOp oAdd (eOp oSub (eC (.int 60)) (eVar 4)) (eC (.int 1)))) B4_p_settled) (sRet (eC .non)))) [some (.tup [.int 2, (.tup [.tup [.int 0, .int 1, .int 2, .int 3, .int 1]])]), some (.tup [.int 2, .int 5]), some (.tup [.int 3, .int 2]), some RRA, none, none, none, none, none, none, none, none] []) = .ok .non [] := by
  rw [seq_nx x4A, seq_nx forA]
  kernel_rfl
theorem setA : F_p_settled [(.tup [.int 2, (.tup [.tup [.int 0, .int 1, .int 2, .int 3, .int 1]])]), (.tup [.int 2, .int 5])] [] = .ok .non [] := by
  unfold F_p_settled S_p_settled
  rw [fn_ev 2 12 _ rfl]
  show kFn 0 (sSeq _ _ [some (.tup [.int 2, (.tup [.tup [.int 0, .int 1, .int 2, .int 3, .int 1]])]), some (.tup [.int 2, .int 5]), none, none, none, none, none, none, none, none, none, none] []) = _
  rw [seq_nx q1A, seq_nx q2A]
  have h : J.eArgs (callF F_p_round_rows) (aCons (eVar 0) (aCons (eVar 2) (aCons (eVar 1) aNil))) [some (.tup [.int 2, (.tup [.tup [.int 0, .int 1, .int 2, .int 3, .int 1]])]), some (.tup [.int 2, .int 5]), some (.tup [.int 3, .int 2]), none, none, none, none, none, none, none, none, none] [] = .ok RRA [] := call_ev (xs := [(.tup [.int 2, (.tup [.tup [.int 0, .int 1, .int 2, .int 3, .int 1]])]), (.tup [.int 3, .int 2]), (.tup [.int 2, .int 5])]) (by kernel_rfl) (by kernel_rfl) rrA (by kernel_rfl)
  rw [seq_nx (set_ev h)]
  exact q3A
def RRB : D := (.lst [(.lst [(.int 0), (.int 5), (.int 10), (.int 5), (.int 15)]), (.lst [(.int 15), (.int 20), (.int 25), (.int 20), (.int 30)]), (.lst [(.int 30), (.int 35), (.int 40), (.int 35), (.int 45)]), (.lst [(.int 45), (.int 50), (.int 55), (.int 50), (.int 60)]), (.lst [(.int 60), (.int 65), (.int 70), (.int 65), (.int 75)]), (.lst [(.int 75), (.int 80), (.int 85), (.int 80), (.int 90)]), (.lst [(.int 90), (.int 95), (.int 100), (.int 95), (.int 105)]), (.lst [(.int 105), (.int 110), (.int 115), (.int 110), (.int 120)]), (.lst [(.int 120), (.int 125), (.int 130), (.int 125), (.int 135)]), (.lst [(.int 135), (.int 140), (.int 145), (.int 140), (.int 150)]), (.lst [(.int 150), (.int 155), (.int 160), (.int 155), (.int 165)]), (.lst [(.int 165), (.int 170), (.int 175), (.int 170), (.int 180)]), (.lst [(.int 180), (.int 185), (.int 190), (.int 185), (.int 195)]), (.lst [(.int 195), (.int 200), (.int 205), (.int 200), (.int 210)]), (.lst [(.int 210), (.int 215), (.int 220), (.int 215), (.int 225)]), (.lst [(.int 225), (.int 230), (.int 235), (.int 230), (.int 240)]), (.lst [(.int 240), (.int 245), (.int 250), (.int 245), (.int 255)]), (.lst [(.int 255), (.int 260), (.int 265), (.int 260), (.int 270)]), (.lst [(.int 270), (.int 275), (.int 280), (.int 275), (.int 285)]), (.lst [(.int 285), (.int 290), (.int 295), (.int 290), (.int 300)]), (.lst [(.int 300), (.int 305), (.int 310), (.int 305), (.int 315)]), (.lst [(.int 315), (.int 320), (.int 325), (.int 320), (.int 330)]), (.lst [(.int 330), (.int 335), (.int 340), (.int 335), (.int 345)]), (.lst [(.int 345), (.int 350), (.int 355), (.int 350), (.int 360)]), (.lst [(.int 360), (.int 365), (.int 370), (.int 365), (.int 375)]), (.lst [(.int 375), (.int 380), (.int 385), (.int 380), (.int 390)]), (.lst [(.int 390), (.int 395), (.int 400), (.int 395), (.int 405)]), (.lst [(.int 405), (.int 410), (.int 415), (.int 410), (.int 420)]), (.lst [(.int 420), (.int 425), (.int 430), (.int 425), (.int 435)]), (.lst [(.int 435), (.int 440), (.int 445), (.int 440), (.int 450)]), (.lst [(.int 450), (.int 455), (.int 460), (.int 455), (.int 465)]), (.lst [(.int 465), (.int 470), (.int 475), (.int 470), (.int 480)]), (.lst [(.int 480), (.int 485), (.int 490), (.int 485), (.int 495)]), (.lst [(.int 495), (.int 500), (.int 505), (.int 500), (.int 510)]), (.lst [(.int 510), (.int 515), (.int 520), (.int 515), (.int 525)]), (.lst [(.int 525), (.int 530), (.int 535), (.int 530), (.int 540)]), (.lst [(.int 540), (.int 545), (.int 550), (.int 545), (.int 555)]), (.lst [(.int 555), (.int 560), (.int 565), (.int 560), (.int 570)]), (.lst [(.int 570), (.int 575), (.int 580), (.int 575), (.int 585)]), (.lst [(.int 585), (.int 590), (.int 595), (.int 590), (.int 600)]), (.lst [(.int 600), (.int 605), (.int 610), (.int 605), (.int 615)]), (.lst [(.int 615), (.int 620), (.int 625), (.int 620), (.int 630)]), (.lst [(.int 630), (.int 635), (.int 640), (.int 635), (.int 645)]), (.lst [(.int 645), (.int 650), (.int 655), (.int 650), (.int 660)]), (.lst [(.int 660), (.int 665), (.int 670), (.int 665), (.int 675)]), (.lst [(.int 675), (.int 680), (.int 685), (.int 680), (.int 690)]), (.lst [(.int 690), (.int 695), (.int 700), (.int 695), (.int 705)]), (.lst [(.int 705), (.int 710), (.int 715), (.int 710), (.int 720)]), (.lst [(.int 720), (.int 725), (.int 730), (.int 725), (.int 735)]), (.lst [(.int 735), (.int 740), (.int 745), (.int 740), (.int 750)]), (.lst [(.int 750), (.int 755), (.int 760), (.int 755), (.int 765)]), (.lst [(.int 765), (.int 770), (.int 775), (.int 770), (.int 780)]), (.lst [(.int 780), (.int 785), (.int 790), (.int 785), (.int 795)]), (.lst [(.int 795), (.int 800), (.int 805), (.int 800), (.int 810)]), (.lst [(.int 810), (.int 815), (.int 820), (.int 815), (.int 825)]), (.lst [(.int 825), (.int 830), (.int 835), (.int 830), (.int 840)]), (.lst [(.int 840), (.int 845), (.int 850), (.int 845), (.int 855)]), (.lst [(.int 855), (.int 860), (.int 865), (.int 860), (.int 870)]), (.lst [(.int 870), (.int 875), (.int 880), (.int 875), (.int 885)]), (.lst [(.int 885), (.int 890), (.int 895), (.int 890), (.int 900)])])
theorem rrestB : kFn 0 ((sSeq (sSet 4 (eArgs bLstL aNil)) (sSeq (sForN (.nm 5) (iRng1 (eC (.int 60))) B2_p_round_rows) (sRet (eVar 4)))) [some (.tup [.int 2, (.tup [.tup [.int 0, .int 1, .int 2, .int 3, .int 1]])]), some (.tup [.int 3, .int 2]), some (.tup [.int 5, .int 3]), some STB, none, none, none, none, none] []) = .ok RRB [] := by kernel_rfl
theorem rrB : F_p_round_rows [(.tup [.int 2, (.tup [.tup [.int 0, .int 1, .int 2, .int 3, .int 1]])]), (.tup [.int 3, .int 2]), (.tup [.int 5, .int 3])] [] = .ok RRB [] := by
  unfold F_p_round_rows S_p_round_rows
  rw [fn_ev 3 9 _ rfl]
  show kFn 0 (sSeq _ _ [some (.tup [.int 2, (.tup [.tup [.int 0, .int 1, .int 2, .int 3, .int 1]])]), some (.tup [.int 3, .int 2]), some (.tup [.int 5, .int 3]), none, none, none, none, none, none] []) = _
  have h : J.eArgs (callF F_p_starts) (aCons (eOp oIx (eVar 0) (eC (.int 1))) (aCons (eVar 1) (aCons (eVar 2) (aCons (eC (.int 60)) aNil)))) [some (.tup [.int 2, (.tup [.tup [.int 0, .int 1, .int 2, .int 3, .int 1]])]), some (.tup [.int 3, .int 2]), some (.tup [.int 5, .int 3]), none, none, none, none, none, none] [] = .ok STB [] := call_ev (xs := [(.tup [.tup [.int 0, .int 1, .int 2, .int 3, .int 1]]), (.tup [.int 3, .int 2]), (.tup [.int 5, .int 3]), .int 60]) (by kernel_rfl) (by kernel_rfl) staB (by kernel_rfl)
  rw [seq_nx (set_ev h)]
  exact rrestB
theorem q1B : (sSet 2 (eArgs (callF F_p_unrolled_counts) (aCons (eVar 0) aNil))) [some (.tup [.int 2, (.tup [.tup [.int 0, .int 1, .int 2, .int 3, .int 1]])]), some (.tup [.int 5, .int 3]), none, none, none, none, none, none, none, none, none, none] [] = .nx [some (.tup [.int 2, (.tup [.tup [.int 0, .int 1, .int 2, .int 3, .int 1]])]), some (.tup [.int 5, .int 3]), some (.tup [.int 3, .int 2]), none, none, none, none, none, none, none, none, none] [] := by kernel_rfl
theorem q2B : (sExpr (eArgs (callF F_p_check_times) (aCons (eVar 0) (aCons (eVar 1) aNil)))) [some (.tup [.int 2, (.tup [.tup [.int 0, .int 1, .int 2, .int 3, .int 1]])]), some (.tup [.int 5, .int 3]), some (.tup [.int 3, .int 2]), none, none, none, none, none, none, none, none, none] [] = .nx [some (.tup [.int 2, (.tup [.tup [.int 0, .int 1, .int 2, .int 3, .int 1]])]), some (.tup [.int 5, .int 3]), some (.tup [.int 3, .int 2]), none, none, none, none, none, none, none, none, none] [] := by kernel_rfl
theorem q3B : kFn 0 ((sSeq (sSet 4 (eArgs bMax1 (aCons (eLc [9, 10] (.tp [(.nm 9), (.nm 9), (.nm 10)]) (iSeq (eArgs (callF F_p_all_steps) (aCons (eVar 0) (aCons (eVar 2) aNil)))) J.tYes V1_p_settled) aNil))) (sSeq (sFor (.nm 5) (iRng2 (eC (.int 1)) (eOp oAdd (eOp oSub (eC (.int 60)) (eVar 4)) (eC (.int 1)))) B4_p_settled) (sRet (eC .non)))) [some (.tup [.int 2, (.tup [.tup [.int 0, .int 1, .int 2, .int 3, .int 1]])]), some (.tup [.int 5, .int 3]), some (.tup [.int 3, .int 2]), some RRB, none, none, none, none, none, none, none, none] []) = .ok (.tup [(.int 0), (.int 1), (.int 15)]) [] := by kernel_rfl
theorem setB : F_p_settled [(.tup [.int 2, (.tup [.tup [.int 0, .int 1, .int 2, .int 3, .int 1]])]), (.tup [.int 5, .int 3])] [] = .ok (.tup [(.int 0), (.int 1), (.int 15)]) [] := by
  unfold F_p_settled S_p_settled
  rw [fn_ev 2 12 _ rfl]
  show kFn 0 (sSeq _ _ [some (.tup [.int 2, (.tup [.tup [.int 0, .int 1, .int 2, .int 3, .int 1]])]), some (.tup [.int 5, .int 3]), none, none, none, none, none, none, none, none, none, none] []) = _
  rw [seq_nx q1B, seq_nx q2B]
  have h : J.eArgs (callF F_p_round_rows) (aCons (eVar 0) (aCons (eVar 2) (aCons (eVar 1) aNil))) [some (.tup [.int 2, (.tup [.tup [.int 0, .int 1, .int 2, .int 3, .int 1]])]), some (.tup [.int 5, .int 3]), some (.tup [.int 3, .int 2]), none, none, none, none, none, none, none, none, none] [] = .ok RRB [] := call_ev (xs := [(.tup [.int 2, (.tup [.tup [.int 0, .int 1, .int 2, .int 3, .int 1]])]), (.tup [.int 3, .int 2]), (.tup [.int 5, .int 3])]) (by kernel_rfl) (by kernel_rfl) rrB (by kernel_rfl)
  rw [seq_nx (set_ev h)]
  exact q3B
end K51
set_option linter.all false
set_option maxRecDepth 100000
set_option maxHeartbeats 0
namespace K51
open J
theorem args3 {f : List D → List D → R D} {a b c : ME} {E : J.Env} {d1 d2 d3 : D} (h1 : a E [] = .ok d1 []) (h2 : b E [] = .ok d2 []) (h3 : c E [] = .ok d3 []) : J.eArgs f (aCons a (aCons b (aCons c aNil))) E [] = f [d1, d2, d3] [] := by
  show ((a E []).bind fun x S1 => (aCons b (aCons c aNil) E S1).bind fun xs S2 => R.ok (x :: xs) S2).bind f = _
  rw [h1]
  show (((b E []).bind fun x S1 => (aCons c aNil E S1).bind fun xs S2 => R.ok (x :: xs) S2).bind fun xs S2 => R.ok (d1 :: xs) S2).bind f = _
  rw [h2]
  show ((((c E []).bind fun x S1 => (aNil E S1).bind fun xs S2 => R.ok (x :: xs) S2).bind fun xs S2 => R.ok (d2 :: xs) S2).bind fun xs S2 => R.ok (d1 :: xs) S2).bind f = _
  rw [h3]
  rfl
def F0 : J.Env := [none, none, none, none, none, none, none, none]
def F1 : J.Env := [none, none, some (.tup [(.int 2), (.tup [(.tup [(.int 0), (.int 1), (.int 2), (.int 3), (.int 1)])])]), some (.tup [(.int 2), (.tup [(.tup [(.int 0), (.int 1), (.int 1), (.int 1), (.int 0)]), (.tup [(.int 1), (.int 0), (.int 1), (.int 1), (.int 1)])])]), none, none, none, none]
def F2 : J.Env := [none, none, some (.tup [(.int 2), (.tup [(.tup [(.int 0), (.int 1), (.int 2), (.int 3), (.int 1)])])]), some (.tup [(.int 2), (.tup [(.tup [(.int 0), (.int 1), (.int 1), (.int 1), (.int 0)]), (.tup [(.int 1), (.int 0), (.int 1), (.int 1), (.int 1)])])]), some (.lst [(.tup [(.tup [(.int 0), (.int 0)]), (.tup [(.int 0), (.int 1)]), (.tup [(.int 0), (.int 2)]), (.tup [(.int 1), (.int 0)]), (.tup [(.int 1), (.int 1)])]), (.tup [(.tup [(.tup [(.int 0), (.int 0)]), (.tup [(.int 1), (.int 0)]), (.int 0)]), (.tup [(.tup [(.int 0), (.int 2)]), (.tup [(.int 1), (.int 1)]), (.int 0)])]), (.tup [(.tup [(.tup [(.int 0), (.int 0)]), (.tup [(.int 1), (.int 0)]), (.int 0)]), (.tup [(.tup [(.int 1), (.int 0)]), (.tup [(.int 0), (.int 0)]), (.int 1)])]), (.tup []), (.tup [(.tup [(.tup [(.int 0), (.int 0)]), (.tup [(.int 0), (.int 0)]), (.int 2)])])]), none, none, none]
def F3 : J.Env := [none, none, some (.tup [(.int 2), (.tup [(.tup [(.int 0), (.int 1), (.int 2), (.int 3), (.int 1)])])]), some (.tup [(.int 2), (.tup [(.tup [(.int 0), (.int 1), (.int 1), (.int 1), (.int 0)]), (.tup [(.int 1), (.int 0), (.int 1), (.int 1), (.int 1)])])]), some (.lst [(.tup [(.tup [(.int 0), (.int 0)]), (.tup [(.int 0), (.int 1)]), (.tup [(.int 0), (.int 2)]), (.tup [(.int 1), (.int 0)]), (.tup [(.int 1), (.int 1)])]), (.tup [(.tup [(.tup [(.int 0), (.int 0)]), (.tup [(.int 1), (.int 0)]), (.int 0)]), (.tup [(.tup [(.int 0), (.int 2)]), (.tup [(.int 1), (.int 1)]), (.int 0)])]), (.tup [(.tup [(.tup [(.int 0), (.int 0)]), (.tup [(.int 1), (.int 0)]), (.int 0)]), (.tup [(.tup [(.int 1), (.int 0)]), (.tup [(.int 0), (.int 0)]), (.int 1)])]), (.tup []), (.tup [(.tup [(.tup [(.int 0), (.int 0)]), (.tup [(.int 0), (.int 0)]), (.int 2)])])]), some (.lst [(.tup [(.tup [(.int 0), (.int 0)]), (.tup [(.int 0), (.int 1)]), (.tup [(.int 0), (.int 2)]), (.tup [(.int 1), (.int 0)]), (.tup [(.int 1), (.int 1)])]), (.tup [(.tup [(.tup [(.int 0), (.int 0)]), (.tup [(.int 1), (.int 0)]), (.int 0)]), (.tup [(.tup [(.int 0), (.int 2)]), (.tup [(.int 1), (.int 1)]), (.int 0)])])]), none, none]
def F4 : J.Env := [none, none, some (.tup [(.int 2), (.tup [(.tup [(.int 0), (.int 1), (.int 2), (.int 3), (.int 1)])])]), some (.tup [(.int 2), (.tup [(.tup [(.int 0), (.int 1), (.int 1), (.int 1), (.int 0)]), (.tup [(.int 1), (.int 0), (.int 1), (.int 1), (.int 1)])])]), some (.lst [(.tup [(.tup [(.int 0), (.int 0)]), (.tup [(.int 0), (.int 1)]), (.tup [(.int 0), (.int 2)]), (.tup [(.int 1), (.int 0)]), (.tup [(.int 1), (.int 1)])]), (.tup [(.tup [(.tup [(.int 0), (.int 0)]), (.tup [(.int 1), (.int 0)]), (.int 0)]), (.tup [(.tup [(.int 0), (.int 2)]), (.tup [(.int 1), (.int 1)]), (.int 0)])]), (.tup [(.tup [(.tup [(.int 0), (.int 0)]), (.tup [(.int 1), (.int 0)]), (.int 0)]), (.tup [(.tup [(.int 1), (.int 0)]), (.tup [(.int 0), (.int 0)]), (.int 1)])]), (.tup []), (.tup [(.tup [(.tup [(.int 0), (.int 0)]), (.tup [(.int 0), (.int 0)]), (.int 2)])])]), some (.lst [(.tup [(.tup [(.int 0), (.int 0)]), (.tup [(.int 0), (.int 1)]), (.tup [(.int 0), (.int 2)]), (.tup [(.int 1), (.int 0)]), (.tup [(.int 1), (.int 1)])]), (.tup [(.tup [(.tup [(.int 0), (.int 0)]), (.tup [(.int 1), (.int 0)]), (.int 0)]), (.tup [(.tup [(.int 0), (.int 2)]), (.tup [(.int 1), (.int 1)]), (.int 0)])]), (.tup [(.tup [(.tup [(.int 0), (.int 0)]), (.tup [(.int 1), (.int 0)]), (.int 0)]), (.tup [(.tup [(.int 1), (.int 0)]), (.tup [(.int 0), (.int 0)]), (.int 1)])]), (.tup []), (.tup [(.tup [(.tup [(.int 0), (.int 0)]), (.tup [(.int 0), (.int 0)]), (.int 2)])])]), none, none]
def F5 : J.Env := [none, none, some (.tup [(.int 2), (.tup [(.tup [(.int 0), (.int 1), (.int 2), (.int 3), (.int 1)])])]), some (.tup [(.int 2), (.tup [(.tup [(.int 0), (.int 1), (.int 1), (.int 1), (.int 0)]), (.tup [(.int 1), (.int 0), (.int 1), (.int 1), (.int 1)])])]), some (.lst [(.tup [(.tup [(.int 0), (.int 0)]), (.tup [(.int 0), (.int 1)]), (.tup [(.int 0), (.int 2)]), (.tup [(.int 1), (.int 0)]), (.tup [(.int 1), (.int 1)])]), (.tup [(.tup [(.tup [(.int 0), (.int 0)]), (.tup [(.int 1), (.int 0)]), (.int 0)]), (.tup [(.tup [(.int 0), (.int 2)]), (.tup [(.int 1), (.int 1)]), (.int 0)])]), (.tup [(.tup [(.tup [(.int 0), (.int 0)]), (.tup [(.int 1), (.int 0)]), (.int 0)]), (.tup [(.tup [(.int 1), (.int 0)]), (.tup [(.int 0), (.int 0)]), (.int 1)])]), (.tup []), (.tup [(.tup [(.tup [(.int 0), (.int 0)]), (.tup [(.int 0), (.int 0)]), (.int 2)])])]), some (.lst [(.tup [(.tup [(.int 0), (.int 0)]), (.tup [(.int 0), (.int 1)]), (.tup [(.int 0), (.int 2)]), (.tup [(.int 1), (.int 0)]), (.tup [(.int 1), (.int 1)])]), (.tup [(.tup [(.tup [(.int 0), (.int 0)]), (.tup [(.int 1), (.int 0)]), (.int 0)]), (.tup [(.tup [(.int 0), (.int 2)]), (.tup [(.int 1), (.int 1)]), (.int 0)])]), (.tup [(.tup [(.tup [(.int 0), (.int 0)]), (.tup [(.int 1), (.int 0)]), (.int 0)]), (.tup [(.tup [(.int 1), (.int 0)]), (.tup [(.int 0), (.int 0)]), (.int 1)])]), (.tup []), (.tup [(.tup [(.tup [(.int 0), (.int 0)]), (.tup [(.int 0), (.int 0)]), (.int 2)])])]), none, none]
def F6 : J.Env := [none, none, some (.tup [(.int 2), (.tup [(.tup [(.int 0), (.int 1), (.int 2), (.int 3), (.int 1)])])]), some (.tup [(.int 2), (.tup [(.tup [(.int 0), (.int 1), (.int 1), (.int 1), (.int 0)]), (.tup [(.int 1), (.int 0), (.int 1), (.int 1), (.int 1)])])]), some (.lst [(.tup [(.tup [(.int 0), (.int 2), (.int 4)]), (.tup [(.int 2), (.int 7)])]), (.int 12), (.tup [(.int 10), (.int 1)])]), some (.lst [(.tup [(.tup [(.int 0), (.int 0)]), (.tup [(.int 0), (.int 1)]), (.tup [(.int 0), (.int 2)]), (.tup [(.int 1), (.int 0)]), (.tup [(.int 1), (.int 1)])]), (.tup [(.tup [(.tup [(.int 0), (.int 0)]), (.tup [(.int 1), (.int 0)]), (.int 0)]), (.tup [(.tup [(.int 0), (.int 2)]), (.tup [(.int 1), (.int 1)]), (.int 0)])]), (.tup [(.tup [(.tup [(.int 0), (.int 0)]), (.tup [(.int 1), (.int 0)]), (.int 0)]), (.tup [(.tup [(.int 1), (.int 0)]), (.tup [(.int 0), (.int 0)]), (.int 1)])]), (.tup []), (.tup [(.tup [(.tup [(.int 0), (.int 0)]), (.tup [(.int 0), (.int 0)]), (.int 2)])])]), none, none]
def F7 : J.Env := [none, none, some (.tup [(.int 2), (.tup [(.tup [(.int 0), (.int 1), (.int 2), (.int 3), (.int 1)])])]), some (.tup [(.int 2), (.tup [(.tup [(.int 0), (.int 1), (.int 1), (.int 1), (.int 0)]), (.tup [(.int 1), (.int 0), (.int 1), (.int 1), (.int 1)])])]), some (.lst [(.tup [(.tup [(.int 0), (.int 2), (.int 4)]), (.tup [(.int 2), (.int 7)])]), (.int 12), (.tup [(.int 10), (.int 1)]), (.tup [(.tup [(.int 6), (.int 1)]), (.tup [(.int 10), (.int 1)])]), (.tup [(.int 15), (.int 1)]), (.tup [(.tup [(.int 15), (.int 1)]), (.tup [(.int 15), (.int 1)])])]), some (.lst [(.tup [(.tup [(.int 0), (.int 0)]), (.tup [(.int 0), (.int 1)]), (.tup [(.int 0), (.int 2)]), (.tup [(.int 1), (.int 0)]), (.tup [(.int 1), (.int 1)])]), (.tup [(.tup [(.tup [(.int 0), (.int 0)]), (.tup [(.int 1), (.int 0)]), (.int 0)]), (.tup [(.tup [(.int 0), (.int 2)]), (.tup [(.int 1), (.int 1)]), (.int 0)])]), (.tup [(.tup [(.tup [(.int 0), (.int 0)]), (.tup [(.int 1), (.int 0)]), (.int 0)]), (.tup [(.tup [(.int 1), (.int 0)]), (.tup [(.int 0), (.int 0)]), (.int 1)])]), (.tup []), (.tup [(.tup [(.tup [(.int 0), (.int 0)]), (.tup [(.int 0), (.int 0)]), (.int 2)])])]), none, none]
def F8 : J.Env := [none, none, some (.tup [(.int 2), (.tup [(.tup [(.int 0), (.int 1), (.int 2), (.int 3), (.int 1)])])]), some (.tup [(.int 2), (.tup [(.tup [(.int 0), (.int 1), (.int 1), (.int 1), (.int 0)]), (.tup [(.int 1), (.int 0), (.int 1), (.int 1), (.int 1)])])]), some (.lst [(.tup [(.tup [(.int 0), (.int 2), (.int 4)]), (.tup [(.int 2), (.int 7)])]), (.int 12), (.tup [(.int 10), (.int 1)]), (.tup [(.tup [(.int 6), (.int 1)]), (.tup [(.int 10), (.int 1)])]), (.tup [(.int 15), (.int 1)]), (.tup [(.tup [(.int 15), (.int 1)]), (.tup [(.int 15), (.int 1)])])]), some (.lst [(.tup [(.tup [(.int 0), (.int 0)]), (.tup [(.int 0), (.int 1)]), (.tup [(.int 0), (.int 2)]), (.tup [(.int 1), (.int 0)]), (.tup [(.int 1), (.int 1)])]), (.tup [(.tup [(.tup [(.int 0), (.int 0)]), (.tup [(.int 1), (.int 0)]), (.int 0)]), (.tup [(.tup [(.int 0), (.int 2)]), (.tup [(.int 1), (.int 1)]), (.int 0)])]), (.tup [(.tup [(.tup [(.int 0), (.int 0)]), (.tup [(.int 1), (.int 0)]), (.int 0)]), (.tup [(.tup [(.int 1), (.int 0)]), (.tup [(.int 0), (.int 0)]), (.int 1)])]), (.tup []), (.tup [(.tup [(.tup [(.int 0), (.int 0)]), (.tup [(.int 0), (.int 0)]), (.int 2)])])]), none, none]
def F9 : J.Env := [none, none, some (.tup [(.int 2), (.tup [(.tup [(.int 0), (.int 1), (.int 2), (.int 3), (.int 1)])])]), some (.tup [(.int 2), (.tup [(.tup [(.int 0), (.int 1), (.int 1), (.int 1), (.int 0)]), (.tup [(.int 1), (.int 0), (.int 1), (.int 1), (.int 1)])])]), some (.lst [(.tup [(.int 7), (.int 1)]), (.tup [(.tup [(.tup [(.int 1), (.int 0)]), (.tup [(.int 0), (.int 0)]), (.int 1)]), (.tup [(.tup [(.int 0), (.int 0)]), (.tup [(.int 1), (.int 0)]), (.int 0)])]), (.tup [(.int 0), (.int 1), (.int 7)])]), some (.lst [(.tup [(.tup [(.int 0), (.int 0)]), (.tup [(.int 0), (.int 1)]), (.tup [(.int 0), (.int 2)]), (.tup [(.int 1), (.int 0)]), (.tup [(.int 1), (.int 1)])]), (.tup [(.tup [(.tup [(.int 0), (.int 0)]), (.tup [(.int 1), (.int 0)]), (.int 0)]), (.tup [(.tup [(.int 0), (.int 2)]), (.tup [(.int 1), (.int 1)]), (.int 0)])]), (.tup [(.tup [(.tup [(.int 0), (.int 0)]), (.tup [(.int 1), (.int 0)]), (.int 0)]), (.tup [(.tup [(.int 1), (.int 0)]), (.tup [(.int 0), (.int 0)]), (.int 1)])]), (.tup []), (.tup [(.tup [(.tup [(.int 0), (.int 0)]), (.tup [(.int 0), (.int 0)]), (.int 2)])])]), none, none]
def F10 : J.Env := [none, none, some (.tup [(.int 2), (.tup [(.tup [(.int 0), (.int 1), (.int 2), (.int 3), (.int 1)])])]), some (.tup [(.int 2), (.tup [(.tup [(.int 0), (.int 1), (.int 1), (.int 1), (.int 0)]), (.tup [(.int 1), (.int 0), (.int 1), (.int 1), (.int 1)])])]), some (.lst [(.tup [(.int 7), (.int 1)]), (.tup [(.tup [(.tup [(.int 1), (.int 0)]), (.tup [(.int 0), (.int 0)]), (.int 1)]), (.tup [(.tup [(.int 0), (.int 0)]), (.tup [(.int 1), (.int 0)]), (.int 0)])]), (.tup [(.int 0), (.int 1), (.int 7)]), (.tup [(.tup [(.int 0), (.int 7)]), (.tup [(.int 3), (.int 10)])]), .non, (.tup [(.int 0), (.int 1), (.int 15)])]), some (.lst [(.tup [(.tup [(.int 0), (.int 0)]), (.tup [(.int 0), (.int 1)]), (.tup [(.int 0), (.int 2)]), (.tup [(.int 1), (.int 0)]), (.tup [(.int 1), (.int 1)])]), (.tup [(.tup [(.tup [(.int 0), (.int 0)]), (.tup [(.int 1), (.int 0)]), (.int 0)]), (.tup [(.tup [(.int 0), (.int 2)]), (.tup [(.int 1), (.int 1)]), (.int 0)])]), (.tup [(.tup [(.tup [(.int 0), (.int 0)]), (.tup [(.int 1), (.int 0)]), (.int 0)]), (.tup [(.tup [(.int 1), (.int 0)]), (.tup [(.int 0), (.int 0)]), (.int 1)])]), (.tup []), (.tup [(.tup [(.tup [(.int 0), (.int 0)]), (.tup [(.int 0), (.int 0)]), (.int 2)])])]), none, none]
def F11 : J.Env := [none, none, some (.tup [(.int 2), (.tup [(.tup [(.int 0), (.int 1), (.int 2), (.int 3), (.int 1)])])]), some (.tup [(.int 2), (.tup [(.tup [(.int 0), (.int 1), (.int 1), (.int 1), (.int 0)]), (.tup [(.int 1), (.int 0), (.int 1), (.int 1), (.int 1)])])]), some (.lst [(.tup [(.int 7), (.int 1)]), (.tup [(.tup [(.tup [(.int 1), (.int 0)]), (.tup [(.int 0), (.int 0)]), (.int 1)]), (.tup [(.tup [(.int 0), (.int 0)]), (.tup [(.int 1), (.int 0)]), (.int 0)])]), (.tup [(.int 0), (.int 1), (.int 7)]), (.tup [(.tup [(.int 0), (.int 7)]), (.tup [(.int 3), (.int 10)])]), .non, (.tup [(.int 0), (.int 1), (.int 15)])]), some (.lst [(.tup [(.tup [(.int 0), (.int 0)]), (.tup [(.int 0), (.int 1)]), (.tup [(.int 0), (.int 2)]), (.tup [(.int 1), (.int 0)]), (.tup [(.int 1), (.int 1)])]), (.tup [(.tup [(.tup [(.int 0), (.int 0)]), (.tup [(.int 1), (.int 0)]), (.int 0)]), (.tup [(.tup [(.int 0), (.int 2)]), (.tup [(.int 1), (.int 1)]), (.int 0)])]), (.tup [(.tup [(.tup [(.int 0), (.int 0)]), (.tup [(.int 1), (.int 0)]), (.int 0)]), (.tup [(.tup [(.int 1), (.int 0)]), (.tup [(.int 0), (.int 0)]), (.int 1)])]), (.tup []), (.tup [(.tup [(.tup [(.int 0), (.int 0)]), (.tup [(.int 0), (.int 0)]), (.int 2)])])]), some (.tup [(.tup [(.tup [(.int 0), (.int 0)]), (.tup [(.int 1), (.int 0)]), (.int 0)]), (.tup [(.tup [(.int 1), (.int 0)]), (.tup [(.int 0), (.int 0)]), (.int 1)])]), none]
def F12 : J.Env := [none, none, some (.tup [(.int 2), (.tup [(.tup [(.int 0), (.int 1), (.int 2), (.int 3), (.int 1)])])]), some (.tup [(.int 2), (.tup [(.tup [(.int 0), (.int 1), (.int 1), (.int 1), (.int 0)]), (.tup [(.int 1), (.int 0), (.int 1), (.int 1), (.int 1)])])]), some (.lst [(.tup [(.int 7), (.int 1)]), (.tup [(.tup [(.tup [(.int 1), (.int 0)]), (.tup [(.int 0), (.int 0)]), (.int 1)]), (.tup [(.tup [(.int 0), (.int 0)]), (.tup [(.int 1), (.int 0)]), (.int 0)])]), (.tup [(.int 0), (.int 1), (.int 7)]), (.tup [(.tup [(.int 0), (.int 7)]), (.tup [(.int 3), (.int 10)])]), .non, (.tup [(.int 0), (.int 1), (.int 15)])]), some (.lst [(.tup [(.tup [(.int 0), (.int 0)]), (.tup [(.int 0), (.int 1)]), (.tup [(.int 0), (.int 2)]), (.tup [(.int 1), (.int 0)]), (.tup [(.int 1), (.int 1)])]), (.tup [(.tup [(.tup [(.int 0), (.int 0)]), (.tup [(.int 1), (.int 0)]), (.int 0)]), (.tup [(.tup [(.int 0), (.int 2)]), (.tup [(.int 1), (.int 1)]), (.int 0)])]), (.tup [(.tup [(.tup [(.int 0), (.int 0)]), (.tup [(.int 1), (.int 0)]), (.int 0)]), (.tup [(.tup [(.int 1), (.int 0)]), (.tup [(.int 0), (.int 0)]), (.int 1)])]), (.tup []), (.tup [(.tup [(.tup [(.int 0), (.int 0)]), (.tup [(.int 0), (.int 0)]), (.int 2)])])]), some (.tup [(.tup [(.tup [(.int 0), (.int 0)]), (.tup [(.int 1), (.int 0)]), (.int 0)]), (.tup [(.tup [(.int 1), (.int 0)]), (.tup [(.int 0), (.int 0)]), (.int 1)])]), none]
def F13 : J.Env := [none, none, some (.tup [(.int 2), (.tup [(.tup [(.int 0), (.int 1), (.int 2), (.int 3), (.int 1)])])]), some (.tup [(.int 2), (.tup [(.tup [(.int 0), (.int 1), (.int 1), (.int 1), (.int 0)]), (.tup [(.int 1), (.int 0), (.int 1), (.int 1), (.int 1)])])]), some (.lst [(.tup [(.int 7), (.int 1)]), (.tup [(.tup [(.tup [(.int 1), (.int 0)]), (.tup [(.int 0), (.int 0)]), (.int 1)]), (.tup [(.tup [(.int 0), (.int 0)]), (.tup [(.int 1), (.int 0)]), (.int 0)])]), (.tup [(.int 0), (.int 1), (.int 7)]), (.tup [(.tup [(.int 0), (.int 7)]), (.tup [(.int 3), (.int 10)])]), .non, (.tup [(.int 0), (.int 1), (.int 15)])]), some (.lst [(.tup [(.tup [(.int 0), (.int 0)]), (.tup [(.int 0), (.int 1)]), (.tup [(.int 0), (.int 2)]), (.tup [(.int 1), (.int 0)]), (.tup [(.int 1), (.int 1)])]), (.tup [(.tup [(.tup [(.int 0), (.int 0)]), (.tup [(.int 1), (.int 0)]), (.int 0)]), (.tup [(.tup [(.int 0), (.int 2)]), (.tup [(.int 1), (.int 1)]), (.int 0)])]), (.tup [(.tup [(.tup [(.int 0), (.int 0)]), (.tup [(.int 1), (.int 0)]), (.int 0)]), (.tup [(.tup [(.int 1), (.int 0)]), (.tup [(.int 0), (.int 0)]), (.int 1)])]), (.tup []), (.tup [(.tup [(.tup [(.int 0), (.int 0)]), (.tup [(.int 0), (.int 0)]), (.int 2)])])]), some (.tup [(.tup [(.tup [(.int 0), (.int 0)]), (.tup [(.int 1), (.int 0)]), (.int 0)]), (.tup [(.tup [(.int 1), (.int 0)]), (.tup [(.int 0), (.int 0)]), (.int 1)])]), none]
def F14 : J.Env := [none, none, some (.tup [(.int 2), (.tup [(.tup [(.int 0), (.int 1), (.int 2), (.int 3), (.int 1)])])]), some (.tup [(.int 2), (.tup [(.tup [(.int 0), (.int 1), (.int 1), (.int 1), (.int 0)]), (.tup [(.int 1), (.int 0), (.int 1), (.int 1), (.int 1)])])]), some (.lst [(.tup [(.int 7), (.int 1)]), (.tup [(.tup [(.tup [(.int 1), (.int 0)]), (.tup [(.int 0), (.int 0)]), (.int 1)]), (.tup [(.tup [(.int 0), (.int 0)]), (.tup [(.int 1), (.int 0)]), (.int 0)])]), (.tup [(.int 0), (.int 1), (.int 7)]), (.tup [(.tup [(.int 0), (.int 7)]), (.tup [(.int 3), (.int 10)])]), .non, (.tup [(.int 0), (.int 1), (.int 15)])]), some (.lst [(.tup [(.tup [(.int 0), (.int 0)]), (.tup [(.int 0), (.int 1)]), (.tup [(.int 0), (.int 2)]), (.tup [(.int 1), (.int 0)]), (.tup [(.int 1), (.int 1)])]), (.tup [(.tup [(.tup [(.int 0), (.int 0)]), (.tup [(.int 1), (.int 0)]), (.int 0)]), (.tup [(.tup [(.int 0), (.int 2)]), (.tup [(.int 1), (.int 1)]), (.int 0)])]), (.tup [(.tup [(.tup [(.int 0), (.int 0)]), (.tup [(.int 1), (.int 0)]), (.int 0)]), (.tup [(.tup [(.int 1), (.int 0)]), (.tup [(.int 0), (.int 0)]), (.int 1)])]), (.tup []), (.tup [(.tup [(.tup [(.int 0), (.int 0)]), (.tup [(.int 0), (.int 0)]), (.int 2)])])]), some (.tup [(.tup [(.tup [(.int 0), (.int 0)]), (.tup [(.int 1), (.int 0)]), (.int 0)]), (.tup [(.tup [(.int 1), (.int 0)]), (.tup [(.int 0), (.int 0)]), (.int 1)])]), some (.tup [(.int 2), (.tup [(.tup [(.int 0), (.int 1), (.int 1), (.int 1), (.int 0)]), (.tup [(.int 1), (.int 0), (.int 1), (.int 1), (.int 2)])])])]
def F15 : J.Env := [none, none, some (.tup [(.int 2), (.tup [(.tup [(.int 0), (.int 1), (.int 2), (.int 3), (.int 1)])])]), some (.tup [(.int 2), (.tup [(.tup [(.int 0), (.int 1), (.int 1), (.int 1), (.int 0)]), (.tup [(.int 1), (.int 0), (.int 1), (.int 1), (.int 1)])])]), some (.lst [(.tup [(.int 4), (.int 1)]), (.tup [(.int 3), (.int 1)])]), some (.lst [(.tup [(.tup [(.int 0), (.int 0)]), (.tup [(.int 0), (.int 1)]), (.tup [(.int 0), (.int 2)]), (.tup [(.int 1), (.int 0)]), (.tup [(.int 1), (.int 1)])]), (.tup [(.tup [(.tup [(.int 0), (.int 0)]), (.tup [(.int 1), (.int 0)]), (.int 0)]), (.tup [(.tup [(.int 0), (.int 2)]), (.tup [(.int 1), (.int 1)]), (.int 0)])]), (.tup [(.tup [(.tup [(.int 0), (.int 0)]), (.tup [(.int 1), (.int 0)]), (.int 0)]), (.tup [(.tup [(.int 1), (.int 0)]), (.tup [(.int 0), (.int 0)]), (.int 1)])]), (.tup []), (.tup [(.tup [(.tup [(.int 0), (.int 0)]), (.tup [(.int 0), (.int 0)]), (.int 2)])])]), some (.tup [(.tup [(.tup [(.int 0), (.int 0)]), (.tup [(.int 1), (.int 0)]), (.int 0)]), (.tup [(.tup [(.int 1), (.int 0)]), (.tup [(.int 0), (.int 0)]), (.int 1)])]), some (.tup [(.int 2), (.tup [(.tup [(.int 0), (.int 1), (.int 1), (.int 1), (.int 0)]), (.tup [(.int 1), (.int 0), (.int 1), (.int 1), (.int 2)])])])]
def F16 : J.Env := [none, none, some (.tup [(.int 2), (.tup [(.tup [(.int 0), (.int 1), (.int 2), (.int 3), (.int 1)])])]), some (.tup [(.int 2), (.tup [(.tup [(.int 0), (.int 1), (.int 1), (.int 1), (.int 0)]), (.tup [(.int 1), (.int 0), (.int 1), (.int 1), (.int 1)])])]), some (.lst [(.tup [(.int 4), (.int 1)]), (.tup [(.int 3), (.int 1)]), (.bl true), (.bl false)]), some (.lst [(.tup [(.tup [(.int 0), (.int 0)]), (.tup [(.int 0), (.int 1)]), (.tup [(.int 0), (.int 2)]), (.tup [(.int 1), (.int 0)]), (.tup [(.int 1), (.int 1)])]), (.tup [(.tup [(.tup [(.int 0), (.int 0)]), (.tup [(.int 1), (.int 0)]), (.int 0)]), (.tup [(.tup [(.int 0), (.int 2)]), (.tup [(.int 1), (.int 1)]), (.int 0)])]), (.tup [(.tup [(.tup [(.int 0), (.int 0)]), (.tup [(.int 1), (.int 0)]), (.int 0)]), (.tup [(.tup [(.int 1), (.int 0)]), (.tup [(.int 0), (.int 0)]), (.int 1)])]), (.tup []), (.tup [(.tup [(.tup [(.int 0), (.int 0)]), (.tup [(.int 0), (.int 0)]), (.int 2)])])]), some (.tup [(.tup [(.tup [(.int 0), (.int 0)]), (.tup [(.int 1), (.int 0)]), (.int 0)]), (.tup [(.tup [(.int 1), (.int 0)]), (.tup [(.int 0), (.int 0)]), (.int 1)])]), some (.tup [(.int 2), (.tup [(.tup [(.int 0), (.int 1), (.int 1), (.int 1), (.int 0)]), (.tup [(.int 1), (.int 0), (.int 1), (.int 1), (.int 2)])])])]
def F17 : J.Env := [none, none, some (.tup [(.int 2), (.tup [(.tup [(.int 0), (.int 1), (.int 2), (.int 3), (.int 1)])])]), some (.tup [(.int 2), (.tup [(.tup [(.int 0), (.int 1), (.int 1), (.int 1), (.int 0)]), (.tup [(.int 1), (.int 0), (.int 1), (.int 1), (.int 1)])])]), some (.lst [(.tup [(.int 4), (.int 1)]), (.tup [(.int 3), (.int 1)]), (.bl true), (.bl false), (.tup [(.int 7), (.int 1)])]), some (.lst [(.tup [(.tup [(.int 0), (.int 0)]), (.tup [(.int 0), (.int 1)]), (.tup [(.int 0), (.int 2)]), (.tup [(.int 1), (.int 0)]), (.tup [(.int 1), (.int 1)])]), (.tup [(.tup [(.tup [(.int 0), (.int 0)]), (.tup [(.int 1), (.int 0)]), (.int 0)]), (.tup [(.tup [(.int 0), (.int 2)]), (.tup [(.int 1), (.int 1)]), (.int 0)])]), (.tup [(.tup [(.tup [(.int 0), (.int 0)]), (.tup [(.int 1), (.int 0)]), (.int 0)]), (.tup [(.tup [(.int 1), (.int 0)]), (.tup [(.int 0), (.int 0)]), (.int 1)])]), (.tup []), (.tup [(.tup [(.tup [(.int 0), (.int 0)]), (.tup [(.int 0), (.int 0)]), (.int 2)])])]), some (.tup [(.tup [(.tup [(.int 0), (.int 0)]), (.tup [(.int 1), (.int 0)]), (.int 0)]), (.tup [(.tup [(.int 1), (.int 0)]), (.tup [(.int 0), (.int 0)]), (.int 1)])]), some (.tup [(.int 2), (.tup [(.tup [(.int 0), (.int 1), (.int 1), (.int 1), (.int 0)]), (.tup [(.int 1), (.int 0), (.int 1), (.int 1), (.int 2)])])])]
theorem st1 : ((sAsg (.tp [(.nm 2), (.nm 3)]) (eArgs bTup (aCons (eArgs bTup (aCons (eC (.int 2)) (aCons (eArgs bTup (aCons (eArgs bTup (aCons (eC (.int 0)) (aCons (eC (.int 1)) (aCons (eC (.int 2)) (aCons (eC (.int 3)) (aCons (eC (.int 1)) aNil)))))) aNil)) aNil))) (aCons (eArgs bTup (aCons (eC (.int 2)) (aCons (eArgs bTup (aCons (eArgs bTup (aCons (eC (.int 0)) (aCons (eC (.int 1)) (aCons (eC (.int 1)) (aCons (eC (.int 1)) (aCons (eC (.int 0)) aNil)))))) (aCons (eArgs bTup (aCons (eC (.int 1)) (aCons (eC (.int 0)) (aCons (eC (.int 1)) (aCons (eC (.int 1)) (aCons (eC (.int 1)) aNil)))))) aNil))) aNil))) aNil)))) : MS) F0 [] = .nx F1 [] := by kernel_rfl
theorem st2 : ((sSet 4 (eArgs bLst (aCons (eArgs (callF F_p_firings) (aCons (eVar 2) aNil)) (aCons (eArgs (callF F_p_needs) (aCons (eVar 2) aNil)) (aCons (eArgs (callF F_p_needs) (aCons (eVar 3) aNil)) (aCons (eArgs (callF F_p_needs) (aCons (eArgs bTup (aCons (eC (.int 1)) (aCons (eArgs bTup aNil) aNil))) aNil)) (aCons (eArgs (callF F_p_needs) (aCons (eArgs bTup (aCons (eC (.int 1)) (aCons (eArgs bTup (aCons (eArgs bTup (aCons (eC (.int 0)) (aCons (eC (.int 0)) (aCons (eC (.int 1)) (aCons (eC (.int 1)) (aCons (eC (.int 2)) aNil)))))) aNil)) aNil))) aNil)) aNil))))))) : MS) F1 [] = .nx F2 [] := by kernel_rfl
theorem st3 : ((sSet 5 (eArgs bLst (aCons (eArgs bTup (aCons (eArgs bTup (aCons (eC (.int 0)) (aCons (eC (.int 0)) aNil))) (aCons (eArgs bTup (aCons (eC (.int 0)) (aCons (eC (.int 1)) aNil))) (aCons (eArgs bTup (aCons (eC (.int 0)) (aCons (eC (.int 2)) aNil))) (aCons (eArgs bTup (aCons (eC (.int 1)) (aCons (eC (.int 0)) aNil))) (aCons (eArgs bTup (aCons (eC (.int 1)) (aCons (eC (.int 1)) aNil))) aNil)))))) (aCons (eArgs bTup (aCons (eArgs bTup (aCons (eArgs bTup (aCons (eC (.int 0)) (aCons (eC (.int 0)) aNil))) (aCons (eArgs bTup (aCons (eC (.int 1)) (aCons (eC (.int 0)) aNil))) (aCons (eC (.int 0)) aNil)))) (aCons (eArgs bTup (aCons (eArgs bTup (aCons (eC (.int 0)) (aCons (eC (.int 2)) aNil))) (aCons (eArgs bTup (aCons (eC (.int 1)) (aCons (eC (.int 1)) aNil))) (aCons (eC (.int 0)) aNil)))) aNil))) aNil)))) : MS) F2 [] = .nx F3 [] := by kernel_rfl
theorem st4 : ((sSet 5 (eOp oAdd (eVar 5) (eArgs bLst (aCons (eArgs bTup (aCons (eArgs bTup (aCons (eArgs bTup (aCons (eC (.int 0)) (aCons (eC (.int 0)) aNil))) (aCons (eArgs bTup (aCons (eC (.int 1)) (aCons (eC (.int 0)) aNil))) (aCons (eC (.int 0)) aNil)))) (aCons (eArgs bTup (aCons (eArgs bTup (aCons (eC (.int 1)) (aCons (eC (.int 0)) aNil))) (aCons (eArgs bTup (aCons (eC (.int 0)) (aCons (eC (.int 0)) aNil))) (aCons (eC (.int 1)) aNil)))) aNil))) (aCons (eArgs bTup aNil) (aCons (eArgs bTup (aCons (eArgs bTup (aCons (eArgs bTup (aCons (eC (.int 0)) (aCons (eC (.int 0)) aNil))) (aCons (eArgs bTup (aCons (eC (.int 0)) (aCons (eC (.int 0)) aNil))) (aCons (eC (.int 2)) aNil)))) aNil)) aNil)))))) : MS) F3 [] = .nx F4 [] := by kernel_rfl
theorem st5 : ((sIf (tNot (tTr (eArgs (callF (F_p_law_alike 8)) (aCons (eVar 4) (aCons (eVar 5) aNil))))) (sRet (eC (.bl false))) sNext) : MS) F4 [] = .nx F5 [] := by kernel_rfl
theorem st6 : ((sSet 4 (eArgs bLst (aCons (eArgs (callF F_p_start_times) (aCons (eVar 2) (aCons (eArgs bTup (aCons (eC (.int 2)) (aCons (eC (.int 5)) aNil))) (aCons (eC (.int 1)) aNil)))) (aCons (eArgs (callF F_p_first_time) (aCons (eVar 2) (aCons (eArgs bTup (aCons (eC (.int 2)) (aCons (eC (.int 5)) aNil))) aNil))) (aCons (eArgs (callF F_p_mean_time) (aCons (eVar 2) (aCons (eArgs bTup (aCons (eC (.int 2)) (aCons (eC (.int 5)) aNil))) aNil))) aNil))))) : MS) F5 [] = .nx F6 [] := by kernel_rfl
theorem st7 : ((sSet 4 (eOp oAdd (eVar 4) (eArgs bLst (aCons (eArgs (callF F_p_box_means) (aCons (eVar 2) (aCons (eArgs bTup (aCons (eC (.int 2)) (aCons (eC (.int 5)) aNil))) aNil))) (aCons (eArgs (callF F_p_mean_time) (aCons (eVar 2) (aCons (eArgs bTup (aCons (eC (.int 5)) (aCons (eC (.int 2)) aNil))) aNil))) (aCons (eArgs (callF F_p_box_means) (aCons (eVar 2) (aCons (eArgs bTup (aCons (eC (.int 5)) (aCons (eC (.int 2)) aNil))) aNil))) aNil)))))) : MS) F6 [] = .nx F7 [] := by kernel_rfl
theorem st8 : ((sIf (tNot (tTr (eArgs (callF (F_p_law_alike 8)) (aCons (eVar 4) (aCons (eArgs bLst (aCons (eArgs bTup (aCons (eArgs bTup (aCons (eC (.int 0)) (aCons (eC (.int 2)) (aCons (eC (.int 4)) aNil)))) (aCons (eArgs bTup (aCons (eC (.int 2)) (aCons (eC (.int 7)) aNil))) aNil))) (aCons (eC (.int 12)) (aCons (eArgs bTup (aCons (eC (.int 10)) (aCons (eC (.int 1)) aNil))) (aCons (eArgs bTup (aCons (eArgs bTup (aCons (eC (.int 6)) (aCons (eC (.int 1)) aNil))) (aCons (eArgs bTup (aCons (eC (.int 10)) (aCons (eC (.int 1)) aNil))) aNil))) (aCons (eArgs bTup (aCons (eC (.int 15)) (aCons (eC (.int 1)) aNil))) (aCons (eArgs bTup (aCons (eArgs bTup (aCons (eC (.int 15)) (aCons (eC (.int 1)) aNil))) (aCons (eArgs bTup (aCons (eC (.int 15)) (aCons (eC (.int 1)) aNil))) aNil))) aNil))))))) aNil))))) (sRet (eC (.bl false))) sNext) : MS) F7 [] = .nx F8 [] := by kernel_rfl
theorem st11 : ((sSet 6 (eArgs bTup (aCons (eArgs bTup (aCons (eArgs bTup (aCons (eC (.int 0)) (aCons (eC (.int 0)) aNil))) (aCons (eArgs bTup (aCons (eC (.int 1)) (aCons (eC (.int 0)) aNil))) (aCons (eC (.int 0)) aNil)))) (aCons (eArgs bTup (aCons (eArgs bTup (aCons (eC (.int 1)) (aCons (eC (.int 0)) aNil))) (aCons (eArgs bTup (aCons (eC (.int 0)) (aCons (eC (.int 0)) aNil))) (aCons (eC (.int 1)) aNil)))) aNil)))) : MS) F10 [] = .nx F11 [] := by kernel_rfl
theorem st12 : ((sIf (tNot (tTr (eArgs (callF (F_p_law_alike 8)) (aCons (eOp oAdd (eArgs bLst (aCons (eOp oIx (eVar 4) (eC (.int 0))) aNil)) (eSl (eVar 4) (some (eC (.int 2))) none)) (aCons (eArgs bLst (aCons (eArgs bTup (aCons (eC (.int 7)) (aCons (eC (.int 1)) aNil))) (aCons (eArgs bTup (aCons (eC (.int 0)) (aCons (eC (.int 1)) (aCons (eC (.int 7)) aNil)))) (aCons (eArgs bTup (aCons (eArgs bTup (aCons (eC (.int 0)) (aCons (eC (.int 7)) aNil))) (aCons (eArgs bTup (aCons (eC (.int 3)) (aCons (eC (.int 10)) aNil))) aNil))) (aCons (eC .non) (aCons (eArgs bTup (aCons (eC (.int 0)) (aCons (eC (.int 1)) (aCons (eC (.int 15)) aNil)))) aNil)))))) aNil))))) (sRet (eC (.bl false))) sNext) : MS) F11 [] = .nx F12 [] := by kernel_rfl
theorem st13 : ((sIf (tV (eOp oNin (eOp oIx (eVar 4) (eC (.int 1))) (eArgs bLst (aCons (eVar 6) (aCons (eRev (eVar 6)) aNil))))) (sRet (eC (.bl false))) sNext) : MS) F12 [] = .nx F13 [] := by kernel_rfl
theorem st14 : ((sSet 7 (eArgs bTup (aCons (eC (.int 2)) (aCons (eArgs bTup (aCons (eArgs bTup (aCons (eC (.int 0)) (aCons (eC (.int 1)) (aCons (eC (.int 1)) (aCons (eC (.int 1)) (aCons (eC (.int 0)) aNil)))))) (aCons (eArgs bTup (aCons (eC (.int 1)) (aCons (eC (.int 0)) (aCons (eC (.int 1)) (aCons (eC (.int 1)) (aCons (eC (.int 2)) aNil)))))) aNil))) aNil)))) : MS) F13 [] = .nx F14 [] := by kernel_rfl
theorem st15 : ((sSet 4 (eArgs bLst (aCons (eArgs (callF F_p_mean_time) (aCons (eVar 7) (aCons (eArgs bTup (aCons (eC (.int 3)) (aCons (eC (.int 4)) aNil))) aNil))) (aCons (eArgs (callF F_p_mean_time) (aCons (eVar 7) (aCons (eArgs bTup (aCons (eC (.int 3)) (aCons (eC (.int 3)) aNil))) aNil))) aNil)))) : MS) F14 [] = .nx F15 [] := by kernel_rfl
theorem st16 : ((sSet 4 (eOp oAdd (eVar 4) (eArgs bLst (aCons (eArgs (callF F_p_shows_slow_ring) (aCons (eVar 7) (aCons (eArgs bTup (aCons (eC (.int 3)) (aCons (eC (.int 4)) aNil))) (aCons (eArgs bTup (aCons (eArgs bTup (aCons (eArgs bTup (aCons (eC (.int 1)) (aCons (eC (.int 0)) aNil))) (aCons (eArgs bTup (aCons (eC (.int 1)) (aCons (eC (.int 0)) aNil))) (aCons (eC (.int 1)) aNil)))) aNil)) aNil)))) (aCons (eArgs (callF F_p_shows_slow_ring) (aCons (eVar 7) (aCons (eArgs bTup (aCons (eC (.int 3)) (aCons (eC (.int 4)) aNil))) (aCons (eVar 6) aNil)))) aNil))))) : MS) F15 [] = .nx F16 [] := by kernel_rfl
theorem st17 : ((sSet 4 (eOp oAdd (eVar 4) (eArgs bLst (aCons (eArgs (callF F_p_mean_time) (aCons (eArgs bTup (aCons (eC (.int 1)) (aCons (eArgs bTup (aCons (eArgs bTup (aCons (eC (.int 0)) (aCons (eC (.int 0)) (aCons (eC (.int 1)) (aCons (eC (.int 1)) (aCons (eC (.int 2)) aNil)))))) aNil)) aNil))) (aCons (eArgs bTup (aCons (eC (.int 7)) aNil)) aNil))) aNil)))) : MS) F16 [] = .nx F17 [] := by kernel_rfl
theorem st18 : isRt (((sRet (eArgs (callF (F_p_law_alike 8)) (aCons (eVar 4) (aCons (eArgs bLst (aCons (eArgs bTup (aCons (eC (.int 4)) (aCons (eC (.int 1)) aNil))) (aCons (eArgs bTup (aCons (eC (.int 3)) (aCons (eC (.int 1)) aNil))) (aCons (eC (.bl true)) (aCons (eC (.bl false)) (aCons (eArgs bTup (aCons (eC (.int 7)) (aCons (eC (.int 1)) aNil))) aNil)))))) aNil)))) : MS) F17 []) = true := by decide +kernel
end K51
set_option linter.all false
set_option maxRecDepth 100000
set_option maxHeartbeats 0
namespace K51
open J
theorem setC : F_p_settled [(.tup [.int 2, .tup [.tup [.int 0, .int 1, .int 1, .int 1, .int 0], .tup [.int 1, .int 0, .int 1, .int 1, .int 1]]]), (.tup [.int 3, .int 4])] [] = .ok (.tup [(.int 0), (.int 1), (.int 7)]) [] := by kernel_rfl
theorem u91 : (eArgs (callF F_p_mean_time) (aCons (eVar 3) (aCons (eArgs bTup (aCons (eC (.int 3)) (aCons (eC (.int 4)) aNil))) aNil))) F8 [] = .ok (.tup [(.int 7), (.int 1)]) [] := by kernel_rfl
theorem u92 : (eArgs (callF F_p_slow_ring) (aCons (eVar 3) (aCons (eArgs bTup (aCons (eC (.int 3)) (aCons (eC (.int 4)) aNil))) aNil))) F8 [] = .ok (.tup [(.tup [(.tup [(.int 1), (.int 0)]), (.tup [(.int 0), (.int 0)]), (.int 1)]), (.tup [(.tup [(.int 0), (.int 0)]), (.tup [(.int 1), (.int 0)]), (.int 0)])]) [] := by kernel_rfl
theorem u93 : (eArgs (callF F_p_settled) (aCons (eVar 3) (aCons (eArgs bTup (aCons (eC (.int 3)) (aCons (eC (.int 4)) aNil))) aNil))) F8 [] = .ok (.tup [(.int 0), (.int 1), (.int 7)]) [] := call_ev (xs := [(.tup [.int 2, .tup [.tup [.int 0, .int 1, .int 1, .int 1, .int 0], .tup [.int 1, .int 0, .int 1, .int 1, .int 1]]]), (.tup [.int 3, .int 4])]) (by kernel_rfl) (by kernel_rfl) setC (by kernel_rfl)
theorem st9 : ((sSet 4 (eArgs bLst (aCons (eArgs (callF F_p_mean_time) (aCons (eVar 3) (aCons (eArgs bTup (aCons (eC (.int 3)) (aCons (eC (.int 4)) aNil))) aNil))) (aCons (eArgs (callF F_p_slow_ring) (aCons (eVar 3) (aCons (eArgs bTup (aCons (eC (.int 3)) (aCons (eC (.int 4)) aNil))) aNil))) (aCons (eArgs (callF F_p_settled) (aCons (eVar 3) (aCons (eArgs bTup (aCons (eC (.int 3)) (aCons (eC (.int 4)) aNil))) aNil))) aNil))))) : MS) F8 [] = .nx F9 [] := set_ev (d := (.lst [(.tup [(.int 7), (.int 1)]), (.tup [(.tup [(.tup [(.int 1), (.int 0)]), (.tup [(.int 0), (.int 0)]), (.int 1)]), (.tup [(.tup [(.int 0), (.int 0)]), (.tup [(.int 1), (.int 0)]), (.int 0)])]), (.tup [(.int 0), (.int 1), (.int 7)])])) ((args3 u91 u92 u93).trans (by kernel_rfl))
theorem u101 : (eArgs (callF F_p_start_times) (aCons (eVar 3) (aCons (eArgs bTup (aCons (eC (.int 3)) (aCons (eC (.int 4)) aNil))) (aCons (eC (.int 2)) aNil)))) F9 [] = .ok (.tup [(.tup [(.int 0), (.int 7)]), (.tup [(.int 3), (.int 10)])]) [] := by kernel_rfl
theorem u102 : (eArgs (callF F_p_settled) (aCons (eVar 2) (aCons (eArgs bTup (aCons (eC (.int 2)) (aCons (eC (.int 5)) aNil))) aNil))) F9 [] = .ok .non [] := call_ev (xs := [(.tup [.int 2, (.tup [.tup [.int 0, .int 1, .int 2, .int 3, .int 1]])]), (.tup [.int 2, .int 5])]) (by kernel_rfl) (by kernel_rfl) setA (by kernel_rfl)
theorem u103 : (eArgs (callF F_p_settled) (aCons (eVar 2) (aCons (eArgs bTup (aCons (eC (.int 5)) (aCons (eC (.int 3)) aNil))) aNil))) F9 [] = .ok (.tup [(.int 0), (.int 1), (.int 15)]) [] := call_ev (xs := [(.tup [.int 2, (.tup [.tup [.int 0, .int 1, .int 2, .int 3, .int 1]])]), (.tup [.int 5, .int 3])]) (by kernel_rfl) (by kernel_rfl) setB (by kernel_rfl)
theorem op_ev {f : D → D → List D → R D} {a b : ME} {E : J.Env} {d1 d2 d : D} (h1 : a E [] = .ok d1 []) (h2 : b E [] = .ok d2 []) (h : f d1 d2 [] = .ok d []) : J.eOp f a b E [] = .ok d [] := by
  unfold J.eOp
  rw [h1]
  simp only [bind_ok]
  rw [h2]
  exact h
theorem u10 : (eOp oAdd (eVar 4) (eArgs bLst (aCons (eArgs (callF F_p_start_times) (aCons (eVar 3) (aCons (eArgs bTup (aCons (eC (.int 3)) (aCons (eC (.int 4)) aNil))) (aCons (eC (.int 2)) aNil)))) (aCons (eArgs (callF F_p_settled) (aCons (eVar 2) (aCons (eArgs bTup (aCons (eC (.int 2)) (aCons (eC (.int 5)) aNil))) aNil))) (aCons (eArgs (callF F_p_settled) (aCons (eVar 2) (aCons (eArgs bTup (aCons (eC (.int 5)) (aCons (eC (.int 3)) aNil))) aNil))) aNil))))) F9 [] = .ok (.lst [(.tup [(.int 7), (.int 1)]), (.tup [(.tup [(.tup [(.int 1), (.int 0)]), (.tup [(.int 0), (.int 0)]), (.int 1)]), (.tup [(.tup [(.int 0), (.int 0)]), (.tup [(.int 1), (.int 0)]), (.int 0)])]), (.tup [(.int 0), (.int 1), (.int 7)]), (.tup [(.tup [(.int 0), (.int 7)]), (.tup [(.int 3), (.int 10)])]), .non, (.tup [(.int 0), (.int 1), (.int 15)])]) [] := op_ev (d2 := .lst [(.tup [(.tup [(.int 0), (.int 7)]), (.tup [(.int 3), (.int 10)])]), .non, (.tup [(.int 0), (.int 1), (.int 15)])]) (d1 := (.lst [(.tup [(.int 7), (.int 1)]), (.tup [(.tup [(.tup [(.int 1), (.int 0)]), (.tup [(.int 0), (.int 0)]), (.int 1)]), (.tup [(.tup [(.int 0), (.int 0)]), (.tup [(.int 1), (.int 0)]), (.int 0)])]), (.tup [(.int 0), (.int 1), (.int 7)])])) (by kernel_rfl) ((args3 u101 u102 u103).trans (by kernel_rfl)) (by kernel_rfl)
theorem st10 : ((sSet 4 (eOp oAdd (eVar 4) (eArgs bLst (aCons (eArgs (callF F_p_start_times) (aCons (eVar 3) (aCons (eArgs bTup (aCons (eC (.int 3)) (aCons (eC (.int 4)) aNil))) (aCons (eC (.int 2)) aNil)))) (aCons (eArgs (callF F_p_settled) (aCons (eVar 2) (aCons (eArgs bTup (aCons (eC (.int 2)) (aCons (eC (.int 5)) aNil))) aNil))) (aCons (eArgs (callF F_p_settled) (aCons (eVar 2) (aCons (eArgs bTup (aCons (eC (.int 5)) (aCons (eC (.int 3)) aNil))) aNil))) aNil)))))) : MS) F9 [] = .nx F10 [] := set_ev (d := (.lst [(.tup [(.int 7), (.int 1)]), (.tup [(.tup [(.tup [(.int 1), (.int 0)]), (.tup [(.int 0), (.int 0)]), (.int 1)]), (.tup [(.tup [(.int 0), (.int 0)]), (.tup [(.int 1), (.int 0)]), (.int 0)])]), (.tup [(.int 0), (.int 1), (.int 7)]), (.tup [(.tup [(.int 0), (.int 7)]), (.tup [(.int 3), (.int 10)])]), .non, (.tup [(.int 0), (.int 1), (.int 15)])])) u10
end K51
set_option linter.all false
set_option maxRecDepth 100000
set_option maxHeartbeats 0
namespace K51
open J
theorem r_ok : isRt (R_p_law F0 []) = true := by
  unfold R_p_law
  show isRt (sSeq _ _ F0 []) = true
  rw [seq_nx st1]
  rw [seq_nx st2]
  rw [seq_nx st3]
  rw [seq_nx st4]
  rw [seq_nx st5]
  rw [seq_nx st6]
  rw [seq_nx st7]
  rw [seq_nx st8]
  rw [seq_nx st9]
  rw [seq_nx st10]
  rw [seq_nx st11]
  rw [seq_nx st12]
  rw [seq_nx st13]
  rw [seq_nx st14]
  rw [seq_nx st15]
  rw [seq_nx st16]
  rw [seq_nx st17]
  exact st18
theorem law_true (ns : List Int) (h : ns.length ≤ 63) : ∃ S, F_p_law [.rdl (ns.map D.int)] [] = .ok (.bl true) S := by
  refine ⟨[], closed_law ?_ (R := R_p_law) ?_⟩
  · rfl
  · exact r_ok
end K51
open PySem PySem.W PyProof.Rows
set_option maxHeartbeats 0 in
theorem PySem.Challenge.cw_rateflows_k51_known_speed_holds : PySem.Challenge.rw_rateflows_k51_known_speed.Holds := by
  w_on; o_law; k_head; (case hw => w_witness2)
  k_fill
  refine L2.walk_of (l := PySem.Challenge.rw_rateflows_k51_known_speed) (n := 63) (k := 20) (x := "script") (CX := fun w => L2.CX PySem.Challenge.rw_rateflows_k51_known_speed.prog w) (sp := fun w => K51.spLaw _) rfl (by decide) rfl ⟨rfl, by decide, by decide⟩ (fun w h Y => PySem.W.kIn_of Y) ?F (fun _ _ a ns hl _ hS => ⟨a, ns, rfl, hS, hl, fun _ => rfl⟩) (fun _ _ _ _ _ h => K51.no_exc h)
  case F =>
    intro w mg fa h KX G hmg
    refine' K51.all_mk KX G hmg (K51.law_true) ?a0 ?l0 ?c0 ?k0 ?a1 ?l1 ?c1 ?k1 ?a2 ?l2 ?c2 ?k2 ?a3 ?l3 ?c3 ?k3 ?a4 ?l4 ?c4 ?k4 ?a5 ?l5 ?c5 ?k5 ?a6 ?l6 ?c6 ?k6 ?a7 ?l7 ?c7 ?k7 ?a8 ?l8 ?c8 ?k8 ?a9 ?l9 ?c9 ?k9 ?a10 ?l10 ?c10 ?k10 ?a11 ?l11 ?c11 ?k11 ?a12 ?l12 ?c12 ?k12 ?a13 ?l13 ?c13 ?k13 ?a14 ?l14 ?c14 ?k14 ?a15 ?l15 ?c15 ?k15 ?a16 ?l16 ?c16 ?k16 ?a17 ?l17 ?c17 ?k17 ?a18 ?l18 ?c18 ?k18 ?a19 ?l19 ?c19 ?k19 ?a20 ?l20 ?c20 ?k20 ?a21 ?l21 ?c21 ?k21 ?a22 ?l22 ?c22 ?k22 ?a23 ?l23 ?c23 ?k23 ?a24 ?l24 ?c24 ?k24 ?a25 ?l25 ?c25 ?k25 ?a26 ?l26 ?c26 ?k26 ?a27 ?l27 ?c27 ?k27 ?a28 ?l28 ?c28 ?k28 ?a29 ?l29 ?c29 ?k29 ?a30 ?l30 ?c30 ?k30 ?a31 ?l31 ?c31 ?k31 ?a32 ?l32 ?c32 ?k32 ?a33 ?l33 ?c33 ?k33 ?a34 ?l34 ?c34 ?k34 ?a35 ?l35 ?c35 ?k35 ?a36 ?l36 ?c36 ?k36 ?a37 ?l37 ?c37 ?k37 ?a38 ?l38 ?c38 ?k38 ?a39 ?l39 ?c39 ?k39 ?a40 ?l40 ?c40 ?k40 ?a41 ?l41 ?c41 ?k41 ?a42 ?l42 ?c42 ?k42 ?a43 ?l43 ?c43 ?k43 ?a44 ?l44 ?c44 ?k44 ?a45 ?l45 ?c45 ?k45 ?a46 ?l46 ?c46 ?k46 ?a47 ?l47 ?c47 ?k47 ?a48 ?l48 ?c48 ?k48 ?a49 ?l49 ?c49 ?k49 ?a50 ?l50 ?c50 ?k50 ?a51 ?l51 ?c51 ?k51 ?a52 ?l52 ?c52 ?k52 ?a53 ?l53 ?c53 ?k53 ?a54 ?l54 ?c54 ?k54 ?a55 ?l55 ?c55 ?k55 ?z_all ?z_any ?z_bool ?z_enumerate ?z_int ?z_isinstance ?z_len ?z_list ?z_max ?z_min ?z_range ?z_sorted ?z_str ?z_sum ?z_tuple ?z_zip ?z_MOST_BOXES ?z_MOST_DURATION ?z_MOST_FIRINGS ?z_MOST_PIPES ?z_MOST_RATE ?z_MOST_ROUNDS ?z_MOST_TOKENS ?z_MOST_UNROLLED ?z_gcd ?z_lcm
    (case a0 => k_is)
    (case l0 => k_is)
    (case c0 => k_is)
    (case k0 => k_is)
    (case a1 => k_is)
    (case l1 => k_is)
    (case c1 => k_is)
    (case k1 => k_is)
    (case a2 => k_is)
    (case l2 => k_is)
    (case c2 => k_is)
    (case k2 => k_is)
    (case a3 => k_is)
    (case l3 => k_is)
    (case c3 => k_is)
    (case k3 => k_is)
    (case a4 => k_is)
    (case l4 => k_is)
    (case c4 => k_is)
    (case k4 => k_is)
    (case a5 => k_is)
    (case l5 => k_is)
    (case c5 => k_is)
    (case k5 => k_is)
    (case a6 => k_is)
    (case l6 => k_is)
    (case c6 => k_is)
    (case k6 => k_is)
    (case a7 => k_is)
    (case l7 => k_is)
    (case c7 => k_is)
    (case k7 => k_is)
    (case a8 => k_is)
    (case l8 => k_is)
    (case c8 => k_is)
    (case k8 => k_is)
    (case a9 => k_is)
    (case l9 => k_is)
    (case c9 => k_is)
    (case k9 => k_is)
    (case a10 => k_is)
    (case l10 => k_is)
    (case c10 => k_is)
    (case k10 => k_is)
    (case a11 => k_is)
    (case l11 => k_is)
    (case c11 => k_is)
    (case k11 => k_is)
    (case a12 => k_is)
    (case l12 => k_is)
    (case c12 => k_is)
    (case k12 => k_is)
    (case a13 => k_is)
    (case l13 => k_is)
    (case c13 => k_is)
    (case k13 => k_is)
    (case a14 => k_is)
    (case l14 => k_is)
    (case c14 => k_is)
    (case k14 => k_is)
    (case a15 => k_is)
    (case l15 => k_is)
    (case c15 => k_is)
    (case k15 => k_is)
    (case a16 => k_is)
    (case l16 => k_is)
    (case c16 => k_is)
    (case k16 => k_is)
    (case a17 => k_is)
    (case l17 => k_is)
    (case c17 => k_is)
    (case k17 => k_is)
    (case a18 => k_is)
    (case l18 => k_is)
    (case c18 => k_is)
    (case k18 => k_is)
    (case a19 => k_is)
    (case l19 => k_is)
    (case c19 => k_is)
    (case k19 => k_is)
    (case a20 => k_is)
    (case l20 => k_is)
    (case c20 => k_is)
    (case k20 => k_is)
    (case a21 => k_is)
    (case l21 => k_is)
    (case c21 => k_is)
    (case k21 => k_is)
    (case a22 => k_is)
    (case l22 => k_is)
    (case c22 => k_is)
    (case k22 => k_is)
    (case a23 => k_is)
    (case l23 => k_is)
    (case c23 => k_is)
    (case k23 => k_is)
    (case a24 => k_is)
    (case l24 => k_is)
    (case c24 => k_is)
    (case k24 => k_is)
    (case a25 => k_is)
    (case l25 => k_is)
    (case c25 => k_is)
    (case k25 => k_is)
    (case a26 => k_is)
    (case l26 => k_is)
    (case c26 => k_is)
    (case k26 => k_is)
    (case a27 => k_is)
    (case l27 => k_is)
    (case c27 => k_is)
    (case k27 => k_is)
    (case a28 => k_is)
    (case l28 => k_is)
    (case c28 => k_is)
    (case k28 => k_is)
    (case a29 => k_is)
    (case l29 => k_is)
    (case c29 => k_is)
    (case k29 => k_is)
    (case a30 => k_is)
    (case l30 => k_is)
    (case c30 => k_is)
    (case k30 => k_is)
    (case a31 => k_is)
    (case l31 => k_is)
    (case c31 => k_is)
    (case k31 => k_is)
    (case a32 => k_is)
    (case l32 => k_is)
    (case c32 => k_is)
    (case k32 => k_is)
    (case a33 => k_is)
    (case l33 => k_is)
    (case c33 => k_is)
    (case k33 => k_is)
    (case a34 => k_is)
    (case l34 => k_is)
    (case c34 => k_is)
    (case k34 => k_is)
    (case a35 => k_is)
    (case l35 => k_is)
    (case c35 => k_is)
    (case k35 => k_is)
    (case a36 => k_is)
    (case l36 => k_is)
    (case c36 => k_is)
    (case k36 => k_is)
    (case a37 => k_is)
    (case l37 => k_is)
    (case c37 => k_is)
    (case k37 => k_is)
    (case a38 => k_is)
    (case l38 => k_is)
    (case c38 => k_is)
    (case k38 => k_is)
    (case a39 => k_is)
    (case l39 => k_is)
    (case c39 => k_is)
    (case k39 => k_is)
    (case a40 => k_is)
    (case l40 => k_is)
    (case c40 => k_is)
    (case k40 => k_is)
    (case a41 => k_is)
    (case l41 => k_is)
    (case c41 => k_is)
    (case k41 => k_is)
    (case a42 => k_is)
    (case l42 => k_is)
    (case c42 => k_is)
    (case k42 => k_is)
    (case a43 => k_is)
    (case l43 => k_is)
    (case c43 => k_is)
    (case k43 => k_is)
    (case a44 => k_is)
    (case l44 => k_is)
    (case c44 => k_is)
    (case k44 => k_is)
    (case a45 => k_is)
    (case l45 => k_is)
    (case c45 => k_is)
    (case k45 => k_is)
    (case a46 => k_is)
    (case l46 => k_is)
    (case c46 => k_is)
    (case k46 => k_is)
    (case a47 => k_is)
    (case l47 => k_is)
    (case c47 => k_is)
    (case k47 => k_is)
    (case a48 => k_is)
    (case l48 => k_is)
    (case c48 => k_is)
    (case k48 => k_is)
    (case a49 => k_is)
    (case l49 => k_is)
    (case c49 => k_is)
    (case k49 => k_is)
    (case a50 => k_is)
    (case l50 => k_is)
    (case c50 => k_is)
    (case k50 => k_is)
    (case a51 => k_is)
    (case l51 => k_is)
    (case c51 => k_is)
    (case k51 => k_is)
    (case a52 => k_is)
    (case l52 => k_is)
    (case c52 => k_is)
    (case k52 => k_is)
    (case a53 => k_is)
    (case l53 => k_is)
    (case c53 => k_is)
    (case k53 => k_is)
    (case a54 => k_is)
    (case l54 => k_is)
    (case c54 => k_is)
    (case k54 => k_is)
    (case a55 => k_is)
    (case l55 => k_is)
    (case c55 => k_is)
    (case k55 => k_is)
    (case z_all => k_is)
    (case z_any => k_is)
    (case z_bool => k_is)
    (case z_enumerate => k_is)
    (case z_int => k_is)
    (case z_isinstance => k_is)
    (case z_len => k_is)
    (case z_list => k_is)
    (case z_max => k_is)
    (case z_min => k_is)
    (case z_range => k_is)
    (case z_sorted => k_is)
    (case z_str => k_is)
    (case z_sum => k_is)
    (case z_tuple => k_is)
    (case z_zip => k_is)
    (case z_MOST_BOXES => k_is)
    (case z_MOST_DURATION => k_is)
    (case z_MOST_FIRINGS => k_is)
    (case z_MOST_PIPES => k_is)
    (case z_MOST_RATE => k_is)
    (case z_MOST_ROUNDS => k_is)
    (case z_MOST_TOKENS => k_is)
    (case z_MOST_UNROLLED => k_is)
    (case z_gcd => k_is)
    (case z_lcm => k_is)
