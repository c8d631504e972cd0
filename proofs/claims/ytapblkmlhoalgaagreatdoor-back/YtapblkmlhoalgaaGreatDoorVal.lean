/- Values as trees; what a value's text and bytes are read as, and how it is written as both. -/
import Derived.Test.YtapblkmlhoalgaaGreatDoorTree
namespace Go.Proofs.YtapblkmlhoalgaaGreatDoor
open Go.RowKit

/-- A value: its type, a number, bytes, parts. -/
structure PV where
  of : PT
  num : Int
  bytes : List UInt8
  parts : List PV

abbrev Bs := List UInt8

/-! ### Reading text. A reader answers what it read, or nothing, and what is left: it stands ahead of that. -/

def rAcc (c : Nat) : Bs → Option Bs
  | [] => none
  | b :: l => if b.toNat = c then some l else none

def rDigits (most : Nat) : Nat → Bs → Nat × Bs
  | acc, [] => (acc, [])
  | acc, b :: l => if b.toNat < 48 ∨ 57 < b.toNat ∨ (most - (b.toNat - 48)) / 10 < acc then (acc, b :: l) else rDigits most (acc * 10 + (b.toNat - 48)) l

def rUns (most : Nat) (l : Bs) : Option Nat × Bs :=
  match rAcc 48 l with
  | some r => (some 0, r)
  | none => (if (rDigits most 0 l).2.length < l.length then some (rDigits most 0 l).1 else none, (rDigits most 0 l).2)

def rSigned (l : Bs) : Option Int × Bs :=
  match rAcc 45 l with
  | none => ((rUns 9223372036854775807 l).1.map Int.ofNat, (rUns 9223372036854775807 l).2)
  | some r => match rAcc 48 r with
    | some _ => (none, r)
    | none => ((rUns 9223372036854775808 r).1.map (fun (n : Nat) => -(n : Int)), (rUns 9223372036854775808 r).2)

def rOne (ws : List Bs) : Bs → Bs → Option Nat × Bs
  | got, [] => (ws.findIdx? (fun x => x == got), [])
  | got, b :: l => match ws.findIdx? (fun x => x == got) with
    | some i => (some i, b :: l)
    | none => if ws.any (fun x => (got ++ [b]).isPrefixOf x) then rOne ws (got ++ [b]) l else (none, b :: l)

/-- A text behind its first quote; so many bytes may still come. -/
def rQuo : Nat → Bs → Bs → Option Bs × Bs
  | _, _, [] => (none, [])
  | 0, acc, b :: l => if b.toNat = 34 then (some acc, l) else (none, b :: l)
  | k + 1, acc, b :: l =>
    if b.toNat = 34 then (some acc, l) else
    if b.toNat = 92 then
      match l with
      | [] => (none, [])
      | c :: l' => if c.toNat = 34 ∨ c.toNat = 92 then rQuo k (acc ++ [c]) l' else (none, c :: l')
    else if 32 ≤ b.toNat ∧ b.toNat ≤ 126 then rQuo k (acc ++ [b]) l else (none, b :: l)

def rQuoted (l : Bs) : Option Bs × Bs :=
  match rAcc 34 l with
  | none => (none, l)
  | some r => rQuo 300 [] r

def hexD : Bs → Option (Nat × Bs)
  | [] => none
  | b :: l => if 48 ≤ b.toNat ∧ b.toNat ≤ 57 then some (b.toNat - 48, l) else if 97 ≤ b.toNat ∧ b.toNat ≤ 102 then some (b.toNat - 87, l) else none

def rHex : Nat → Bs → Bs → Option Bs × Bs
  | 0, acc, l => (some acc, l)
  | k + 1, acc, l => match hexD l with
    | none => (some acc, l)
    | some (h, l1) => match hexD l1 with
      | none => (none, l1)
      | some (g, l2) => rHex k (acc ++ [UInt8.ofNat (16 * h + g)]) l2

def rHexa (l : Bs) : Option Bs × Bs :=
  match rAcc 120 l with
  | none => (none, l)
  | some r => rHex 300 [] r

/-- Elements behind the bracket. -/
def rElems (rd : Bs → Option PV × Bs) : Nat → List PV → Bs → Option (List PV) × Bs
  | 0, _, l => (none, l)
  | k + 1, acc, l => match rd l with
    | (none, l1) => (none, l1)
    | (some v, l1) => match rAcc 93 l1 with
      | some l2 => (some (acc ++ [v]), l2)
      | none => if acc.length + 1 = 300 then (none, l1) else
        match rAcc 44 l1 with
        | some l2 => rElems rd k (acc ++ [v]) l2
        | none => (none, l1)

def rList (rd : Bs → Option PV × Bs) (l : Bs) : Option (List PV) × Bs :=
  match rAcc 91 l with
  | none => (none, l)
  | some l1 => match rAcc 93 l1 with
    | some l2 => (some [], l2)
    | none => rElems rd 300 [] l1

def rOpt (rd : Bs → Option PV × Bs) (l : Bs) : Option (List PV) × Bs :=
  match rAcc 45 l with
  | some l1 => (some [], l1)
  | none => match rAcc 43 l with
    | none => (none, l)
    | some l1 => ((rd l1).1.map (fun v => [v]), (rd l1).2)

def rFields (rd : PT → Bs → Option PV × Bs) : List PT → Nat → List PV → Bs → Option (List PV) × Bs
  | [], _, acc, l => match rAcc 125 l with
    | some l1 => (some acc, l1)
    | none => (none, l)
  | t :: ts, ahead, acc, l => match rAcc ahead l with
    | none => (none, l)
    | some l1 => match rd t l1 with
      | (none, l2) => (none, l2)
      | (some v, l2) => rFields rd ts 44 (acc ++ [v]) l2

def nameBs (n : ByteArray) : Bs := n.data.toList ++ [58]
def PT.sub (t : PT) (i : Nat) : PT := (t.subs[i]?).getD PT.dummy

def rCase (rd : PT → Bs → Option PV × Bs) (t : PT) (l : Bs) : Option (Nat × PV) × Bs :=
  match rOne (t.names.map nameBs) [] l with
  | (none, l1) => (none, l1)
  | (some i, l1) => ((rd (t.sub i) l1).1.map (fun v => (i, v)), (rd (t.sub i) l1).2)

def mostOf (kind : Nat) : Nat := if kind = 0 then 255 else if kind = 1 then 65535 else 4294967295
def wNo : Bs := [110, 111]
def wYes : Bs := [121, 101, 115]

def vNum (t : PT) (n : Int) : PV := ⟨t, n, [], []⟩
def vBytes (t : PT) (b : Bs) : PV := ⟨t, 0, b, []⟩
def vParts (t : PT) (n : Int) (l : List PV) : PV := ⟨t, n, [], l⟩

def rText : Nat → PT → Bs → Option PV × Bs
  | 0, _, l => (none, l)
  | k + 1, t, l =>
    if t.kind ≤ 2 then ((rUns (mostOf t.kind) l).1.map (fun (n : Nat) => vNum t n), (rUns (mostOf t.kind) l).2)
    else if t.kind = 3 then ((rSigned l).1.map (vNum t), (rSigned l).2)
    else if t.kind = 4 then ((rOne [wNo, wYes] [] l).1.map (fun (n : Nat) => vNum t n), (rOne [wNo, wYes] [] l).2)
    else if t.kind = 5 then ((rQuoted l).1.map (vBytes t), (rQuoted l).2)
    else if t.kind = 6 then ((rHexa l).1.map (vBytes t), (rHexa l).2)
    else if t.kind = 7 then ((rList (rText k (t.sub 0)) l).1.map (vParts t 0), (rList (rText k (t.sub 0)) l).2)
    else if t.kind = 8 then ((rOpt (rText k (t.sub 0)) l).1.map (vParts t 0), (rOpt (rText k (t.sub 0)) l).2)
    else if t.kind = 9 then ((rFields (rText k) t.subs 123 [] l).1.map (vParts t 0), (rFields (rText k) t.subs 123 [] l).2)
    else ((rCase (rText k) t l).1.map (fun p => vParts t p.1 [p.2]), (rCase (rText k) t l).2)

/-! ### Reading bytes -/

def leNat : Bs → Nat
  | [] => 0
  | b :: l => b.toNat + 256 * leNat l
def beNat (l : Bs) : Nat := l.foldl (fun n b => n * 256 + b.toNat) 0
def toInt64 (n : Nat) : Int := if n < 9223372036854775808 then n else (n : Int) - 18446744073709551616

def mTake (c : Nat) (l : Bs) : Option Bs × Bs := if l.length < c then (none, []) else (some (l.take c), l.drop c)

def mBelow (c : Nat) : Bs → Option Nat × Bs
  | [] => (none, [])
  | b :: l => if b.toNat < c then (some b.toNat, l) else (none, b :: l)

def mCount : Bs → Option Nat × Bs
  | [] => (none, [])
  | b :: l => if b.toNat ≤ 127 then (some b.toNat, l) else
    match l with
    | [] => (none, [])
    | c :: l' => if c.toNat = 0 ∨ 300 < b.toNat - 128 + 128 * c.toNat then (none, c :: l') else (some (b.toNat - 128 + 128 * c.toNat), l')

def mVis : Nat → Bs → Bs → Option Bs × Bs
  | 0, acc, l => (some acc, l)
  | _ + 1, _, [] => (none, [])
  | k + 1, acc, b :: l => if 32 ≤ b.toNat ∧ b.toNat ≤ 126 then mVis k (acc ++ [b]) l else (none, b :: l)

def mText (l : Bs) : Option Bs × Bs :=
  match mCount l with
  | (none, r) => (none, r)
  | (some n, r) => mVis n [] r
def mBytes (l : Bs) : Option Bs × Bs :=
  match mCount l with
  | (none, r) => (none, r)
  | (some n, r) => mTake n r

def mSeveral (rd : Bs → Option PV × Bs) : Nat → List PV → Bs → Option (List PV) × Bs
  | 0, acc, l => (some acc, l)
  | k + 1, acc, l => match rd l with
    | (none, l1) => (none, l1)
    | (some v, l1) => mSeveral rd k (acc ++ [v]) l1
def mList (rd : Bs → Option PV × Bs) (l : Bs) : Option (List PV) × Bs :=
  match mCount l with
  | (none, r) => (none, r)
  | (some n, r) => mSeveral rd n [] r
def mOpt (rd : Bs → Option PV × Bs) (l : Bs) : Option (List PV) × Bs :=
  match mBelow 2 l with
  | (none, r) => (none, r)
  | (some n, r) => mSeveral rd n [] r
def mFields (rd : PT → Bs → Option PV × Bs) : List PT → List PV → Bs → Option (List PV) × Bs
  | [], acc, l => (some acc, l)
  | t :: ts, acc, l => match rd t l with
    | (none, l1) => (none, l1)
    | (some v, l1) => mFields rd ts (acc ++ [v]) l1
def mCase (rd : PT → Bs → Option PV × Bs) (t : PT) (l : Bs) : Option (Nat × PV) × Bs :=
  match mBelow t.subs.length l with
  | (none, l1) => (none, l1)
  | (some i, l1) => ((rd (t.sub i) l1).1.map (fun v => (i, v)), (rd (t.sub i) l1).2)

def widthOf (kind : Nat) : Nat := if kind = 0 then 1 else if kind = 1 then 2 else 4

def rMsg : Nat → PT → Bs → Option PV × Bs
  | 0, _, l => (none, l)
  | k + 1, t, l =>
    if t.kind ≤ 2 then ((mTake (widthOf t.kind) l).1.map (fun b => vNum t (leNat b)), (mTake (widthOf t.kind) l).2)
    else if t.kind = 3 then ((mTake 8 l).1.map (fun b => vNum t (toInt64 (beNat b))), (mTake 8 l).2)
    else if t.kind = 4 then ((mBelow 2 l).1.map (fun (n : Nat) => vNum t n), (mBelow 2 l).2)
    else if t.kind = 5 then ((mText l).1.map (vBytes t), (mText l).2)
    else if t.kind = 6 then ((mBytes l).1.map (vBytes t), (mBytes l).2)
    else if t.kind = 7 then ((mList (rMsg k (t.sub 0)) l).1.map (vParts t 0), (mList (rMsg k (t.sub 0)) l).2)
    else if t.kind = 8 then ((mOpt (rMsg k (t.sub 0)) l).1.map (vParts t 0), (mOpt (rMsg k (t.sub 0)) l).2)
    else if t.kind = 9 then ((mFields (rMsg k) t.subs [] l).1.map (vParts t 0), (mFields (rMsg k) t.subs [] l).2)
    else ((mCase (rMsg k) t l).1.map (fun p => vParts t p.1 [p.2]), (mCase (rMsg k) t l).2)

/-! ### Writing -/

def leBytes : Nat → Nat → Bs
  | 0, _ => []
  | c + 1, n => UInt8.ofNat n :: leBytes c (n / 256)
def beBytes (c n : Nat) : Bs := (leBytes c n).reverse
def ofInt64 (n : Int) : Nat := (n % 18446744073709551616).toNat
def wCount (n : Nat) : Bs := if n ≤ 127 then [UInt8.ofNat n] else [UInt8.ofNat (n % 128 + 128), UInt8.ofNat (n / 128)]

def wMsg : Nat → PV → Bs
  | 0, _ => []
  | k + 1, v =>
    if v.of.kind ≤ 2 then leBytes (widthOf v.of.kind) v.num.toNat
    else if v.of.kind = 3 then beBytes 8 (ofInt64 v.num)
    else if v.of.kind = 4 then [UInt8.ofNat v.num.toNat]
    else if v.of.kind ≤ 6 then wCount v.bytes.length ++ v.bytes
    else if v.of.kind ≤ 8 then wCount v.parts.length ++ v.parts.flatMap (wMsg k)
    else if v.of.kind = 9 then v.parts.flatMap (wMsg k)
    else UInt8.ofNat v.num.toNat :: v.parts.flatMap (wMsg k)

theorem wMsg_mk (k : Nat) (t : PT) (n : Int) (b : Bs) (p : List PV) : wMsg (k + 1) ⟨t, n, b, p⟩ =
    if t.kind ≤ 2 then leBytes (widthOf t.kind) n.toNat
    else if t.kind = 3 then beBytes 8 (ofInt64 n)
    else if t.kind = 4 then [UInt8.ofNat n.toNat]
    else if t.kind ≤ 6 then wCount b.length ++ b
    else if t.kind ≤ 8 then wCount p.length ++ p.flatMap (wMsg k)
    else if t.kind = 9 then p.flatMap (wMsg k)
    else UInt8.ofNat n.toNat :: p.flatMap (wMsg k) := rfl

def decN : Nat → Nat → Bs
  | 0, _ => []
  | f + 1, n => (if n < 10 then [] else decN f (n / 10)) ++ [UInt8.ofNat (48 + n % 10)]
def decI (n : Int) : Bs := if n < 0 then 45 :: decN 20 n.natAbs else decN 20 n.natAbs

def wQuo : Bs → Bs
  | [] => []
  | b :: l => if b.toNat = 34 ∨ b.toNat = 92 then 92 :: b :: wQuo l else b :: wQuo l
def hexC (n : Nat) : UInt8 := if n < 10 then UInt8.ofNat (48 + n) else UInt8.ofNat (87 + n)
def wHex : Bs → Bs
  | [] => []
  | b :: l => hexC (b.toNat / 16) :: hexC (b.toNat % 16) :: wHex l
def wBetween (f : PV → Bs) : List PV → Bs
  | [] => []
  | v :: l => f v ++ (match l with | [] => [] | _ :: _ => 44 :: wBetween f l)
def wOpt (f : PV → Bs) : List PV → Bs
  | [] => [45]
  | x :: _ => 43 :: f x
def wFirst (f : PV → Bs) : List PV → Bs
  | [] => []
  | x :: _ => f x
def PT.name (t : PT) (i : Nat) : Bs := ((t.names[i]?).getD ⟨#[]⟩).data.toList

def wText : Nat → PV → Bs
  | 0, _ => []
  | k + 1, v =>
    if v.of.kind ≤ 3 then decI v.num
    else if v.of.kind = 4 then (if v.num = 0 then wNo else wYes)
    else if v.of.kind = 5 then 34 :: (wQuo v.bytes ++ [34])
    else if v.of.kind = 6 then 120 :: wHex v.bytes
    else if v.of.kind = 7 then 91 :: (wBetween (wText k) v.parts ++ [93])
    else if v.of.kind = 8 then wOpt (wText k) v.parts
    else if v.of.kind = 9 then 123 :: (wBetween (wText k) v.parts ++ [125])
    else v.of.name v.num.toNat ++ 58 :: wFirst (wText k) v.parts

theorem wText_mk (k : Nat) (t : PT) (n : Int) (b : Bs) (p : List PV) : wText (k + 1) ⟨t, n, b, p⟩ =
    if t.kind ≤ 3 then decI n
    else if t.kind = 4 then (if n = 0 then wNo else wYes)
    else if t.kind = 5 then 34 :: (wQuo b ++ [34])
    else if t.kind = 6 then 120 :: wHex b
    else if t.kind = 7 then 91 :: (wBetween (wText k) p ++ [93])
    else if t.kind = 8 then wOpt (wText k) p
    else if t.kind = 9 then 123 :: (wBetween (wText k) p ++ [125])
    else t.name n.toNat ++ 58 :: wFirst (wText k) p := rfl

/-! ### Types that are well made, and values of a type -/

def WFT : Nat → PT → Prop
  | 0, _ => False
  | k + 1, t => t.kind ≤ 10 ∧ t.names.length = t.subs.length ∧ (∀ u ∈ t.subs, WFT k u) ∧
      (7 ≤ t.kind → 0 < t.subs.length) ∧ ((t.kind = 7 ∨ t.kind = 8) → t.subs.length = 1) ∧ (t.subs.length ≤ 6 ∧ ∀ n ∈ t.names, n.size ≤ 400) ∧
      (9 ≤ t.kind → t.names.Nodup ∧ ∀ n ∈ t.names, ∀ b ∈ n.data.toList, 97 ≤ b.toNat ∧ b.toNat ≤ 122)

def Valid : Nat → PT → PV → Prop
  | 0, _, _ => False
  | k + 1, t, v => v.of = t ∧
    if t.kind ≤ 2 then v.bytes = [] ∧ v.parts = [] ∧ 0 ≤ v.num ∧ v.num ≤ mostOf t.kind
    else if t.kind = 3 then v.bytes = [] ∧ v.parts = [] ∧ -9223372036854775808 ≤ v.num ∧ v.num ≤ 9223372036854775807
    else if t.kind = 4 then v.bytes = [] ∧ v.parts = [] ∧ (v.num = 0 ∨ v.num = 1)
    else if t.kind = 5 then v.num = 0 ∧ v.parts = [] ∧ v.bytes.length ≤ 300 ∧ ∀ b ∈ v.bytes, 32 ≤ b.toNat ∧ b.toNat ≤ 126
    else if t.kind = 6 then v.num = 0 ∧ v.parts = [] ∧ v.bytes.length ≤ 300
    else if t.kind = 7 then v.num = 0 ∧ v.bytes = [] ∧ v.parts.length ≤ 300 ∧ ∀ x ∈ v.parts, Valid k (t.sub 0) x
    else if t.kind = 8 then v.num = 0 ∧ v.bytes = [] ∧ v.parts.length ≤ 1 ∧ ∀ x ∈ v.parts, Valid k (t.sub 0) x
    else if t.kind = 9 then v.num = 0 ∧ v.bytes = [] ∧ v.parts.length = t.subs.length ∧ ∀ (i : Nat) (x : PV), v.parts[i]? = some x → Valid k (t.sub i) x
    else v.bytes = [] ∧ ∃ (i : Nat) (x : PV), v.num = i ∧ i < t.subs.length ∧ v.parts = [x] ∧ Valid k (t.sub i) x

end Go.Proofs.YtapblkmlhoalgaaGreatDoor
