/- Values as trees; what a value's text and bytes are read as, and how it is written as both. -/
import Derived.Test.YtdcjogpkogidaaaGreatDoorMdWordType
namespace Go.Proofs.YtdcjogpkogidaaaGreatDoor
open Go.RowKit

/-- A value: its type, a number, bytes, parts. -/
structure PV where
  of : PT
  num : Int
  bytes : List UInt8
  parts : List PV

abbrev Bs := List UInt8

/-! ### Reading text. A reader answers what it read, or nothing, and what is left: it stands ahead of that. -/

def rAcc (c : Nat) : Bs → Option Bs
  | [] => none
  | b :: l => if b.toNat = c then some l else none

def rDigits (most : Nat) : Nat → Bs → Nat × Bs
  | acc, [] => (acc, [])
  | acc, b :: l => if b.toNat < 48 ∨ 57 < b.toNat ∨ (most - (b.toNat - 48)) / 10 < acc then (acc, b :: l) else rDigits most (acc * 10 + (b.toNat - 48)) l

def rUns (most : Nat) (l : Bs) : Option Nat × Bs :=
  match rAcc 48 l with
  | some r => (some 0, r)
  | none => (if (rDigits most 0 l).2.length < l.length then some (rDigits most 0 l).1 else none, (rDigits most 0 l).2)

def rSigned (l : Bs) : Option Int × Bs :=
  match rAcc 45 l with
  | none => ((rUns 9223372036854775807 l).1.map Int.ofNat, (rUns 9223372036854775807 l).2)
  | some r => match rAcc 48 r with
    | some _ => (none, r)
    | none => ((rUns 9223372036854775808 r).1.map (fun (n : Nat) => -(n : Int)), (rUns 9223372036854775808 r).2)

def rOne (ws : List Bs) : Bs → Bs → Option Nat × Bs
  | got, [] => (ws.findIdx? (fun x => x == got), [])
  | got, b :: l => match ws.findIdx? (fun x => x == got) with
    | some i => (some i, b :: l)
    | none => if ws.any (fun x => (got ++ [b]).isPrefixOf x) then rOne ws (got ++ [b]) l else (none, b :: l)

/-- A text behind its first quote; so many bytes may still come. -/
def rQuo : Nat → Bs → Bs → Option Bs × Bs
  | _, _, [] => (none, [])
  | 0, acc, b :: l => if b.toNat = 34 then (some acc, l) else (none, b :: l)
  | k + 1, acc, b :: l =>
    if b.toNat = 34 then (some acc, l) else
    if b.toNat = 92 then
      match l with
      | [] => (none, [])
      | c :: l' => if c.toNat = 34 ∨ c.toNat = 92 then rQuo k (acc ++ [c]) l' else (none, c :: l')
    else if 32 ≤ b.toNat ∧ b.toNat ≤ 126 then rQuo k (acc ++ [b]) l else (none, b :: l)

def rQuoted (l : Bs) : Option Bs × Bs :=
  match rAcc 34 l with
  | none => (none, l)
  | some r => rQuo 300 [] r

def hexD : Bs → Option (Nat × Bs)
  | [] => none
  | b :: l => if 48 ≤ b.toNat ∧ b.toNat ≤ 57 then some (b.toNat - 48, l) else if 97 ≤ b.toNat ∧ b.toNat ≤ 102 then some (b.toNat - 87, l) else none

def rHex : Nat → Bs → Bs → Option Bs × Bs
  | 0, acc, l => (some acc, l)
  | k + 1, acc, l => match hexD l with
    | none => (some acc, l)
    | some (h, l1) => match hexD l1 with
      | none => (none, l1)
      | some (g, l2) => rHex k (acc ++ [UInt8.ofNat (16 * h + g)]) l2

def rHexa (l : Bs) : Option Bs × Bs :=
  match rAcc 120 l with
  | none => (none, l)
  | some r => rHex 300 [] r

/-- Elements behind the bracket. -/
def rElems (rd : Bs → Option PV × Bs) : Nat → List PV → Bs → Option (List PV) × Bs
  | 0, _, l => (none, l)
  | k + 1, acc, l => match rd l with
    | (none, l1) => (none, l1)
    | (some v, l1) => match rAcc 93 l1 with
      | some l2 => (some (acc ++ [v]), l2)
      | none => if acc.length + 1 = 300 then (none, l1) else
        match rAcc 44 l1 with
        | some l2 => rElems rd k (acc ++ [v]) l2
        | none => (none, l1)

def rList (rd : Bs → Option PV × Bs) (l : Bs) : Option (List PV) × Bs :=
  match rAcc 91 l with
  | none => (none, l)
  | some l1 => match rAcc 93 l1 with
    | some l2 => (some [], l2)
    | none => rElems rd 300 [] l1

def rOpt (rd : Bs → Option PV × Bs) (l : Bs) : Option (List PV) × Bs :=
  match rAcc 45 l with
  | some l1 => (some [], l1)
  | none => match rAcc 43 l with
    | none => (none, l)
    | some l1 => ((rd l1).1.map (fun v => [v]), (rd l1).2)

def rFields (rd : PT → Bs → Option PV × Bs) : List PT → Nat → List PV → Bs → Option (List PV) × Bs
  | [], _, acc, l => match rAcc 125 l with
    | some l1 => (some acc, l1)
    | none => (none, l)
  | t :: ts, ahead, acc, l => match rAcc ahead l with
    | none => (none, l)
    | some l1 => match rd t l1 with
      | (none, l2) => (none, l2)
      | (some v, l2) => rFields rd ts 44 (acc ++ [v]) l2

def nameBs (n : ByteArray) : Bs := n.data.toList ++ [58]
def PT.sub (t : PT) (i : Nat) : PT := (t.subs[i]?).getD PT.dummy

def rCase (rd : PT → Bs → Option PV × Bs) (t : PT) (l : Bs) : Option (Nat × PV) × Bs :=
  match rOne (t.names.map nameBs) [] l with
  | (none, l1) => (none, l1)
  | (some i, l1) => ((rd (t.sub i) l1).1.map (fun v => (i, v)), (rd (t.sub i) l1).2)

def mostOf (kind : Nat) : Nat := if kind = 0 then 255 else if kind = 1 then 65535 else 4294967295
def wNo : Bs := [110, 111]
def wYes : Bs := [121, 101, 115]

def vNum (t : PT) (n : Int) : PV := ⟨t, n, [], []⟩
def vBytes (t : PT) (b : Bs) : PV := ⟨t, 0, b, []⟩
def vParts (t : PT) (n : Int) (l : List PV) : PV := ⟨t, n, [], l⟩

def rText : Nat → PT → Bs → Option PV × Bs
  | 0, _, l => (none, l)
  | k + 1, t, l =>
    if t.kind ≤ 2 then ((rUns (mostOf t.kind) l).1.map (fun (n : Nat) => vNum t n), (rUns (mostOf t.kind) l).2)
    else if t.kind = 3 then ((rSigned l).1.map (vNum t), (rSigned l).2)
    else if t.kind = 4 then ((rOne [wNo, wYes] [] l).1.map (fun (n : Nat) => vNum t n), (rOne [wNo, wYes] [] l).2)
    else if t.kind = 5 then ((rQuoted l).1.map (vBytes t), (rQuoted l).2)
    else if t.kind = 6 then ((rHexa l).1.map (vBytes t), (rHexa l).2)
    else if t.kind = 7 then ((rList (rText k (t.sub 0)) l).1.map (vParts t 0), (rList (rText k (t.sub 0)) l).2)
    else if t.kind = 8 then ((rOpt (rText k (t.sub 0)) l).1.map (vParts t 0), (rOpt (rText k (t.sub 0)) l).2)
    else if t.kind = 9 then ((rFields (rText k) t.subs 123 [] l).1.map (vParts t 0), (rFields (rText k) t.subs 123 [] l).2)
    else ((rCase (rText k) t l).1.map (fun p => vParts t p.1 [p.2]), (rCase (rText k) t l).2)

/-! ### Reading bytes -/

def leNat : Bs → Nat
  | [] => 0
  | b :: l => b.toNat + 256 * leNat l
def beNat (l : Bs) : Nat := l.foldl (fun n b => n * 256 + b.toNat) 0
def toInt64 (n : Nat) : Int := if n < 9223372036854775808 then n else (n : Int) - 18446744073709551616

def mTake (c : Nat) (l : Bs) : Option Bs × Bs := if l.length < c then (none, []) else (some (l.take c), l.drop c)

def mBelow (c : Nat) : Bs → Option Nat × Bs
  | [] => (none, [])
  | b :: l => if b.toNat < c then (some b.toNat, l) else (none, b :: l)

def mCount : Bs → Option Nat × Bs
  | [] => (none, [])
  | b :: l => if b.toNat ≤ 127 then (some b.toNat, l) else
    match l with
    | [] => (none, [])
    | c :: l' => if c.toNat = 0 ∨ 300 < b.toNat - 128 + 128 * c.toNat then (none, c :: l') else (some (b.toNat - 128 + 128 * c.toNat), l')

def mVis : Nat → Bs → Bs → Option Bs × Bs
  | 0, acc, l => (some acc, l)
  | _ + 1, _, [] => (none, [])
  | k + 1, acc, b :: l => if 32 ≤ b.toNat ∧ b.toNat ≤ 126 then mVis k (acc ++ [b]) l else (none, b :: l)

def mText (l : Bs) : Option Bs × Bs :=
  match mCount l with
  | (none, r) => (none, r)
  | (some n, r) => mVis n [] r
def mBytes (l : Bs) : Option Bs × Bs :=
  match mCount l with
  | (none, r) => (none, r)
  | (some n, r) => mTake n r

def mSeveral (rd : Bs → Option PV × Bs) : Nat → List PV → Bs → Option (List PV) × Bs
  | 0, acc, l => (some acc, l)
  | k + 1, acc, l => match rd l with
    | (none, l1) => (none, l1)
    | (some v, l1) => mSeveral rd k (acc ++ [v]) l1
def mList (rd : Bs → Option PV × Bs) (l : Bs) : Option (List PV) × Bs :=
  match mCount l with
  | (none, r) => (none, r)
  | (some n, r) => mSeveral rd n [] r
def mOpt (rd : Bs → Option PV × Bs) (l : Bs) : Option (List PV) × Bs :=
  match mBelow 2 l with
  | (none, r) => (none, r)
  | (some n, r) => mSeveral rd n [] r
def mFields (rd : PT → Bs → Option PV × Bs) : List PT → List PV → Bs → Option (List PV) × Bs
  | [], acc, l => (some acc, l)
  | t :: ts, acc, l => match rd t l with
    | (none, l1) => (none, l1)
    | (some v, l1) => mFields rd ts (acc ++ [v]) l1
def mCase (rd : PT → Bs → Option PV × Bs) (t : PT) (l : Bs) : Option (Nat × PV) × Bs :=
  match mBelow t.subs.length l with
  | (none, l1) => (none, l1)
  | (some i, l1) => ((rd (t.sub i) l1).1.map (fun v => (i, v)), (rd (t.sub i) l1).2)

def widthOf (kind : Nat) : Nat := if kind = 0 then 1 else if kind = 1 then 2 else 4

def rMsg : Nat → PT → Bs → Option PV × Bs
  | 0, _, l => (none, l)
  | k + 1, t, l =>
    if t.kind ≤ 2 then ((mTake (widthOf t.kind) l).1.map (fun b => vNum t (leNat b)), (mTake (widthOf t.kind) l).2)
    else if t.kind = 3 then ((mTake 8 l).1.map (fun b => vNum t (toInt64 (beNat b))), (mTake 8 l).2)
    else if t.kind = 4 then ((mBelow 2 l).1.map (fun (n : Nat) => vNum t n), (mBelow 2 l).2)
    else if t.kind = 5 then ((mText l).1.map (vBytes t), (mText l).2)
    else if t.kind = 6 then ((mBytes l).1.map (vBytes t), (mBytes l).2)
    else if t.kind = 7 then ((mList (rMsg k (t.sub 0)) l).1.map (vParts t 0), (mList (rMsg k (t.sub 0)) l).2)
    else if t.kind = 8 then ((mOpt (rMsg k (t.sub 0)) l).1.map (vParts t 0), (mOpt (rMsg k (t.sub 0)) l).2)
    else if t.kind = 9 then ((mFields (rMsg k) t.subs [] l).1.map (vParts t 0), (mFields (rMsg k) t.subs [] l).2)
    else ((mCase (rMsg k) t l).1.map (fun p => vParts t p.1 [p.2]), (mCase (rMsg k) t l).2)

/-! ### Writing -/

def leBytes : Nat → Nat → Bs
  | 0, _ => []
  | c + 1, n => UInt8.ofNat n :: leBytes c (n / 256)
def beBytes (c n : Nat) : Bs := (leBytes c n).reverse
def ofInt64 (n : Int) : Nat := (n % 18446744073709551616).toNat
def wCount (n : Nat) : Bs := if n ≤ 127 then [UInt8.ofNat n] else [UInt8.ofNat (n % 128 + 128), UInt8.ofNat (n / 128)]

def wMsg : Nat → PV → Bs
  | 0, _ => []
  | k + 1, v =>
    if v.of.kind ≤ 2 then leBytes (widthOf v.of.kind) v.num.toNat
    else if v.of.kind = 3 then beBytes 8 (ofInt64 v.num)
    else if v.of.kind = 4 then [UInt8.ofNat v.num.toNat]
    else if v.of.kind ≤ 6 then wCount v.bytes.length ++ v.bytes
    else if v.of.kind ≤ 8 then wCount v.parts.length ++ v.parts.flatMap (wMsg k)
    else if v.of.kind = 9 then v.parts.flatMap (wMsg k)
    else UInt8.ofNat v.num.toNat :: v.parts.flatMap (wMsg k)

theorem wMsg_mk (k : Nat) (t : PT) (n : Int) (b : Bs) (p : List PV) : wMsg (k + 1) ⟨t, n, b, p⟩ =
    if t.kind ≤ 2 then leBytes (widthOf t.kind) n.toNat
    else if t.kind = 3 then beBytes 8 (ofInt64 n)
    else if t.kind = 4 then [UInt8.ofNat n.toNat]
    else if t.kind ≤ 6 then wCount b.length ++ b
    else if t.kind ≤ 8 then wCount p.length ++ p.flatMap (wMsg k)
    else if t.kind = 9 then p.flatMap (wMsg k)
    else UInt8.ofNat n.toNat :: p.flatMap (wMsg k) := rfl

def decN : Nat → Nat → Bs
  | 0, _ => []
  | f + 1, n => (if n < 10 then [] else decN f (n / 10)) ++ [UInt8.ofNat (48 + n % 10)]
def decI (n : Int) : Bs := if n < 0 then 45 :: decN 20 n.natAbs else decN 20 n.natAbs

def wQuo : Bs → Bs
  | [] => []
  | b :: l => if b.toNat = 34 ∨ b.toNat = 92 then 92 :: b :: wQuo l else b :: wQuo l
def hexC (n : Nat) : UInt8 := if n < 10 then UInt8.ofNat (48 + n) else UInt8.ofNat (87 + n)
def wHex : Bs → Bs
  | [] => []
  | b :: l => hexC (b.toNat / 16) :: hexC (b.toNat % 16) :: wHex l
def wBetween (f : PV → Bs) : List PV → Bs
  | [] => []
  | v :: l => f v ++ (match l with | [] => [] | _ :: _ => 44 :: wBetween f l)
def wOpt (f : PV → Bs) : List PV → Bs
  | [] => [45]
  | x :: _ => 43 :: f x
def wFirst (f : PV → Bs) : List PV → Bs
  | [] => []
  | x :: _ => f x
def PT.name (t : PT) (i : Nat) : Bs := ((t.names[i]?).getD ⟨#[]⟩).data.toList

def wText : Nat → PV → Bs
  | 0, _ => []
  | k + 1, v =>
    if v.of.kind ≤ 3 then decI v.num
    else if v.of.kind = 4 then (if v.num = 0 then wNo else wYes)
    else if v.of.kind = 5 then 34 :: (wQuo v.bytes ++ [34])
    else if v.of.kind = 6 then 120 :: wHex v.bytes
    else if v.of.kind = 7 then 91 :: (wBetween (wText k) v.parts ++ [93])
    else if v.of.kind = 8 then wOpt (wText k) v.parts
    else if v.of.kind = 9 then 123 :: (wBetween (wText k) v.parts ++ [125])
    else v.of.name v.num.toNat ++ 58 :: wFirst (wText k) v.parts

theorem wText_mk (k : Nat) (t : PT) (n : Int) (b : Bs) (p : List PV) : wText (k + 1) ⟨t, n, b, p⟩ =
    if t.kind ≤ 3 then decI n
    else if t.kind = 4 then (if n = 0 then wNo else wYes)
    else if t.kind = 5 then 34 :: (wQuo b ++ [34])
    else if t.kind = 6 then 120 :: wHex b
    else if t.kind = 7 then 91 :: (wBetween (wText k) p ++ [93])
    else if t.kind = 8 then wOpt (wText k) p
    else if t.kind = 9 then 123 :: (wBetween (wText k) p ++ [125])
    else t.name n.toNat ++ 58 :: wFirst (wText k) p := rfl

/-! ### Types that are well made, and values of a type -/

def WFT : Nat → PT → Prop
  | 0, _ => False
  | k + 1, t => t.kind ≤ 10 ∧ t.names.length = t.subs.length ∧ (∀ u ∈ t.subs, WFT k u) ∧
      (7 ≤ t.kind → 0 < t.subs.length) ∧ ((t.kind = 7 ∨ t.kind = 8) → t.subs.length = 1) ∧ (t.subs.length ≤ 6 ∧ ∀ n ∈ t.names, n.size ≤ 400) ∧
      (9 ≤ t.kind → t.names.Nodup ∧ ∀ n ∈ t.names, ∀ b ∈ n.data.toList, 97 ≤ b.toNat ∧ b.toNat ≤ 122)

def Valid : Nat → PT → PV → Prop
  | 0, _, _ => False
  | k + 1, t, v => v.of = t ∧
    if t.kind ≤ 2 then v.bytes = [] ∧ v.parts = [] ∧ 0 ≤ v.num ∧ v.num ≤ mostOf t.kind
    else if t.kind = 3 then v.bytes = [] ∧ v.parts = [] ∧ -9223372036854775808 ≤ v.num ∧ v.num ≤ 9223372036854775807
    else if t.kind = 4 then v.bytes = [] ∧ v.parts = [] ∧ (v.num = 0 ∨ v.num = 1)
    else if t.kind = 5 then v.num = 0 ∧ v.parts = [] ∧ v.bytes.length ≤ 300 ∧ ∀ b ∈ v.bytes, 32 ≤ b.toNat ∧ b.toNat ≤ 126
    else if t.kind = 6 then v.num = 0 ∧ v.parts = [] ∧ v.bytes.length ≤ 300
    else if t.kind = 7 then v.num = 0 ∧ v.bytes = [] ∧ v.parts.length ≤ 300 ∧ ∀ x ∈ v.parts, Valid k (t.sub 0) x
    else if t.kind = 8 then v.num = 0 ∧ v.bytes = [] ∧ v.parts.length ≤ 1 ∧ ∀ x ∈ v.parts, Valid k (t.sub 0) x
    else if t.kind = 9 then v.num = 0 ∧ v.bytes = [] ∧ v.parts.length = t.subs.length ∧ ∀ (i : Nat) (x : PV), v.parts[i]? = some x → Valid k (t.sub i) x
    else v.bytes = [] ∧ ∃ (i : Nat) (x : PV), v.num = i ∧ i < t.subs.length ∧ v.parts = [x] ∧ Valid k (t.sub i) x

theorem rAcc_some {c : Nat} {l r : Bs} (h : rAcc c l = some r) : ∃ b, l = b :: r ∧ b.toNat = c := by
  cases l with
  | nil => simp [rAcc] at h
  | cons b l =>
    simp only [rAcc] at h
    split at h
    · rename_i e; simp at h; subst h; exact ⟨b, rfl, e⟩
    · simp at h
theorem u8_of {b : UInt8} {n : Nat} (h : b.toNat = n) : b = UInt8.ofNat n := by subst h; simp
theorem toNat_ofNat {n : Nat} (h : n < 256) : (UInt8.ofNat n).toNat = n := by simp; omega
theorem rAcc_cons {c : Nat} {b : UInt8} {l : Bs} (h : b.toNat = c) : rAcc c (b :: l) = some l := by simp [rAcc, h]
theorem rAcc_ne {c : Nat} {b : UInt8} {l : Bs} (h : b.toNat ≠ c) : rAcc c (b :: l) = none := by simp [rAcc, h]

/-! ### Numbers -/

theorem decN_succ : ∀ (f n : Nat), 0 < f → n < 10 ^ f → decN (f + 1) n = decN f n := by
  intro f
  induction f with
  | zero => intro n h; omega
  | succ f ih =>
    intro n _ h
    show (if n < 10 then [] else decN (f + 1) (n / 10)) ++ _ = (if n < 10 then [] else decN f (n / 10)) ++ _
    by_cases hn : n < 10
    · simp [hn]
    · rw [Nat.pow_succ] at h
      have hf : 0 < f := by
        rcases Nat.eq_zero_or_pos f with e | e
        · subst e; simp at h; omega
        · exact e
      rw [if_neg hn, if_neg hn, ih (n / 10) hf (by omega)]
theorem decN_step {a d : Nat} (ha : 0 < a) (hd : d < 10) (h : a * 10 + d < 10 ^ 20) : decN 20 (a * 10 + d) = decN 20 a ++ [UInt8.ofNat (48 + d)] := by
  rw [decN_succ 19 a (by omega) (by omega)]
  show (if a * 10 + d < 10 then [] else decN 19 ((a * 10 + d) / 10)) ++ [UInt8.ofNat (48 + (a * 10 + d) % 10)] = _
  rw [if_neg (by omega), show (a * 10 + d) / 10 = a by omega, show (a * 10 + d) % 10 = d by omega]
theorem decN_one {d : Nat} (hd : d < 10) : decN 20 d = [UInt8.ofNat (48 + d)] := by
  show (if d < 10 then [] else decN 19 (d / 10)) ++ [UInt8.ofNat (48 + d % 10)] = _
  rw [if_pos hd, Nat.mod_eq_of_lt hd]; rfl

theorem rDigits_sound (most : Nat) (hm : 9 ≤ most) (hM : most < 10 ^ 20) : ∀ (l : Bs) (acc n : Nat) (r : Bs), 0 < acc → acc ≤ most → rDigits most acc l = (n, r) → n ≤ most ∧ 0 < n ∧ decN 20 acc ++ l = decN 20 n ++ r := by
  intro l
  induction l with
  | nil => intro acc n r h0 h1 h; simp [rDigits] at h; obtain ⟨rfl, rfl⟩ := h; exact ⟨h1, h0, rfl⟩
  | cons b l ih =>
    intro acc n r h0 h1 h
    simp only [rDigits] at h
    split at h
    · simp at h; obtain ⟨rfl, rfl⟩ := h; exact ⟨h1, h0, rfl⟩
    · rename_i hc
      have hb : b.toNat - 48 < 10 := by omega
      have hle : acc * 10 + (b.toNat - 48) ≤ most := by omega
      obtain ⟨q1, q2, q3⟩ := ih _ n r (by omega) hle h
      refine ⟨q1, q2, ?_⟩
      rw [decN_step h0 hb (by omega), show 48 + (b.toNat - 48) = b.toNat by omega] at q3
      rw [← q3]; simp

theorem rUns_sound {most n : Nat} {l r : Bs} (hm : 9 ≤ most) (hM : most < 10 ^ 20) (h : rUns most l = (some n, r)) : n ≤ most ∧ l = decN 20 n ++ r := by
  unfold rUns at h
  split at h
  · rename_i r' e
    obtain ⟨b, rfl, hb⟩ := rAcc_some e
    simp at h
    obtain ⟨rfl, rfl⟩ := h
    rw [u8_of hb]
    exact ⟨by omega, rfl⟩
  · rename_i e
    simp only [Prod.mk.injEq] at h
    obtain ⟨h1, h2⟩ := h
    split at h1
    · rename_i hlt
      simp at h1
      cases l with
      | nil => simp at hlt
      | cons b l =>
        have hb48 : b.toNat ≠ 48 := by
          intro hb; rw [rAcc_cons hb] at e; cases e
        simp only [rDigits] at h1 h2 hlt
        split at hlt
        · simp at hlt
        · rename_i hc
          rw [if_neg hc] at h1 h2
          have hd : b.toNat - 48 < 10 := by omega
          obtain ⟨q1, _, q3⟩ := rDigits_sound most hm hM l (0 * 10 + (b.toNat - 48)) n r (by omega) (by omega) (by rw [← h1, ← h2])
          refine ⟨q1, ?_⟩
          rw [← q3, show 0 * 10 + (b.toNat - 48) = b.toNat - 48 by omega, decN_one hd, show 48 + (b.toNat - 48) = b.toNat by omega]
          simp
    · cases h1

def StopD (r : Bs) : Prop := ∀ b l, r = b :: l → b.toNat < 48 ∨ 57 < b.toNat
theorem rDigits_stop {most n : Nat} {r : Bs} (h : StopD r) : rDigits most n r = (n, r) := by
  cases r with
  | nil => rfl
  | cons b l =>
    have := h b l rfl
    simp only [rDigits]
    rw [if_pos (by omega)]
theorem rDigits_whole {most : Nat} (hm : 9 ≤ most) : ∀ (f n : Nat) (r : Bs), n < 10 ^ f → 0 < f → n ≤ most → rDigits most 0 (decN f n ++ r) = rDigits most n r := by
  intro f
  induction f with
  | zero => intro n r _ h; omega
  | succ f ih =>
    intro n r h _ hle
    have hd : (UInt8.ofNat (48 + n % 10)).toNat = 48 + n % 10 := toNat_ofNat (by omega)
    show rDigits most 0 (((if n < 10 then [] else decN f (n / 10)) ++ [UInt8.ofNat (48 + n % 10)]) ++ r) = _
    by_cases hn : n < 10
    · rw [if_pos hn]
      simp only [List.nil_append, List.cons_append, rDigits]
      rw [hd, if_neg (by omega)]
      congr 1; omega
    · rw [if_neg hn, List.append_assoc]
      rw [Nat.pow_succ] at h
      have hf : 0 < f := by
        rcases Nat.eq_zero_or_pos f with e | e
        · subst e; simp at h; omega
        · exact e
      rw [ih (n / 10) _ (by omega) hf (by omega)]
      simp only [List.nil_append, List.cons_append, rDigits]
      rw [hd, if_neg (by omega)]
      congr 1; omega
theorem decN_head : ∀ (f n : Nat), n < 10 ^ f → 0 < f → 0 < n → ∃ b l, decN f n = b :: l ∧ 49 ≤ b.toNat ∧ b.toNat ≤ 57 := by
  intro f
  induction f with
  | zero => intro n _ h; omega
  | succ f ih =>
    intro n h _ h0
    show ∃ b l, (if n < 10 then [] else decN f (n / 10)) ++ [UInt8.ofNat (48 + n % 10)] = b :: l ∧ _
    by_cases hn : n < 10
    · rw [if_pos hn]
      refine ⟨_, _, rfl, ?_⟩
      rw [toNat_ofNat (by omega)]; omega
    · rw [if_neg hn]
      rw [Nat.pow_succ] at h
      have hf : 0 < f := by
        rcases Nat.eq_zero_or_pos f with e | e
        · subst e; simp at h; omega
        · exact e
      obtain ⟨b, l, e, h1, h2⟩ := ih (n / 10) (by omega) hf (by omega)
      exact ⟨b, l ++ [UInt8.ofNat (48 + n % 10)], by rw [e]; rfl, h1, h2⟩
theorem rUns_whole {most n : Nat} {r : Bs} (hm : 9 ≤ most) (hM : most < 10 ^ 20) (hn : n ≤ most) (hr : StopD r) : rUns most (decN 20 n ++ r) = (some n, r) := by
  rcases Nat.eq_zero_or_pos n with e | e
  · subst e; rfl
  · obtain ⟨b, l, hd, h1, h2⟩ := decN_head 20 n (by omega) (by omega) e
    have hw := rDigits_whole hm 20 n r (by omega) (by omega) hn
    rw [rDigits_stop hr] at hw
    unfold rUns
    rw [hw]
    rw [hd, List.cons_append, rAcc_ne (by omega)]
    simp
    omega

theorem rSigned_sound {n : Int} {l r : Bs} (h : rSigned l = (some n, r)) : -9223372036854775808 ≤ n ∧ n ≤ 9223372036854775807 ∧ l = decI n ++ r := by
  unfold rSigned at h
  split at h
  · simp only [Prod.mk.injEq, Option.map_eq_some_iff] at h
    obtain ⟨⟨m, h1, rfl⟩, h2⟩ := h
    obtain ⟨q1, q2⟩ := rUns_sound (by omega) (by omega) (Prod.ext h1 h2)
    refine ⟨by simp only [Int.ofNat_eq_natCast]; omega, by simp only [Int.ofNat_eq_natCast]; omega, ?_⟩
    rw [q2, decI, if_neg (by simp)]
    rfl
  · rename_i r' e
    obtain ⟨b, rfl, hb⟩ := rAcc_some e
    split at h
    · simp at h
    · rename_i e2
      simp only [Prod.mk.injEq, Option.map_eq_some_iff] at h
      obtain ⟨⟨m, h1, rfl⟩, h2⟩ := h
      obtain ⟨q1, q2⟩ := rUns_sound (by omega) (by omega) (Prod.ext h1 h2)
      have hm0 : m ≠ 0 := by
        intro hm
        subst hm
        rw [q2] at e2
        have : decN 20 0 = [48] := rfl
        rw [this, List.cons_append, rAcc_cons (b := 48) (c := 48) rfl] at e2
        cases e2
      refine ⟨by omega, by omega, ?_⟩
      rw [q2, decI, if_pos (by omega), u8_of hb, show (-(m : Int)).natAbs = m by omega]
      rfl
theorem rSigned_whole {n : Int} {r : Bs} (h1 : -9223372036854775808 ≤ n) (h2 : n ≤ 9223372036854775807) (hr : StopD r) : rSigned (decI n ++ r) = (some n, r) := by
  unfold decI
  by_cases hn : n < 0
  · obtain ⟨b, l, hd, q1, q2⟩ := decN_head 20 n.natAbs (by omega) (by omega) (by omega)
    have hw := rUns_whole (most := 9223372036854775808) (n := n.natAbs) (by omega) (by omega) (by omega) hr
    rw [if_pos hn]
    unfold rSigned
    rw [List.cons_append, rAcc_cons (b := 45) (c := 45) rfl]
    simp only
    rw [hw, hd, List.cons_append, rAcc_ne (by omega)]
    simp
    omega
  · have hw := rUns_whole (most := 9223372036854775807) (n := n.natAbs) (by omega) (by omega) (by omega) hr
    rw [if_neg hn]
    have hnone : rAcc 45 (decN 20 n.natAbs ++ r) = none := by
      rcases Nat.eq_zero_or_pos n.natAbs with e | e
      · rw [e]; rfl
      · obtain ⟨b, l, hd, q1, q2⟩ := decN_head 20 n.natAbs (by omega) (by omega) e
        rw [hd, List.cons_append, rAcc_ne (by omega)]
    unfold rSigned
    rw [hnone]
    simp only
    rw [hw]
    simp
    omega

/-! ### One of some words -/

theorem rOne_sound (ws : List Bs) : ∀ (l got : Bs) (i : Nat) (r : Bs), rOne ws got l = (some i, r) → ∃ x pre, ws[i]? = some x ∧ got ++ pre = x ∧ l = pre ++ r := by
  have key : ∀ (got : Bs) (i : Nat), ws.findIdx? (fun x => x == got) = some i → ws[i]? = some got := by
    intro got i h
    obtain ⟨hi, he, _⟩ := List.findIdx?_eq_some_iff_getElem.1 h
    rw [List.getElem?_eq_getElem hi]
    simpa using he
  intro l
  induction l with
  | nil =>
    intro got i r h
    simp only [rOne, Prod.mk.injEq] at h
    exact ⟨got, [], key got i h.1, by simp, by simp [← h.2]⟩
  | cons b l ih =>
    intro got i r h
    simp only [rOne] at h
    split at h
    · rename_i j hj
      simp at h
      obtain ⟨rfl, rfl⟩ := h
      exact ⟨got, [], key got j hj, by simp, by simp⟩
    · split at h
      · obtain ⟨x, pre, h1, h2, h3⟩ := ih _ _ _ h
        exact ⟨x, b :: pre, h1, by rw [← h2]; simp, by rw [h3]; rfl⟩
      · simp at h
def PreFree (ws : List Bs) : Prop := ∀ (i j : Nat) (x y : Bs), ws[i]? = some x → ws[j]? = some y → x <+: y → i = j
theorem rOne_whole (ws : List Bs) (hp : PreFree ws) : ∀ (pre got r : Bs) (i : Nat), ws[i]? = some (got ++ pre) → rOne ws got (pre ++ r) = (some i, r) := by
  intro pre
  induction pre with
  | nil =>
    intro got r i h
    rw [List.append_nil] at h
    have hf : ws.findIdx? (fun x => x == got) = some i := by
      obtain ⟨hi, he⟩ := List.getElem?_eq_some_iff.1 h
      refine List.findIdx?_eq_some_iff_getElem.2 ⟨hi, by simp [he], fun j hj => ?_⟩
      simp only [beq_iff_eq]
      intro e
      have := hp j i got got (by rw [List.getElem?_eq_getElem (by omega), e]) h (List.prefix_refl _)
      omega
    cases r with
    | nil => simp [rOne, hf]
    | cons b l => simp [rOne, hf]
  | cons b pre ih =>
    intro got r i h
    have hf : ws.findIdx? (fun x => x == got) = none := by
      rw [List.findIdx?_eq_none_iff]
      intro x hx
      simp only [beq_eq_false_iff_ne]
      rintro rfl
      obtain ⟨j, hj, he⟩ := List.getElem_of_mem hx
      have := hp j i x _ (by rw [List.getElem?_eq_getElem hj, he]) h ⟨b :: pre, rfl⟩
      subst this
      rw [List.getElem?_eq_getElem hj, he] at h
      simp at h
    have ha : ws.any (fun x => (got ++ [b]).isPrefixOf x) = true := by
      rw [List.any_eq_true]
      refine ⟨_, List.mem_of_getElem? h, ?_⟩
      rw [List.isPrefixOf_iff_prefix]
      exact ⟨pre, by simp⟩
    rw [List.cons_append]
    simp only [rOne]
    rw [hf]
    simp only
    rw [if_pos ha]
    exact ih (got ++ [b]) r i (by rw [h]; simp)

theorem colon_prefix : ∀ (x y : Bs), (∀ b ∈ y, b.toNat ≠ 58) → (x ++ [58] <+: y ++ [58]) → x = y := by
  intro x
  induction x with
  | nil =>
    intro y hy h
    cases y with
    | nil => rfl
    | cons b y =>
      obtain ⟨z, hz⟩ := h
      simp at hz
      have := hy b (by simp)
      rw [← hz.1] at this
      exact absurd rfl this
  | cons a x ih =>
    intro y hy h
    cases y with
    | nil =>
      obtain ⟨z, hz⟩ := h
      have := congrArg List.length hz
      simp at this
    | cons b y =>
      obtain ⟨z, hz⟩ := h
      simp at hz
      rw [hz.1, ih y (fun c hc => hy c (by simp [hc])) ⟨z, by simpa using hz.2⟩]

theorem bytes_data {a b : ByteArray} (h : a.data.toList = b.data.toList) : a = b := by
  apply ByteArray.ext
  exact Array.toList_inj.1 h
theorem names_free {names : List ByteArray} (hn : names.Nodup) (hl : ∀ n ∈ names, ∀ b ∈ n.data.toList, 97 ≤ b.toNat ∧ b.toNat ≤ 122) : PreFree (names.map nameBs) := by
  intro i j x y hx hy h
  simp only [List.getElem?_map, Option.map_eq_some_iff] at hx hy
  obtain ⟨a, ha, rfl⟩ := hx
  obtain ⟨b, hb, rfl⟩ := hy
  have e := colon_prefix _ _ (fun c hc => by have := hl b (List.mem_of_getElem? hb) c hc; omega) h
  have e' := bytes_data e
  subst e'
  obtain ⟨hi, he⟩ := List.getElem?_eq_some_iff.1 ha
  obtain ⟨hj, he2⟩ := List.getElem?_eq_some_iff.1 hb
  have hpw := List.pairwise_iff_getElem.1 hn
  rcases Nat.lt_trichotomy i j with h' | h' | h'
  · exact absurd (he.trans he2.symm) (hpw i j hi hj h')
  · exact h'
  · exact absurd (he2.trans he.symm) (hpw j i hj hi h')
theorem yesno_free : PreFree [wNo, wYes] := by
  intro i j x y hx hy h
  match i, j with
  | 0, 0 => rfl
  | 1, 1 => rfl
  | 0, 1 => simp at hx hy; subst hx hy; revert h; decide
  | 1, 0 => simp at hx hy; subst hx hy; revert h; decide
  | i + 2, _ => simp at hx
  | 0, j + 2 => simp at hy
  | 1, j + 2 => simp at hy

/-! ### Texts and bytes -/

theorem rQuo_sound : ∀ (k : Nat) (acc l b r : Bs), rQuo k acc l = (some b, r) → ∃ d, b = acc ++ d ∧ d.length ≤ k ∧ (∀ c ∈ d, 32 ≤ c.toNat ∧ c.toNat ≤ 126) ∧ l = wQuo d ++ 34 :: r := by
  intro k
  induction k with
  | zero =>
    intro acc l b r h
    cases l with
    | nil => simp [rQuo] at h
    | cons c l =>
      simp only [rQuo] at h
      split at h
      · rename_i e
        simp at h; obtain ⟨rfl, rfl⟩ := h
        exact ⟨[], by simp, by simp, by simp, by rw [u8_of e]; rfl⟩
      · simp at h
  | succ k ih =>
    intro acc l b r h
    cases l with
    | nil => simp [rQuo] at h
    | cons c l =>
      simp only [rQuo] at h
      split at h
      · rename_i e
        simp at h; obtain ⟨rfl, rfl⟩ := h
        exact ⟨[], by simp, by simp, by simp, by rw [u8_of e]; rfl⟩
      · rename_i n34
        split at h
        · rename_i e92
          split at h
          · simp at h
          · rename_i c' l'
            split at h
            · rename_i hc
              obtain ⟨d, rfl, h2, h3, rfl⟩ := ih _ _ _ _ h
              refine ⟨c' :: d, by simp, by simp; omega, ?_, ?_⟩
              · intro x hx
                rcases List.mem_cons.1 hx with rfl | hx
                · omega
                · exact h3 x hx
              · rw [u8_of e92]; simp only [wQuo]; rw [if_pos hc]; rfl
            · simp at h
        · rename_i n92
          split at h
          · rename_i hv
            obtain ⟨d, rfl, h2, h3, rfl⟩ := ih _ _ _ _ h
            refine ⟨c :: d, by simp, by simp; omega, ?_, ?_⟩
            · intro x hx
              rcases List.mem_cons.1 hx with rfl | hx
              · exact hv
              · exact h3 x hx
            · simp only [wQuo]; rw [if_neg (by omega)]; rfl
          · simp at h
theorem rQuo_whole : ∀ (d : Bs) (k : Nat) (acc r : Bs), d.length ≤ k → (∀ c ∈ d, 32 ≤ c.toNat ∧ c.toNat ≤ 126) → rQuo k acc (wQuo d ++ 34 :: r) = (some (acc ++ d), r) := by
  intro d
  induction d with
  | nil =>
    intro k acc r _ _
    cases k with
    | zero => simp [wQuo, rQuo]
    | succ k => simp [wQuo, rQuo]
  | cons c d ih =>
    intro k acc r hk hv
    obtain ⟨k, rfl⟩ : ∃ m, k = m + 1 := ⟨k - 1, by simp at hk; omega⟩
    have hc := hv c (by simp)
    have ih' := ih k (acc ++ [c]) r (by simp at hk; omega) (fun x hx => hv x (by simp [hx]))
    simp only [wQuo]
    by_cases e : c.toNat = 34 ∨ c.toNat = 92
    · rw [if_pos e]
      simp only [List.cons_append, rQuo]
      rw [if_neg (by decide), if_pos (by decide), if_pos e, ih']
      simp
    · rw [if_neg e]
      simp only [List.cons_append, rQuo]
      rw [if_neg (by omega), if_neg (by omega), if_pos hc, ih']
      simp

theorem hexD_some {l l1 : Bs} {h : Nat} (e : hexD l = some (h, l1)) : h < 16 ∧ l = hexC h :: l1 := by
  cases l with
  | nil => simp [hexD] at e
  | cons b l =>
    simp only [hexD] at e
    split at e
    · simp at e; obtain ⟨rfl, rfl⟩ := e
      refine ⟨by omega, ?_⟩
      unfold hexC
      rw [if_pos (by omega), show 48 + (b.toNat - 48) = b.toNat by omega]; simp
    · split at e
      · simp at e; obtain ⟨rfl, rfl⟩ := e
        refine ⟨by omega, ?_⟩
        unfold hexC
        rw [if_neg (by omega), show 87 + (b.toNat - 87) = b.toNat by omega]; simp
      · simp at e
theorem hexD_hexC {h : Nat} (hh : h < 16) (l : Bs) : hexD (hexC h :: l) = some (h, l) := by
  unfold hexC
  by_cases e : h < 10
  · rw [if_pos e]
    simp only [hexD]
    rw [toNat_ofNat (by omega), if_pos (by omega)]
    simp
  · rw [if_neg e]
    simp only [hexD]
    rw [toNat_ofNat (by omega), if_neg (by omega), if_pos (by omega)]
    simp
theorem rHex_sound : ∀ (k : Nat) (acc l b r : Bs), rHex k acc l = (some b, r) → ∃ d, b = acc ++ d ∧ d.length ≤ k ∧ l = wHex d ++ r := by
  intro k
  induction k with
  | zero => intro acc l b r h; simp [rHex] at h; obtain ⟨rfl, rfl⟩ := h; exact ⟨[], by simp, by simp, rfl⟩
  | succ k ih =>
    intro acc l b r h
    simp only [rHex] at h
    split at h
    · simp at h; obtain ⟨rfl, rfl⟩ := h; exact ⟨[], by simp, by simp, rfl⟩
    · rename_i h1 l1 e1
      split at h
      · simp at h
      · rename_i h2 l2 e2
        obtain ⟨d, rfl, q2, rfl⟩ := ih _ _ _ _ h
        obtain ⟨k1, rfl⟩ := hexD_some e1
        obtain ⟨k2, rfl⟩ := hexD_some e2
        refine ⟨UInt8.ofNat (16 * h1 + h2) :: d, by simp, by simp; omega, ?_⟩
        simp only [wHex]
        rw [toNat_ofNat (by omega), show (16 * h1 + h2) / 16 = h1 by omega, show (16 * h1 + h2) % 16 = h2 by omega]
        rfl
def StopH (r : Bs) : Prop := hexD r = none
theorem rHex_whole : ∀ (d : Bs) (k : Nat) (acc r : Bs), d.length ≤ k → StopH r → rHex k acc (wHex d ++ r) = (some (acc ++ d), r) := by
  intro d
  induction d with
  | nil =>
    intro k acc r _ hr
    cases k with
    | zero => simp [wHex, rHex]
    | succ k =>
      simp only [wHex, List.nil_append, rHex]
      rw [show hexD r = none from hr]; simp
  | cons c d ih =>
    intro k acc r hk hr
    obtain ⟨k, rfl⟩ : ∃ m, k = m + 1 := ⟨k - 1, by simp at hk; omega⟩
    have hc : c.toNat < 256 := c.toNat_lt
    simp only [wHex, List.cons_append, rHex]
    rw [hexD_hexC (by omega)]
    simp only
    rw [hexD_hexC (by omega)]
    simp only
    rw [ih k _ r (by simp at hk; omega) hr, show 16 * (c.toNat / 16) + c.toNat % 16 = c.toNat by omega]
    simp

/-! ### Bytes -/

theorem leNat_lt : ∀ (l : Bs), leNat l < 256 ^ l.length := by
  intro l
  induction l with
  | nil => simp [leNat]
  | cons b l ih =>
    have := b.toNat_lt
    simp only [leNat, List.length_cons, Nat.pow_succ]
    omega
theorem leBytes_leNat : ∀ (l : Bs), leBytes l.length (leNat l) = l := by
  intro l
  induction l with
  | nil => rfl
  | cons b l ih =>
    have hb := b.toNat_lt
    simp only [List.length_cons, leBytes, leNat]
    rw [show (b.toNat + 256 * leNat l) / 256 = leNat l by omega, ih]
    congr 1
    apply UInt8.toNat_inj.1
    simp
theorem leBytes_length : ∀ (c n : Nat), (leBytes c n).length = c := by
  intro c
  induction c with
  | zero => intro n; rfl
  | succ c ih => intro n; simp [leBytes, ih]
theorem leNat_leBytes : ∀ (c n : Nat), n < 256 ^ c → leNat (leBytes c n) = n := by
  intro c
  induction c with
  | zero => intro n h; simp at h; subst h; rfl
  | succ c ih =>
    intro n h
    rw [Nat.pow_succ] at h
    simp only [leBytes, leNat]
    rw [ih (n / 256) (by omega)]
    simp
    omega
theorem beNat_leNat (l : Bs) : beNat l = leNat l.reverse := by
  have key : ∀ (l : Bs) (a : Nat), l.foldl (fun n b => n * 256 + b.toNat) a = leNat l.reverse + 256 ^ l.length * a := by
    intro l
    induction l with
    | nil => intro a; simp [leNat]
    | cons b l ih =>
      intro a
      have app : ∀ (x : Bs) (y : UInt8), leNat (x ++ [y]) = leNat x + 256 ^ x.length * y.toNat := by
        intro x y
        induction x with
        | nil => simp [leNat]
        | cons z x ihx =>
          simp only [List.cons_append, leNat, ihx, List.length_cons, Nat.pow_succ]
          rw [Nat.mul_add, Nat.add_assoc, ← Nat.mul_assoc, Nat.mul_comm 256 (256 ^ x.length)]
      simp only [List.foldl_cons, List.reverse_cons, List.length_cons]
      rw [ih, app, Nat.pow_succ, List.length_reverse, Nat.mul_add, Nat.add_assoc, Nat.add_comm (256 ^ l.length * (a * 256)), Nat.mul_comm a 256, Nat.mul_assoc]
  simpa [beNat] using key l 0
theorem toInt64_of {n : Int} (h1 : -9223372036854775808 ≤ n) (h2 : n ≤ 9223372036854775807) : toInt64 (ofInt64 n) = n := by
  unfold toInt64 ofInt64
  split <;> omega
theorem ofInt64_to {n : Nat} (h : n < 18446744073709551616) : ofInt64 (toInt64 n) = n := by
  unfold toInt64 ofInt64
  split <;> omega
theorem toInt64_range {n : Nat} (h : n < 18446744073709551616) : -9223372036854775808 ≤ toInt64 n ∧ toInt64 n ≤ 9223372036854775807 := by
  unfold toInt64
  split <;> omega

theorem mTake_some {c : Nat} {l b r : Bs} (h : mTake c l = (some b, r)) : b.length = c ∧ l = b ++ r := by
  unfold mTake at h
  split at h
  · simp at h
  · simp at h; obtain ⟨rfl, rfl⟩ := h
    exact ⟨by simp; omega, by simp⟩
theorem mTake_whole {b : Bs} (r : Bs) : mTake b.length (b ++ r) = (some b, r) := by
  unfold mTake
  rw [if_neg (by simp)]
  simp
theorem mCount_some {l r : Bs} {n : Nat} (h : mCount l = (some n, r)) : n ≤ 300 ∧ l = wCount n ++ r := by
  cases l with
  | nil => simp [mCount] at h
  | cons b l =>
    have hb := b.toNat_lt
    simp only [mCount] at h
    split at h
    · rename_i hle
      simp at h; obtain ⟨rfl, rfl⟩ := h
      exact ⟨by omega, by simp [wCount, hle]⟩
    · split at h
      · simp at h
      · rename_i c l'
        have hc := c.toNat_lt
        split at h
        · simp at h
        · simp at h; obtain ⟨rfl, rfl⟩ := h
          refine ⟨by omega, ?_⟩
          unfold wCount
          rw [if_neg (by omega), show (b.toNat - 128 + 128 * c.toNat) % 128 + 128 = b.toNat by omega, show (b.toNat - 128 + 128 * c.toNat) / 128 = c.toNat by omega]
          simp
theorem mCount_whole {n : Nat} (h : n ≤ 300) (r : Bs) : mCount (wCount n ++ r) = (some n, r) := by
  unfold wCount
  split
  · simp only [List.cons_append, List.nil_append, mCount]
    rw [toNat_ofNat (by omega), if_pos (by omega)]
  · simp only [List.cons_append, List.nil_append, mCount]
    rw [toNat_ofNat (by omega), toNat_ofNat (by omega), if_neg (by omega), if_neg (by omega), show n % 128 + 128 - 128 + 128 * (n / 128) = n by omega]
theorem mBelow_some {c : Nat} {l r : Bs} {n : Nat} (h : mBelow c l = (some n, r)) : n < c ∧ l = UInt8.ofNat n :: r := by
  cases l with
  | nil => simp [mBelow] at h
  | cons b l =>
    simp only [mBelow] at h
    split at h
    · simp at h; obtain ⟨rfl, rfl⟩ := h; exact ⟨by assumption, by simp⟩
    · simp at h
theorem mBelow_whole {c n : Nat} (h : n < c) (hc : n < 256) (r : Bs) : mBelow c (UInt8.ofNat n :: r) = (some n, r) := by
  simp only [mBelow]
  rw [toNat_ofNat hc, if_pos h]
theorem mVis_some : ∀ (k : Nat) (acc l b r : Bs), mVis k acc l = (some b, r) → ∃ d, b = acc ++ d ∧ d.length = k ∧ (∀ c ∈ d, 32 ≤ c.toNat ∧ c.toNat ≤ 126) ∧ l = d ++ r := by
  intro k
  induction k with
  | zero => intro acc l b r h; simp [mVis] at h; obtain ⟨rfl, rfl⟩ := h; exact ⟨[], by simp, rfl, by simp, rfl⟩
  | succ k ih =>
    intro acc l b r h
    cases l with
    | nil => simp [mVis] at h
    | cons c l =>
      simp only [mVis] at h
      split at h
      · rename_i hv
        obtain ⟨d, rfl, h2, h3, rfl⟩ := ih _ _ _ _ h
        refine ⟨c :: d, by simp, by simp [h2], ?_, rfl⟩
        intro x hx
        rcases List.mem_cons.1 hx with rfl | hx
        · exact hv
        · exact h3 x hx
      · simp at h
theorem mVis_whole : ∀ (d acc r : Bs), (∀ c ∈ d, 32 ≤ c.toNat ∧ c.toNat ≤ 126) → mVis d.length acc (d ++ r) = (some (acc ++ d), r) := by
  intro d
  induction d with
  | nil => intro acc r _; simp [mVis]
  | cons c d ih =>
    intro acc r hv
    simp only [List.length_cons, List.cons_append, mVis]
    rw [if_pos (hv c (by simp)), ih _ _ (fun x hx => hv x (by simp [hx]))]
    simp

theorem PT.sub_some {t : PT} {i : Nat} (h : i < t.subs.length) : t.subs[i]? = some (t.sub i) := by
  simp [PT.sub, List.getElem?_eq_getElem h]
theorem WFT.sub {k : Nat} {t : PT} {i : Nat} (h : WFT (k + 1) t) (hi : i < t.subs.length) : WFT k (t.sub i) :=
  h.2.2.1 _ (List.mem_of_getElem? (PT.sub_some hi))

def Stop (r : Bs) : Prop := ∀ b l, r = b :: l → b.toNat = 44 ∨ b.toNat = 93 ∨ b.toNat = 125
theorem Stop.digit {r : Bs} (h : Stop r) : StopD r := fun b l e => by have := h b l e; omega
theorem Stop.hex {r : Bs} (h : Stop r) : StopH r := by
  unfold StopH
  cases r with
  | nil => rfl
  | cons b l =>
    have := h b l rfl
    simp only [hexD]
    rw [if_neg (by omega), if_neg (by omega)]
theorem Stop.of (c : UInt8) (r : Bs) (h : c.toNat = 44 ∨ c.toNat = 93 ∨ c.toNat = 125) : Stop (c :: r) := by
  intro b l e
  simp at e
  obtain ⟨rfl, _⟩ := e
  exact h
theorem Stop.nil : Stop [] := fun b l e => by simp at e

section
variable {rd : Bs → Option PV × Bs} {f : PV → Bs} {P : PV → Prop}

theorem wBetween_cons {v : PV} {d : List PV} (h : d ≠ []) : wBetween f (v :: d) = f v ++ 44 :: wBetween f d := by
  cases d with
  | nil => exact absurd rfl h
  | cons x d => rfl
theorem wBetween_one {v : PV} : wBetween f [v] = f v := by simp [wBetween]

theorem rElems_sound (hrd : ∀ l v r, rd l = (some v, r) → P v ∧ l = f v ++ r) : ∀ (k : Nat) (acc : List PV) (l : Bs) (vs : List PV) (r : Bs), rElems rd k acc l = (some vs, r) → ∃ d, vs = acc ++ d ∧ d ≠ [] ∧ d.length ≤ k ∧ (∀ x ∈ d, P x) ∧ l = wBetween f d ++ 93 :: r := by
  intro k
  induction k with
  | zero => intro acc l vs r h; simp [rElems] at h
  | succ k ih =>
    intro acc l vs r h
    simp only [rElems] at h
    split at h
    · simp at h
    · rename_i v l1 e
      obtain ⟨hP, rfl⟩ := hrd _ _ _ e
      split at h
      · rename_i l2 e2
        simp at h; obtain ⟨rfl, rfl⟩ := h
        obtain ⟨b, rfl, hb⟩ := rAcc_some e2
        refine ⟨[v], rfl, by simp, by simp, by simpa using hP, ?_⟩
        rw [wBetween_one, u8_of hb]; rfl
      · split at h
        · simp at h
        · split at h
          · rename_i l2 e2
            obtain ⟨b, rfl, hb⟩ := rAcc_some e2
            obtain ⟨d, rfl, h2, h3, h4, rfl⟩ := ih _ _ _ _ h
            refine ⟨v :: d, by simp, by simp, by simp; omega, ?_, ?_⟩
            · intro x hx
              rcases List.mem_cons.1 hx with rfl | hx
              · exact hP
              · exact h4 x hx
            · rw [wBetween_cons h2, u8_of hb]; simp
          · simp at h
theorem rElems_whole (hrd : ∀ v r, P v → Stop r → rd (f v ++ r) = (some v, r)) : ∀ (d : List PV) (k : Nat) (acc : List PV) (r : Bs), d ≠ [] → d.length ≤ k → acc.length + k = 300 → (∀ x ∈ d, P x) → rElems rd k acc (wBetween f d ++ 93 :: r) = (some (acc ++ d), r) := by
  intro d
  induction d with
  | nil => intro k acc r h; exact absurd rfl h
  | cons v d ih =>
    intro k acc r _ hk ha hP
    obtain ⟨k, rfl⟩ : ∃ m, k = m + 1 := ⟨k - 1, by simp at hk; omega⟩
    by_cases hd : d = []
    · subst hd
      rw [wBetween_one]
      simp only [rElems]
      rw [hrd v _ (hP v (by simp)) (Stop.of 93 r (by decide))]
      simp only
      rw [rAcc_cons (b := 93) (c := 93) rfl]
    · rw [wBetween_cons hd, List.append_assoc, List.cons_append]
      simp only [rElems]
      rw [hrd v _ (hP v (by simp)) (Stop.of 44 _ (by decide))]
      simp only
      have hdl : 0 < d.length := List.length_pos_iff.2 hd
      simp only [List.length_cons] at hk
      rw [rAcc_ne (b := 44) (c := 93) (by decide), rAcc_cons (b := 44) (c := 44) rfl]
      simp only
      rw [if_neg (by omega), ih k (acc ++ [v]) r hd (by omega) (by simp; omega) (fun x hx => hP x (by simp [hx]))]
      simp
theorem rList_sound (hrd : ∀ l v r, rd l = (some v, r) → P v ∧ l = f v ++ r) {l : Bs} {vs : List PV} {r : Bs} (h : rList rd l = (some vs, r)) : vs.length ≤ 300 ∧ (∀ x ∈ vs, P x) ∧ l = 91 :: (wBetween f vs ++ [93]) ++ r := by
  unfold rList at h
  split at h
  · simp at h
  · rename_i l1 e
    obtain ⟨b, rfl, hb⟩ := rAcc_some e
    split at h
    · rename_i l2 e2
      obtain ⟨b2, rfl, hb2⟩ := rAcc_some e2
      simp at h; obtain ⟨rfl, rfl⟩ := h
      refine ⟨by simp, by simp, ?_⟩
      rw [u8_of hb, u8_of hb2]; rfl
    · obtain ⟨d, rfl, h2, h3, h4, rfl⟩ := rElems_sound hrd _ _ _ _ _ h
      refine ⟨by simpa using h3, by simpa using h4, ?_⟩
      rw [u8_of hb]; simp
theorem rList_whole (hrd : ∀ v r, P v → Stop r → rd (f v ++ r) = (some v, r)) (hf : ∀ v, P v → ∃ b l, f v = b :: l ∧ b.toNat ≠ 93) {vs : List PV} (r : Bs) (h1 : vs.length ≤ 300) (h2 : ∀ x ∈ vs, P x) : rList rd (91 :: (wBetween f vs ++ [93]) ++ r) = (some vs, r) := by
  unfold rList
  rw [List.cons_append, rAcc_cons (b := 91) (c := 91) rfl]
  simp only
  cases vs with
  | nil => rfl
  | cons v d =>
    obtain ⟨b, l, e, hb⟩ := hf v (h2 v (by simp))
    have : ∃ l', wBetween f (v :: d) = b :: l' := by
      unfold wBetween
      rw [e]
      exact ⟨_, rfl⟩
    obtain ⟨l', e'⟩ := this
    have hn : rAcc 93 (wBetween f (v :: d) ++ [93] ++ r) = none := by rw [e']; exact rAcc_ne hb
    rw [hn]
    simp only
    have := rElems_whole hrd (v :: d) 300 [] r (by simp) h1 rfl h2
    simp at this ⊢
    exact this
theorem rOpt_sound (hrd : ∀ l v r, rd l = (some v, r) → P v ∧ l = f v ++ r) {l : Bs} {vs : List PV} {r : Bs} (h : rOpt rd l = (some vs, r)) : vs.length ≤ 1 ∧ (∀ x ∈ vs, P x) ∧ l = wOpt f vs ++ r := by
  unfold rOpt at h
  split at h
  · rename_i l1 e
    obtain ⟨b, rfl, hb⟩ := rAcc_some e
    simp at h; obtain ⟨rfl, rfl⟩ := h
    exact ⟨by simp, by simp, by rw [u8_of hb]; rfl⟩
  · split at h
    · simp at h
    · rename_i l1 e
      obtain ⟨b, rfl, hb⟩ := rAcc_some e
      simp only [Prod.mk.injEq, Option.map_eq_some_iff] at h
      obtain ⟨⟨v, h1, rfl⟩, h2⟩ := h
      obtain ⟨hP, rfl⟩ := hrd _ _ _ (Prod.ext h1 h2)
      exact ⟨by simp, by simpa using hP, by rw [u8_of hb]; rfl⟩
theorem rOpt_whole (hrd : ∀ v r, P v → Stop r → rd (f v ++ r) = (some v, r)) {vs : List PV} (r : Bs) (hr : Stop r) (h1 : vs.length ≤ 1) (h2 : ∀ x ∈ vs, P x) : rOpt rd (wOpt f vs ++ r) = (some vs, r) := by
  unfold rOpt
  match vs, h1, h2 with
  | [], _, _ => rfl
  | [v], _, h2 =>
    simp only [wOpt, List.cons_append]
    rw [rAcc_ne (b := 43) (c := 45) (by decide), rAcc_cons (b := 43) (c := 43) rfl]
    simp only
    rw [hrd v r (h2 v (by simp)) hr]
    rfl
  | _ :: _ :: _, h1, _ => simp at h1
end

def wAhead (f : PV → Bs) : UInt8 → List PV → Bs
  | _, [] => []
  | a, v :: l => a :: (f v ++ wAhead f 44 l)
theorem wAhead_between {f : PV → Bs} : ∀ (d : List PV) (v : PV) (a : UInt8), wAhead f a (v :: d) = a :: wBetween f (v :: d) := by
  intro d
  induction d with
  | nil => intro v a; simp [wAhead, wBetween]
  | cons x d ih =>
    intro v a
    rw [wAhead, ih x 44, wBetween_cons (v := v) (d := x :: d) (by simp)]

section
variable {rd : PT → Bs → Option PV × Bs} {f : PV → Bs} {P : PT → PV → Prop}
theorem rFields_sound : ∀ (ts : List PT) (_ : ∀ t ∈ ts, ∀ l v r, rd t l = (some v, r) → P t v ∧ l = f v ++ r) (a : UInt8) (acc : List PV) (l : Bs) (vs : List PV) (r : Bs), rFields rd ts a.toNat acc l = (some vs, r) → ∃ d, vs = acc ++ d ∧ d.length = ts.length ∧ (∀ (i : Nat) (x : PV) (t : PT), d[i]? = some x → ts[i]? = some t → P t x) ∧ l = wAhead f a d ++ 125 :: r := by
  intro ts
  induction ts with
  | nil =>
    intro _ a acc l vs r h
    simp only [rFields] at h
    split at h
    · rename_i l1 e
      obtain ⟨b, rfl, hb⟩ := rAcc_some e
      simp at h; obtain ⟨rfl, rfl⟩ := h
      exact ⟨[], by simp, rfl, by simp, by rw [u8_of hb]; rfl⟩
    · simp at h
  | cons t ts ih =>
    intro hrd a acc l vs r h
    simp only [rFields] at h
    split at h
    · simp at h
    · rename_i l1 e
      obtain ⟨b, rfl, hb⟩ := rAcc_some e
      split at h
      · simp at h
      · rename_i v l2 e2
        obtain ⟨hP, rfl⟩ := hrd t (by simp) _ _ _ e2
        obtain ⟨d, rfl, h2, h3, rfl⟩ := ih (fun t' ht => hrd t' (by simp [ht])) 44 _ _ _ _ h
        refine ⟨v :: d, by simp, by simp [h2], ?_, ?_⟩
        · intro i x t' hx ht
          cases i with
          | zero => simp at hx ht; subst hx ht; exact hP
          | succ i => exact h3 i x t' (by simpa using hx) (by simpa using ht)
        · have : b = a := UInt8.toNat_inj.1 hb
          subst this
          simp [wAhead]
theorem rFields_whole : ∀ (ts : List PT) (_ : ∀ t ∈ ts, ∀ v r, P t v → Stop r → rd t (f v ++ r) = (some v, r)) (a : UInt8) (acc d : List PV) (r : Bs), d.length = ts.length → (∀ (i : Nat) (x : PV) (t : PT), d[i]? = some x → ts[i]? = some t → P t x) → rFields rd ts a.toNat acc (wAhead f a d ++ 125 :: r) = (some (acc ++ d), r) := by
  intro ts
  induction ts with
  | nil =>
    intro _ a acc d r h _
    have : d = [] := List.eq_nil_of_length_eq_zero h
    subst this
    simp [rFields, wAhead, rAcc]
  | cons t ts ih =>
    intro hrd a acc d r h hP
    cases d with
    | nil => simp at h
    | cons v d =>
      have hst : Stop (wAhead f 44 d ++ 125 :: r) := by
        cases d with
        | nil => exact Stop.of 125 r (by decide)
        | cons x d => exact Stop.of 44 _ (by decide)
      simp only [wAhead, rFields]
      rw [List.cons_append, rAcc_cons rfl]
      simp only
      rw [List.append_assoc, hrd t (by simp) v _ (hP 0 v t rfl rfl) hst]
      simp only
      have := ih (fun t' ht => hrd t' (by simp [ht])) 44 (acc ++ [v]) d r (by simpa using h) (fun i x t' hx ht => hP (i + 1) x t' (by simpa using hx) (by simpa using ht))
      rw [show (44 : UInt8).toNat = 44 from rfl] at this
      rw [this]
      simp

theorem mFields_sound : ∀ (ts : List PT) (_ : ∀ t ∈ ts, ∀ l v r, rd t l = (some v, r) → P t v ∧ l = f v ++ r) (acc : List PV) (l : Bs) (vs : List PV) (r : Bs), mFields rd ts acc l = (some vs, r) → ∃ d, vs = acc ++ d ∧ d.length = ts.length ∧ (∀ (i : Nat) (x : PV) (t : PT), d[i]? = some x → ts[i]? = some t → P t x) ∧ l = d.flatMap f ++ r := by
  intro ts
  induction ts with
  | nil => intro _ acc l vs r h; simp [mFields] at h; obtain ⟨rfl, rfl⟩ := h; exact ⟨[], by simp, rfl, by simp, rfl⟩
  | cons t ts ih =>
    intro hrd acc l vs r h
    simp only [mFields] at h
    split at h
    · simp at h
    · rename_i v l2 e2
      obtain ⟨hP, rfl⟩ := hrd t (by simp) _ _ _ e2
      obtain ⟨d, rfl, h2, h3, rfl⟩ := ih (fun t' ht => hrd t' (by simp [ht])) _ _ _ _ h
      refine ⟨v :: d, by simp, by simp [h2], ?_, by simp⟩
      intro i x t' hx ht
      cases i with
      | zero => simp at hx ht; subst hx ht; exact hP
      | succ i => exact h3 i x t' (by simpa using hx) (by simpa using ht)
theorem mFields_whole : ∀ (ts : List PT) (_ : ∀ t ∈ ts, ∀ v r, P t v → rd t (f v ++ r) = (some v, r)) (acc d : List PV) (r : Bs), d.length = ts.length → (∀ (i : Nat) (x : PV) (t : PT), d[i]? = some x → ts[i]? = some t → P t x) → mFields rd ts acc (d.flatMap f ++ r) = (some (acc ++ d), r) := by
  intro ts
  induction ts with
  | nil =>
    intro _ acc d r h _
    have : d = [] := List.eq_nil_of_length_eq_zero h
    subst this
    simp [mFields]
  | cons t ts ih =>
    intro hrd acc d r h hP
    cases d with
    | nil => simp at h
    | cons v d =>
      simp only [List.flatMap_cons, List.append_assoc, mFields]
      rw [hrd t (by simp) v _ (hP 0 v t rfl rfl)]
      simp only
      rw [ih (fun t' ht => hrd t' (by simp [ht])) (acc ++ [v]) d r (by simpa using h) (fun i x t' hx ht => hP (i + 1) x t' (by simpa using hx) (by simpa using ht))]
      simp
end

section
variable {rd : Bs → Option PV × Bs} {f : PV → Bs} {P : PV → Prop}
theorem mSeveral_sound (hrd : ∀ l v r, rd l = (some v, r) → P v ∧ l = f v ++ r) : ∀ (k : Nat) (acc : List PV) (l : Bs) (vs : List PV) (r : Bs), mSeveral rd k acc l = (some vs, r) → ∃ d, vs = acc ++ d ∧ d.length = k ∧ (∀ x ∈ d, P x) ∧ l = d.flatMap f ++ r := by
  intro k
  induction k with
  | zero => intro acc l vs r h; simp [mSeveral] at h; obtain ⟨rfl, rfl⟩ := h; exact ⟨[], by simp, rfl, by simp, rfl⟩
  | succ k ih =>
    intro acc l vs r h
    simp only [mSeveral] at h
    split at h
    · simp at h
    · rename_i v l2 e2
      obtain ⟨hP, rfl⟩ := hrd _ _ _ e2
      obtain ⟨d, rfl, h2, h3, rfl⟩ := ih _ _ _ _ h
      refine ⟨v :: d, by simp, by simp [h2], ?_, by simp⟩
      intro x hx
      rcases List.mem_cons.1 hx with rfl | hx
      · exact hP
      · exact h3 x hx
theorem mSeveral_whole (hrd : ∀ v r, P v → rd (f v ++ r) = (some v, r)) : ∀ (d acc : List PV) (r : Bs), (∀ x ∈ d, P x) → mSeveral rd d.length acc (d.flatMap f ++ r) = (some (acc ++ d), r) := by
  intro d
  induction d with
  | nil => intro acc r _; simp [mSeveral]
  | cons v d ih =>
    intro acc r hP
    simp only [List.length_cons, List.flatMap_cons, List.append_assoc, mSeveral]
    rw [hrd v _ (hP v (by simp))]
    simp only
    rw [ih _ _ (fun x hx => hP x (by simp [hx]))]
    simp
end

theorem WFT.names {k : Nat} {t : PT} (h : WFT (k + 1) t) (hk : 9 ≤ t.kind) : PreFree (t.names.map nameBs) := names_free (h.2.2.2.2.2.2 hk).1 (h.2.2.2.2.2.2 hk).2
theorem mostOf_ge (k : Nat) : 9 ≤ mostOf k ∧ mostOf k < 10 ^ 20 := by unfold mostOf; split <;> (try split) <;> omega
theorem map_pair {α β : Type} {o : Option α} {g : α → β} {r r' : Bs} {v : β} (h : (o.map g, r) = (some v, r')) : ∃ x, o = some x ∧ g x = v ∧ r = r' := by
  simp only [Prod.mk.injEq, Option.map_eq_some_iff] at h
  obtain ⟨⟨x, h1, h2⟩, h3⟩ := h
  exact ⟨x, h1, h2, h3⟩

theorem rText_sound : ∀ (k : Nat) (t : PT) (l : Bs) (v : PV) (r : Bs), WFT k t → rText k t l = (some v, r) → Valid k t v ∧ l = wText k v ++ r := by
  intro k
  induction k with
  | zero => intro t l v r h; exact h.elim
  | succ k ih =>
    intro t l v r hW h
    have hsub : ∀ i, i < t.subs.length → ∀ l v r, rText k (t.sub i) l = (some v, r) → Valid k (t.sub i) v ∧ l = wText k v ++ r := fun i hi l v r => ih (t.sub i) l v r (hW.sub hi)
    simp only [rText] at h
    split at h
    · rename_i hk
      obtain ⟨n, h1, rfl, h2⟩ := map_pair h
      obtain ⟨q1, rfl⟩ := rUns_sound (mostOf_ge _).1 (mostOf_ge _).2 (Prod.ext h1 h2)
      refine ⟨⟨rfl, ?_⟩, ?_⟩
      · rw [if_pos hk]; exact ⟨rfl, rfl, by simp [vNum], by simp [vNum]; omega⟩
      · rw [vNum, wText_mk]
        rw [if_pos (by omega), decI, if_neg (by omega)]
        rfl
    · split at h
      · rename_i hk2 hk
        obtain ⟨n, h1, rfl, h2⟩ := map_pair h
        obtain ⟨q1, q2, rfl⟩ := rSigned_sound (Prod.ext h1 h2)
        refine ⟨⟨rfl, ?_⟩, ?_⟩
        · rw [if_neg hk2, if_pos hk]; exact ⟨rfl, rfl, q1, q2⟩
        · rw [vNum, wText_mk]; rw [if_pos (by omega)]
      · split at h
        · rename_i hk2 hk3 hk
          obtain ⟨n, h1, rfl, h2⟩ := map_pair h
          obtain ⟨x, pre, e1, e2, rfl⟩ := rOne_sound _ _ _ _ _ (Prod.ext h1 h2)
          rw [List.nil_append] at e2
          subst e2
          have hn : (n = 0 ∧ pre = wNo) ∨ (n = 1 ∧ pre = wYes) := by
            match n, e1 with
            | 0, e1 => simp at e1; exact .inl ⟨rfl, e1.symm⟩
            | 1, e1 => simp at e1; exact .inr ⟨rfl, e1.symm⟩
            | n + 2, e1 => simp at e1
          refine ⟨⟨rfl, ?_⟩, ?_⟩
          · rw [if_neg hk2, if_neg hk3, if_pos hk]; exact ⟨rfl, rfl, by simp [vNum]; omega⟩
          · rw [vNum, wText_mk]
            rw [if_neg (by omega), if_pos hk]
            rcases hn with ⟨rfl, rfl⟩ | ⟨rfl, rfl⟩ <;> rfl
        · split at h
          · rename_i hk2 hk3 hk4 hk
            obtain ⟨b, h1, rfl, h2⟩ := map_pair h
            unfold rQuoted at h1 h2
            split at h1
            · cases h1
            · rename_i l1 e
              rw [e] at h2
              obtain ⟨c, rfl, hc⟩ := rAcc_some e
              obtain ⟨d, rfl, q2, q3, rfl⟩ := rQuo_sound _ _ _ _ _ (Prod.ext h1 h2)
              refine ⟨⟨rfl, ?_⟩, ?_⟩
              · rw [if_neg hk2, if_neg hk3, if_neg hk4, if_pos hk]; exact ⟨rfl, rfl, q2, q3⟩
              · rw [vBytes, wText_mk]
                rw [if_neg (by omega), if_neg (by omega), if_pos hk, u8_of hc]
                simp
          · split at h
            · rename_i hk2 hk3 hk4 hk5 hk
              obtain ⟨b, h1, rfl, h2⟩ := map_pair h
              unfold rHexa at h1 h2
              split at h1
              · cases h1
              · rename_i l1 e
                rw [e] at h2
                obtain ⟨c, rfl, hc⟩ := rAcc_some e
                obtain ⟨d, rfl, q2, rfl⟩ := rHex_sound _ _ _ _ _ (Prod.ext h1 h2)
                refine ⟨⟨rfl, ?_⟩, ?_⟩
                · rw [if_neg hk2, if_neg hk3, if_neg hk4, if_neg hk5, if_pos hk]; exact ⟨rfl, rfl, q2⟩
                · rw [vBytes, wText_mk]
                  rw [if_neg (by omega), if_neg (by omega), if_neg (by omega), if_pos hk, u8_of hc]
                  simp
            · split at h
              · rename_i hk2 hk3 hk4 hk5 hk6 hk
                have h1s : t.subs.length = 1 := hW.2.2.2.2.1 (by omega)
                obtain ⟨vs, h1, rfl, h2⟩ := map_pair h
                obtain ⟨q1, q2, rfl⟩ := rList_sound (hsub 0 (by omega)) (Prod.ext h1 h2)
                refine ⟨⟨rfl, ?_⟩, ?_⟩
                · rw [if_neg hk2, if_neg hk3, if_neg hk4, if_neg hk5, if_neg hk6, if_pos hk]; exact ⟨rfl, rfl, q1, q2⟩
                · rw [vParts, wText_mk]
                  rw [if_neg (by omega), if_neg (by omega), if_neg (by omega), if_neg (by omega), if_pos hk]
              · split at h
                · rename_i hk2 hk3 hk4 hk5 hk6 hk7 hk
                  have h1s : t.subs.length = 1 := hW.2.2.2.2.1 (by omega)
                  obtain ⟨vs, h1, rfl, h2⟩ := map_pair h
                  obtain ⟨q1, q2, rfl⟩ := rOpt_sound (hsub 0 (by omega)) (Prod.ext h1 h2)
                  refine ⟨⟨rfl, ?_⟩, ?_⟩
                  · rw [if_neg hk2, if_neg hk3, if_neg hk4, if_neg hk5, if_neg hk6, if_neg hk7, if_pos hk]; exact ⟨rfl, rfl, q1, q2⟩
                  · rw [vParts, wText_mk]
                    rw [if_neg (by omega), if_neg (by omega), if_neg (by omega), if_neg (by omega), if_neg (by omega), if_pos hk]
                · split at h
                  · rename_i hk2 hk3 hk4 hk5 hk6 hk7 hk8 hk
                    obtain ⟨vs, h1, rfl, h2⟩ := map_pair h
                    obtain ⟨d, e1, q1, q2, rfl⟩ := rFields_sound (P := Valid k) t.subs (fun u hu l v r => ih u l v r (hW.2.2.1 u hu)) 123 _ _ _ _ (Prod.ext h1 h2)
                    rw [List.nil_append] at e1
                    subst e1
                    refine ⟨⟨rfl, ?_⟩, ?_⟩
                    · rw [if_neg hk2, if_neg hk3, if_neg hk4, if_neg hk5, if_neg hk6, if_neg hk7, if_neg hk8, if_pos hk]
                      refine ⟨rfl, rfl, q1, fun i x hx => q2 i x _ hx (PT.sub_some ?_)⟩
                      have := (List.getElem?_eq_some_iff.1 hx).1
                      simp [vParts] at this
                      omega
                    · rw [vParts, wText_mk]
                      rw [if_neg (by omega), if_neg (by omega), if_neg (by omega), if_neg (by omega), if_neg (by omega), if_neg (by omega), if_pos hk]
                      have hpos := hW.2.2.2.1 (by omega)
                      cases vs with
                      | nil => simp at q1; rw [← q1] at hpos; simp at hpos
                      | cons x d => rw [wAhead_between]; simp
                  · rename_i hk2 hk3 hk4 hk5 hk6 hk7 hk8 hk9
                    obtain ⟨p, h1, rfl, h2⟩ := map_pair h
                    unfold rCase at h1 h2
                    split at h1
                    · cases h1
                    · rename_i i l1 e
                      rw [e] at h2
                      obtain ⟨x, pre, e1, e2, rfl⟩ := rOne_sound _ _ _ _ _ e
                      rw [List.nil_append] at e2
                      subst e2
                      simp only [List.getElem?_map, Option.map_eq_some_iff] at e1
                      obtain ⟨nm, hnm, rfl⟩ := e1
                      have hi : i < t.subs.length := by
                        have := (List.getElem?_eq_some_iff.1 hnm).1
                        rw [hW.2.1] at this
                        exact this
                      simp only [Option.map_eq_some_iff] at h1
                      obtain ⟨v, h1, rfl⟩ := h1
                      obtain ⟨q1, rfl⟩ := hsub i hi _ _ _ (Prod.ext h1 h2)
                      refine ⟨⟨rfl, ?_⟩, ?_⟩
                      · rw [if_neg hk2, if_neg hk3, if_neg hk4, if_neg hk5, if_neg hk6, if_neg hk7, if_neg hk8, if_neg hk9]
                        exact ⟨rfl, i, v, rfl, hi, rfl, q1⟩
                      · rw [vParts, wText_mk]
                        rw [if_neg (by omega), if_neg (by omega), if_neg (by omega), if_neg (by omega), if_neg (by omega), if_neg (by omega), if_neg (by omega)]
                        simp [PT.name, hnm, nameBs, wFirst]

theorem wText_head : ∀ (k : Nat) (t : PT) (v : PV), WFT k t → Valid k t v → ∃ b l, wText k v = b :: l ∧ b.toNat ≠ 93 := by
  intro k t v hW hV
  cases k with
  | zero => exact hV.elim
  | succ k =>
    obtain ⟨rfl, hV⟩ := hV
    simp only [wText]
    split
    · rename_i hk
      have hn : v.num.natAbs < 10 ^ 20 := by
        split at hV
        · have := mostOf_ge v.of.kind; omega
        · rw [if_pos (by omega)] at hV; omega
      unfold decI
      split
      · exact ⟨45, _, rfl, by decide⟩
      · rcases Nat.eq_zero_or_pos v.num.natAbs with e | e
        · rw [e]; exact ⟨48, _, rfl, by decide⟩
        · obtain ⟨b, l, hd, h1, h2⟩ := decN_head 20 v.num.natAbs hn (by omega) e
          exact ⟨b, l, hd, by omega⟩
    · split
      · split
        · exact ⟨110, _, rfl, by decide⟩
        · exact ⟨121, _, rfl, by decide⟩
      · split
        · exact ⟨34, _, rfl, by decide⟩
        · split
          · exact ⟨120, _, rfl, by decide⟩
          · split
            · exact ⟨91, _, rfl, by decide⟩
            · split
              · rcases v.parts with _ | ⟨x, d⟩
                · exact ⟨45, _, rfl, by decide⟩
                · exact ⟨43, _, rfl, by decide⟩
              · split
                · exact ⟨123, _, rfl, by decide⟩
                · rename_i hk3 hk4 hk5 hk6 hk7 hk8 hk9
                  have hl := (hW.2.2.2.2.2.2 (by omega)).2
                  unfold PT.name
                  rcases hq : v.of.names[v.num.toNat]? with _ | nm
                  · exact ⟨58, _, rfl, by decide⟩
                  · simp only [Option.getD_some]
                    rcases hd : nm.data.toList with _ | ⟨b, d⟩
                    · exact ⟨58, _, rfl, by decide⟩
                    · have := hl nm (List.mem_of_getElem? hq) b (by rw [hd]; simp)
                      exact ⟨b, _, rfl, by omega⟩

theorem rText_whole : ∀ (k : Nat) (t : PT) (v : PV) (r : Bs), WFT k t → Valid k t v → Stop r → rText k t (wText k v ++ r) = (some v, r) := by
  intro k
  induction k with
  | zero => intro t v r h; exact h.elim
  | succ k ih =>
    intro t v r hW hV hr
    have hsub : ∀ i, i < t.subs.length → ∀ v r, Valid k (t.sub i) v → Stop r → rText k (t.sub i) (wText k v ++ r) = (some v, r) := fun i hi v r => ih (t.sub i) v r (hW.sub hi)
    obtain ⟨vt, vn, vb, vp⟩ := v
    obtain ⟨e, hV⟩ := hV
    simp only at e
    subst e
    simp only [rText, wText]
    simp only at hV
    split at hV
    · rename_i hk
      obtain ⟨rfl, rfl, h0, h1⟩ := hV
      rw [if_pos hk, if_pos (by omega), decI, if_neg (by omega), rUns_whole (mostOf_ge _).1 (mostOf_ge _).2 (by omega) hr.digit]
      simp [vNum]; omega
    · rename_i hk2
      rw [if_neg hk2]
      split at hV
      · rename_i hk
        obtain ⟨rfl, rfl, h0, h1⟩ := hV
        rw [if_pos hk, if_pos (by omega), rSigned_whole h0 h1 hr.digit]
        simp [vNum]
      · rename_i hk3
        rw [if_neg hk3, if_neg (show ¬ vt.kind ≤ 3 by omega)]
        split at hV
        · rename_i hk
          obtain ⟨rfl, rfl, h0⟩ := hV
          rw [if_pos hk, if_pos hk]
          rcases h0 with rfl | rfl
          · rw [if_pos rfl, rOne_whole _ yesno_free wNo [] r 0 rfl]; rfl
          · rw [if_neg (by decide), rOne_whole _ yesno_free wYes [] r 1 rfl]; rfl
        · rename_i hk4
          rw [if_neg hk4, if_neg hk4]
          split at hV
          · rename_i hk
            obtain ⟨rfl, rfl, h0, h1⟩ := hV
            rw [if_pos hk, if_pos hk]
            have : rQuoted (34 :: (wQuo vb ++ [34]) ++ r) = (some vb, r) := by
              unfold rQuoted
              rw [List.cons_append, rAcc_cons (b := 34) (c := 34) rfl]
              simp only
              have := rQuo_whole vb 300 [] r h0 h1
              simpa using this
            rw [this]; rfl
          · rename_i hk5
            rw [if_neg hk5, if_neg hk5]
            split at hV
            · rename_i hk
              obtain ⟨rfl, rfl, h0⟩ := hV
              rw [if_pos hk, if_pos hk]
              have : rHexa (120 :: wHex vb ++ r) = (some vb, r) := by
                unfold rHexa
                rw [List.cons_append, rAcc_cons (b := 120) (c := 120) rfl]
                simp only
                have := rHex_whole vb 300 [] r h0 hr.hex
                simpa using this
              rw [this]; rfl
            · rename_i hk6
              rw [if_neg hk6, if_neg hk6]
              split at hV
              · rename_i hk
                have h1s : vt.subs.length = 1 := hW.2.2.2.2.1 (by omega)
                obtain ⟨rfl, rfl, h0, h1⟩ := hV
                rw [if_pos hk, if_pos hk, rList_whole (P := Valid k (vt.sub 0)) (hsub 0 (by omega)) (fun v hv => wText_head k (vt.sub 0) v (hW.sub (by omega)) hv) r h0 h1]
                rfl
              · rename_i hk7
                rw [if_neg hk7, if_neg hk7]
                split at hV
                · rename_i hk
                  have h1s : vt.subs.length = 1 := hW.2.2.2.2.1 (by omega)
                  obtain ⟨rfl, rfl, h0, h1⟩ := hV
                  rw [if_pos hk, if_pos hk, rOpt_whole (P := Valid k (vt.sub 0)) (hsub 0 (by omega)) r hr h0 h1]
                  rfl
                · rename_i hk8
                  rw [if_neg hk8, if_neg hk8]
                  split at hV
                  · rename_i hk
                    obtain ⟨rfl, rfl, h0, h1⟩ := hV
                    rw [if_pos hk, if_pos hk]
                    have hpos := hW.2.2.2.1 (by omega)
                    have := rFields_whole (P := Valid k) (f := wText k) vt.subs (fun u hu v r => ih u v r (hW.2.2.1 u hu)) 123 [] vp r h0 (fun i x t hx ht => by
                      have := h1 i x hx
                      unfold PT.sub at this
                      rw [ht] at this
                      exact this)
                    have e : 123 :: (wBetween (wText k) vp ++ [125]) ++ r = wAhead (wText k) 123 vp ++ 125 :: r := by
                      cases vp with
                      | nil => simp at h0; rw [← h0] at hpos; simp at hpos
                      | cons x d => rw [wAhead_between]; simp
                    rw [e, show (123 : Nat) = (123 : UInt8).toNat from rfl, this]
                    rfl
                  · rename_i hk9
                    rw [if_neg hk9, if_neg hk9]
                    obtain ⟨rfl, i, x, rfl, hi, rfl, hx⟩ := hV
                    have hnl : i < vt.names.length := by rw [hW.2.1]; exact hi
                    have hnm : (vt.names.map nameBs)[i]? = some (vt.name i ++ [58]) := by
                      simp [PT.name, nameBs, List.getElem?_eq_getElem hnl]
                    have : rCase (rText k) vt (vt.name (i : Int).toNat ++ 58 :: wText k x ++ r) = (some (i, x), r) := by
                      unfold rCase
                      have h1 := rOne_whole _ (hW.names (by have := hW.1; omega)) (vt.name i ++ [58]) [] (wText k x ++ r) i (by simpa using hnm)
                      rw [show vt.name (i : Int).toNat ++ 58 :: wText k x ++ r = vt.name i ++ [58] ++ (wText k x ++ r) by simp, h1]
                      simp only
                      rw [hsub i hi x r hx hr]
                      rfl
                    rw [wFirst, this]
                    rfl

theorem rMsg_sound : ∀ (k : Nat) (t : PT) (l : Bs) (v : PV) (r : Bs), WFT k t → rMsg k t l = (some v, r) → Valid k t v ∧ l = wMsg k v ++ r := by
  intro k
  induction k with
  | zero => intro t l v r h; exact h.elim
  | succ k ih =>
    intro t l v r hW h
    have hsub : ∀ i, i < t.subs.length → ∀ l v r, rMsg k (t.sub i) l = (some v, r) → Valid k (t.sub i) v ∧ l = wMsg k v ++ r := fun i hi l v r => ih (t.sub i) l v r (hW.sub hi)
    simp only [rMsg] at h
    split at h
    · rename_i hk
      obtain ⟨b, h1, rfl, h2⟩ := map_pair h
      obtain ⟨q1, rfl⟩ := mTake_some (Prod.ext h1 h2)
      have hlt := leNat_lt b
      rw [q1] at hlt
      refine ⟨⟨rfl, ?_⟩, ?_⟩
      · rw [if_pos hk]
        refine ⟨rfl, rfl, by simp [vNum], ?_⟩
        simp only [vNum]
        unfold widthOf at hlt
        unfold mostOf
        split at hlt
        · rw [if_pos (by assumption)]; simp at hlt; omega
        · split at hlt
          · rw [if_neg (by assumption), if_pos (by assumption)]; simp at hlt; omega
          · rw [if_neg (by assumption), if_neg (by assumption)]; simp at hlt; omega
      · rw [vNum, wMsg_mk]
        rw [if_pos hk, Int.toNat_natCast, ← q1, leBytes_leNat]
    · split at h
      · rename_i hk2 hk
        obtain ⟨b, h1, rfl, h2⟩ := map_pair h
        obtain ⟨q1, rfl⟩ := mTake_some (Prod.ext h1 h2)
        have hlt : beNat b < 18446744073709551616 := by
          rw [beNat_leNat]
          have := leNat_lt b.reverse
          rw [List.length_reverse, q1] at this
          exact this
        refine ⟨⟨rfl, ?_⟩, ?_⟩
        · rw [if_neg hk2, if_pos hk]
          have := toInt64_range hlt
          exact ⟨rfl, rfl, this.1, this.2⟩
        · rw [vNum, wMsg_mk]
          rw [if_neg hk2, if_pos hk, ofInt64_to hlt, beNat_leNat, beBytes]
          have := leBytes_leNat b.reverse
          rw [List.length_reverse, q1] at this
          rw [this, List.reverse_reverse]
      · split at h
        · rename_i hk2 hk3 hk
          obtain ⟨n, h1, rfl, h2⟩ := map_pair h
          obtain ⟨q1, rfl⟩ := mBelow_some (Prod.ext h1 h2)
          refine ⟨⟨rfl, ?_⟩, ?_⟩
          · rw [if_neg hk2, if_neg hk3, if_pos hk]; exact ⟨rfl, rfl, by simp [vNum]; omega⟩
          · rw [vNum, wMsg_mk]
            rw [if_neg hk2, if_neg hk3, if_pos hk, Int.toNat_natCast]; rfl
        · split at h
          · rename_i hk2 hk3 hk4 hk
            obtain ⟨b, h1, rfl, h2⟩ := map_pair h
            unfold mText at h1 h2
            split at h1
            · cases h1
            · rename_i n l1 e
              rw [e] at h2
              obtain ⟨q1, rfl⟩ := mCount_some e
              obtain ⟨d, e1, q2, q3, rfl⟩ := mVis_some _ _ _ _ _ (Prod.ext h1 h2)
              rw [List.nil_append] at e1
              subst e1
              refine ⟨⟨rfl, ?_⟩, ?_⟩
              · rw [if_neg hk2, if_neg hk3, if_neg hk4, if_pos hk]; exact ⟨rfl, rfl, by simp [vBytes]; omega, q3⟩
              · rw [vBytes, wMsg_mk]
                rw [if_neg hk2, if_neg hk3, if_neg hk4, if_pos (by omega), q2]
                simp
          · split at h
            · rename_i hk2 hk3 hk4 hk5 hk
              obtain ⟨b, h1, rfl, h2⟩ := map_pair h
              unfold mBytes at h1 h2
              split at h1
              · cases h1
              · rename_i n l1 e
                rw [e] at h2
                obtain ⟨q1, rfl⟩ := mCount_some e
                obtain ⟨q2, rfl⟩ := mTake_some (Prod.ext h1 h2)
                refine ⟨⟨rfl, ?_⟩, ?_⟩
                · rw [if_neg hk2, if_neg hk3, if_neg hk4, if_neg hk5, if_pos hk]; exact ⟨rfl, rfl, by simp [vBytes]; omega⟩
                · rw [vBytes, wMsg_mk]
                  rw [if_neg hk2, if_neg hk3, if_neg hk4, if_pos (by omega), q2]
                  simp
            · split at h
              · rename_i hk2 hk3 hk4 hk5 hk6 hk
                have h1s : t.subs.length = 1 := hW.2.2.2.2.1 (by omega)
                obtain ⟨vs, h1, rfl, h2⟩ := map_pair h
                unfold mList at h1 h2
                split at h1
                · cases h1
                · rename_i n l1 e
                  rw [e] at h2
                  obtain ⟨q1, rfl⟩ := mCount_some e
                  obtain ⟨d, e1, q2, q3, rfl⟩ := mSeveral_sound (hsub 0 (by omega)) _ _ _ _ _ (Prod.ext h1 h2)
                  rw [List.nil_append] at e1
                  subst e1
                  refine ⟨⟨rfl, ?_⟩, ?_⟩
                  · rw [if_neg hk2, if_neg hk3, if_neg hk4, if_neg hk5, if_neg hk6, if_pos hk]; exact ⟨rfl, rfl, by simp [vParts]; omega, q3⟩
                  · rw [vParts, wMsg_mk]
                    rw [if_neg hk2, if_neg hk3, if_neg hk4, if_neg (by omega), if_pos (by omega), q2]
                    simp
              · split at h
                · rename_i hk2 hk3 hk4 hk5 hk6 hk7 hk
                  have h1s : t.subs.length = 1 := hW.2.2.2.2.1 (by omega)
                  obtain ⟨vs, h1, rfl, h2⟩ := map_pair h
                  unfold mOpt at h1 h2
                  split at h1
                  · cases h1
                  · rename_i n l1 e
                    rw [e] at h2
                    obtain ⟨q1, rfl⟩ := mBelow_some e
                    obtain ⟨d, e1, q2, q3, rfl⟩ := mSeveral_sound (hsub 0 (by omega)) _ _ _ _ _ (Prod.ext h1 h2)
                    rw [List.nil_append] at e1
                    subst e1
                    refine ⟨⟨rfl, ?_⟩, ?_⟩
                    · rw [if_neg hk2, if_neg hk3, if_neg hk4, if_neg hk5, if_neg hk6, if_neg hk7, if_pos hk]; exact ⟨rfl, rfl, by simp [vParts]; omega, q3⟩
                    · rw [vParts, wMsg_mk]
                      rw [if_neg hk2, if_neg hk3, if_neg hk4, if_neg (by omega), if_pos (by omega), q2]
                      simp [wCount, show n ≤ 127 by omega]
                · split at h
                  · rename_i hk2 hk3 hk4 hk5 hk6 hk7 hk8 hk
                    obtain ⟨vs, h1, rfl, h2⟩ := map_pair h
                    obtain ⟨d, e1, q1, q2, rfl⟩ := mFields_sound (P := Valid k) t.subs (fun u hu l v r => ih u l v r (hW.2.2.1 u hu)) _ _ _ _ (Prod.ext h1 h2)
                    rw [List.nil_append] at e1
                    subst e1
                    refine ⟨⟨rfl, ?_⟩, ?_⟩
                    · rw [if_neg hk2, if_neg hk3, if_neg hk4, if_neg hk5, if_neg hk6, if_neg hk7, if_neg hk8, if_pos hk]
                      refine ⟨rfl, rfl, q1, fun i x hx => q2 i x _ hx (PT.sub_some ?_)⟩
                      have := (List.getElem?_eq_some_iff.1 hx).1
                      simp [vParts] at this
                      omega
                    · rw [vParts, wMsg_mk]
                      rw [if_neg hk2, if_neg hk3, if_neg hk4, if_neg (by omega), if_neg (by omega), if_pos hk]
                  · rename_i hk2 hk3 hk4 hk5 hk6 hk7 hk8 hk9
                    obtain ⟨p, h1, rfl, h2⟩ := map_pair h
                    unfold mCase at h1 h2
                    split at h1
                    · cases h1
                    · rename_i i l1 e
                      rw [e] at h2
                      obtain ⟨hi, rfl⟩ := mBelow_some e
                      simp only [Option.map_eq_some_iff] at h1
                      obtain ⟨v, h1, rfl⟩ := h1
                      obtain ⟨q1, rfl⟩ := hsub i hi _ _ _ (Prod.ext h1 h2)
                      refine ⟨⟨rfl, ?_⟩, ?_⟩
                      · rw [if_neg hk2, if_neg hk3, if_neg hk4, if_neg hk5, if_neg hk6, if_neg hk7, if_neg hk8, if_neg hk9]
                        exact ⟨rfl, i, v, rfl, hi, rfl, q1⟩
                      · rw [vParts, wMsg_mk]
                        rw [if_neg hk2, if_neg hk3, if_neg hk4, if_neg (by omega), if_neg (by omega), if_neg hk9]
                        simp

theorem rMsg_whole : ∀ (k : Nat) (t : PT) (v : PV) (r : Bs), WFT k t → Valid k t v → rMsg k t (wMsg k v ++ r) = (some v, r) := by
  intro k
  induction k with
  | zero => intro t v r h; exact h.elim
  | succ k ih =>
    intro t v r hW hV
    have hsub : ∀ i, i < t.subs.length → ∀ v r, Valid k (t.sub i) v → rMsg k (t.sub i) (wMsg k v ++ r) = (some v, r) := fun i hi v r => ih (t.sub i) v r (hW.sub hi)
    obtain ⟨vt, vn, vb, vp⟩ := v
    obtain ⟨e, hV⟩ := hV
    simp only at e
    subst e
    simp only [rMsg, wMsg]
    simp only at hV
    split at hV
    · rename_i hk
      obtain ⟨rfl, rfl, h0, h1⟩ := hV
      rw [if_pos hk, if_pos hk]
      have hlt : vn.toNat < 256 ^ widthOf vt.kind := by
        unfold widthOf
        unfold mostOf at h1
        split at h1
        · rw [if_pos (by assumption)]; simp; omega
        · split at h1
          · rw [if_neg (by assumption), if_pos (by assumption)]; simp; omega
          · rw [if_neg (by assumption), if_neg (by assumption)]; simp; omega
      have := mTake_whole (b := leBytes (widthOf vt.kind) vn.toNat) r
      rw [leBytes_length] at this
      rw [this]
      simp only [Option.map_some, leNat_leBytes _ _ hlt, vNum]
      rw [Int.toNat_of_nonneg h0]
    · rename_i hk2
      rw [if_neg hk2, if_neg hk2]
      split at hV
      · rename_i hk
        obtain ⟨rfl, rfl, h0, h1⟩ := hV
        rw [if_pos hk, if_pos hk]
        have := mTake_whole (b := beBytes 8 (ofInt64 vn)) r
        rw [show (beBytes 8 (ofInt64 vn)).length = 8 by simp [beBytes, leBytes_length]] at this
        rw [this]
        simp only [Option.map_some, beNat_leNat, beBytes, List.reverse_reverse]
        rw [leNat_leBytes 8 _ (by unfold ofInt64; omega), toInt64_of h0 h1]
        rfl
      · rename_i hk3
        rw [if_neg hk3, if_neg hk3]
        split at hV
        · rename_i hk
          obtain ⟨rfl, rfl, h0⟩ := hV
          rw [if_pos hk, if_pos hk, List.cons_append, mBelow_whole (by omega) (by omega)]
          simp [vNum]; omega
        · rename_i hk4
          rw [if_neg hk4, if_neg hk4]
          split at hV
          · rename_i hk
            obtain ⟨rfl, rfl, h0, h1⟩ := hV
            rw [if_pos hk, if_pos (by omega)]
            have : mText (wCount vb.length ++ vb ++ r) = (some vb, r) := by
              unfold mText
              rw [List.append_assoc, mCount_whole h0]
              simp only
              have := mVis_whole vb [] r h1
              simpa using this
            rw [this]; rfl
          · rename_i hk5
            rw [if_neg hk5]
            split at hV
            · rename_i hk
              obtain ⟨rfl, rfl, h0⟩ := hV
              rw [if_pos hk, if_pos (by omega)]
              have : mBytes (wCount vb.length ++ vb ++ r) = (some vb, r) := by
                unfold mBytes
                rw [List.append_assoc, mCount_whole h0]
                simp only
                exact mTake_whole r
              rw [this]; rfl
            · rename_i hk6
              rw [if_neg hk6, if_neg (show ¬ vt.kind ≤ 6 by omega)]
              split at hV
              · rename_i hk
                have h1s : vt.subs.length = 1 := hW.2.2.2.2.1 (by omega)
                obtain ⟨rfl, rfl, h0, h1⟩ := hV
                rw [if_pos hk, if_pos (by omega)]
                have : mList (rMsg k (vt.sub 0)) (wCount vp.length ++ vp.flatMap (wMsg k) ++ r) = (some vp, r) := by
                  unfold mList
                  rw [List.append_assoc, mCount_whole h0]
                  simp only
                  have := mSeveral_whole (P := Valid k (vt.sub 0)) (hsub 0 (by omega)) vp [] r h1
                  simpa using this
                rw [this]; rfl
              · rename_i hk7
                rw [if_neg hk7]
                split at hV
                · rename_i hk
                  have h1s : vt.subs.length = 1 := hW.2.2.2.2.1 (by omega)
                  obtain ⟨rfl, rfl, h0, h1⟩ := hV
                  rw [if_pos hk, if_pos (by omega)]
                  have : mOpt (rMsg k (vt.sub 0)) (wCount vp.length ++ vp.flatMap (wMsg k) ++ r) = (some vp, r) := by
                    unfold mOpt
                    rw [List.append_assoc, wCount, if_pos (by omega), List.cons_append, mBelow_whole (by omega) (by omega)]
                    simp only
                    have := mSeveral_whole (P := Valid k (vt.sub 0)) (hsub 0 (by omega)) vp [] r h1
                    simpa using this
                  rw [this]; rfl
                · rename_i hk8
                  rw [if_neg hk8, if_neg (show ¬ vt.kind ≤ 8 by omega)]
                  split at hV
                  · rename_i hk
                    obtain ⟨rfl, rfl, h0, h1⟩ := hV
                    rw [if_pos hk, if_pos hk]
                    have := mFields_whole (P := Valid k) (f := wMsg k) vt.subs (fun u hu v r => ih u v r (hW.2.2.1 u hu)) [] vp r h0 (fun i x t hx ht => by
                      have := h1 i x hx
                      unfold PT.sub at this
                      rw [ht] at this
                      exact this)
                    rw [this]
                    rfl
                  · rename_i hk9
                    rw [if_neg hk9, if_neg hk9]
                    obtain ⟨rfl, i, x, rfl, hi, rfl, hx⟩ := hV
                    have h6 := hW.2.2.2.2.2.1.1
                    have : mCase (rMsg k) vt (UInt8.ofNat (i : Int).toNat :: [x].flatMap (wMsg k) ++ r) = (some (i, x), r) := by
                      unfold mCase
                      rw [Int.toNat_natCast, List.cons_append, mBelow_whole hi (by omega)]
                      simp only [List.flatMap_cons, List.flatMap_nil, List.append_nil]
                      rw [hsub i hi x r hx]
                      rfl
                    rw [this]
                    rfl

end Go.Proofs.YtdcjogpkogidaaaGreatDoor
