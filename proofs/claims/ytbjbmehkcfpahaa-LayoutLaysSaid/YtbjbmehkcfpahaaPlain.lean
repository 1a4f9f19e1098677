/- The lexer of this program as plain functions on lists of bytes: what the contracts of the walks name. No condition. -/
import Derived.Lib.Strings
namespace Go.Proofs.Ytbjbmehkcfpahaa.Lx

def spaceB (b : UInt8) : Bool := b == 32 || b == 10
def capB (b : UInt8) : Bool := decide (65 ≤ b) && decide (b ≤ 90)
def letB (b : UInt8) : Bool := capB b || (decide (97 ≤ b) && decide (b ≤ 122))
def digB (b : UInt8) : Bool := decide (48 ≤ b) && decide (b ≤ 57)
def wordB (b : UInt8) : Bool := letB b || digB b || b == 95 || b == 39
def symL : List UInt8 := [33, 35, 36, 37, 38, 42, 43, 46, 47, 60, 61, 62, 63, 64, 92, 94, 124, 45, 58]
def symB (b : UInt8) : Bool := symL.contains b
def dashB (b : UInt8) : Bool := b == 45
def brkL : List UInt8 := [40, 41, 44, 59, 91, 93, 123, 125, 96]
def brkB (b : UInt8) : Bool := brkL.contains b
def nlB (b : UInt8) : Bool := !(b == 10)

def wordsL : List (List UInt8) := [[99, 97, 115, 101], [99, 108, 97, 115, 115], [100, 97, 116, 97], [100, 111], [101, 108, 115, 101], [105, 102], [105, 109, 112, 111, 114, 116], [105, 110], [105, 110, 102, 105, 120],
  [105, 110, 102, 105, 120, 108], [105, 110, 102, 105, 120, 114], [105, 110, 115, 116, 97, 110, 99, 101], [108, 101, 116], [109, 111, 100, 117, 108, 101], [111, 102], [116, 104, 101, 110], [119, 104, 101, 114, 101]]
def signsL : List (List UInt8) := [[61], [92], [124], [60, 45], [45, 62], [64], [61, 62], [58, 58]]

/-- Is a word one of some? -/
def oneB (ws : List (List UInt8)) (l : List UInt8) : Bool := ws.contains l

/-- The number that digits are, behind n, if it does not pass most. -/
def valL (most : Int) : Int → List UInt8 → Option Int
  | n, [] => some n
  | n, c :: r => if (most - ((c - 48).toNat : Int)) / 10 < n then none else valL most (n * 10 + ((c - 48).toNat : Int)) r

def openB (l : List UInt8) : Bool := [123, 45].isPrefixOf l
def closeB (l : List UInt8) : Bool := [45, 125].isPrefixOf l

/-- How many bytes a block comment takes, at a depth; none: it is not closed. -/
def blkL : Nat → Int → List UInt8 → Option Nat
  | 0, _, _ => none
  | _ + 1, _, [] => none
  | k + 1, d, a :: l =>
    if openB (a :: l) then (if d + 1 = 0 then some 2 else (blkL k (d + 1) (l.drop 1)).map (· + 2))
    else if closeB (a :: l) then (if d - 1 = 0 then some 2 else (blkL k (d - 1) (l.drop 1)).map (· + 2))
    else (if d = 0 then some 1 else (blkL k d l).map (· + 1))

/-- The length of a line comment; 0: none. -/
def lineL (l : List UInt8) : Nat :=
  if (l.takeWhile symB).length < 2 || !((l.takeWhile symB).takeWhile dashB == l.takeWhile symB) then 0 else (l.takeWhile nlB).length

/-- The bytes that are skipped next; none: a block comment that is not closed. -/
def gapL (l : List UInt8) : Option Nat :=
  if (l.takeWhile spaceB).length = 0 then (if openB l then blkL l.length 0 l else some (lineL l)) else some (l.takeWhile spaceB).length

/-- The byte that an escape is, and how many bytes it takes (0: none). -/
def escL (l : List UInt8) : UInt8 × Nat :=
  let ds := (l.drop 1).takeWhile digB
  if ds = [] then
    match l with
    | _ :: c :: _ => if c = 110 then (10, 2) else if c = 116 then (9, 2) else if c = 92 ∨ c = 34 then (c, 2) else (0, 0)
    | _ => (0, 0)
  else match valL 255 0 ds with
    | none => (0, 0)
    | some n => (n.toNat.toUInt8, 1 + ds.length)

def charL (l : List UInt8) : UInt8 × Nat :=
  match l with
  | [] => (0, 0)
  | c :: _ => if c = 92 then escL l else if c < 32 ∨ 126 < c then (0, 0) else (c, 1)

/-- A literal's bytes behind its quote, and how many bytes it takes from there on, its last quote too; none: it may not be. -/
def litL : Nat → List UInt8 → Option (List UInt8 × Nat)
  | 0, _ => none
  | _ + 1, [] => none
  | k + 1, c :: l =>
    if c = 34 then some ([], 1)
    else if (charL (c :: l)).2 = 0 then none
    else (litL k ((c :: l).drop (charL (c :: l)).2)).map fun r => ((charL (c :: l)).1 :: r.1, r.2 + (charL (c :: l)).2)

/-- What token answers: the token without its place, its length, an error. -/
structure Got where
  kind : Int
  text : List UInt8
  n : Int
  len : Nat
  err : Int

def badG (e : Int) : Got := ⟨0, [], 0, 0, e⟩
def speltG (k : Int) (t : List UInt8) : Got := ⟨k, t, 0, t.length, 0⟩
def wordKindL (t : List UInt8) : Int := if oneB wordsL t then 7 else if t = [95] then 8 else if capB (t.headD 0) then 2 else 1
def operKindL (t : List UInt8) : Int := if oneB signsL t then 8 else if t.headD 0 = 58 then 4 else 3
def intG (l : List UInt8) : Got :=
  match valL 9223372036854775807 0 (l.takeWhile digB) with
  | none => badG 12
  | some n => { speltG 5 (l.takeWhile digB) with n := n }
def litG (l : List UInt8) : Got :=
  match litL l.length (l.drop 1) with
  | none => badG 13
  | some r => ⟨6, r.1, 0, r.2 + 1, 0⟩
def tokG (l : List UInt8) : Got :=
  let c := l.headD 0
  if letB c || c == 95 then speltG (wordKindL (l.takeWhile wordB)) (l.takeWhile wordB)
  else if digB c then intG l
  else if symB c then speltG (operKindL (l.takeWhile symB)) (l.takeWhile symB)
  else if brkB c then speltG 8 (l.take 1)
  else if c == 34 then litG l
  else badG 11

/-- A token. -/
structure Tk where
  kind : Int
  text : List UInt8
  n : Int
  line : Nat
  col : Nat
  deriving DecidableEq

/-- What is wrong, and where. -/
structure Dg where
  line : Nat
  col : Nat
  num : Int
  deriving DecidableEq

/-- A place behind some bytes. -/
def advL : Nat × Nat → List UInt8 → Nat × Nat
  | p, [] => p
  | p, c :: r => advL (if c = 10 then (p.1 + 1, 1) else (p.1, p.2 + 1)) r

def lexL : Nat → List UInt8 → Nat × Nat → Except Dg (List Tk)
  | 0, _, _ => .ok []
  | k + 1, l, p =>
    match gapL l with
    | none => .error ⟨p.1, p.2, 14⟩
    | some (g + 1) => lexL k (l.drop (g + 1)) (advL p (l.take (g + 1)))
    | some 0 =>
      if l = [] then .ok [⟨9, [], 0, p.1, p.2⟩]
      else if (tokG l).err = 0 then
        (lexL k (l.drop (tokG l).len) (advL p (l.take (tokG l).len))).map (fun r => ⟨(tokG l).kind, (tokG l).text, (tokG l).n, p.1, p.2⟩ :: r)
      else .error ⟨p.1, p.2, (tokG l).err⟩

def readL (l : List UInt8) : Except Dg (List Tk) := if 16384 < l.length then .error ⟨1, 1, 10⟩ else lexL (l.length + 1) l (1, 1)

/-- A string of some bytes. -/
def bt (l : List UInt8) : ByteArray := ⟨l.toArray⟩
theorem bt_data (l : List UInt8) : (bt l).data = l.toArray := rfl
theorem bt_list (l : List UInt8) : (bt l).data.toList = l := rfl
theorem bt_size (l : List UInt8) : (bt l).size = l.length := by simp [bt, ByteArray.size]
theorem bt_of (s : ByteArray) : s = bt s.data.toList := by cases s; rfl
theorem bt_get (l : List UInt8) (k : Nat) (h : k < (bt l).size) : (bt l)[k] = l[k]'(by rw [bt_size] at h; exact h) := rfl
theorem bt_toList (l : List UInt8) : (bt l).toList = l := Lib.toList_data _
theorem bt_extract (l : List UInt8) (a b : Nat) : (bt l).extract a b = bt ((l.drop a).take (b - a)) := Lib.extract_eq _ a b
theorem bt_drop (l : List UInt8) (a : Nat) : (bt l).extract a l.length = bt (l.drop a) := by
  rw [bt_extract, List.take_of_length_le (by simp)]
theorem bt_take (l : List UInt8) (a : Nat) : (bt l).extract 0 a = bt (l.take a) := by
  rw [bt_extract]; rfl
theorem bt_app (a b : List UInt8) : bt a ++ bt b = bt (a ++ b) := by
  apply ByteArray.ext
  simp [bt]
theorem bt_nl (a : List UInt8) : bt a ++ (⟨#[10]⟩ : ByteArray) = bt (a ++ [10]) := bt_app a [10]
theorem bt_inj {l m : List UInt8} (h : bt l = bt m) : l = m := by
  have := congrArg (fun s => s.data.toList) h
  exact this
end Go.Proofs.Ytbjbmehkcfpahaa.Lx
