/- The layout rule on lists: what is laid at each token, and what is open there. Plain definitions and laws; nothing of the program. -/
import Derived.Test.YtbjbmehkcfpahaaPlain
namespace Go.Proofs.Ytbjbmehkcfpahaa
namespace Lx

/-- A token as it lies in memory. -/
structure Rt where
  kind : Int
  text : List UInt8
  n : Int
  line : Int
  col : Int
  deriving DecidableEq

/-- The kinds of marks. -/
inductive Mk where
  | par | sqb | cur | ift | thn | cas | lt
  deriving DecidableEq

def Mk.txt : Mk → List UInt8
  | .par => [40]
  | .sqb => [91]
  | .cur => [123]
  | .ift => [105, 102]
  | .thn => [116, 104, 101, 110]
  | .cas => [99, 97, 115, 101]
  | .lt => [108, 101, 116]

/-- What lies on the stack: a block with its column, braces, a mark. -/
inductive En where
  | blk (c : Int)
  | brc
  | mk (m : Mk)
  deriving DecidableEq

def En.loose : En → Bool
  | .blk _ => true
  | .mk .lt => true
  | _ => false

def En.isBlk : En → Bool
  | .blk _ => true
  | _ => false

/-- Does a closer of this text end such an entry? -/
def fitB (x : List UInt8) : En → Bool
  | .mk .par => x == [41] || x == [44]
  | .mk .sqb => x == [93] || x == [44]
  | .mk .cur => x == [125] || x == [44]
  | .brc => x == [125]
  | .mk .ift => x == [116, 104, 101, 110]
  | .mk .thn => x == [101, 108, 115, 101]
  | .mk .cas => x == [111, 102]
  | .mk .lt => x == [105, 110]
  | .blk _ => false

def opnW : List (List UInt8) := [[119, 104, 101, 114, 101], [108, 101, 116], [100, 111], [111, 102]]
def cloS : List (List UInt8) := [[41], [93], [125], [44]]
def cloW : List (List UInt8) := [[116, 104, 101, 110], [101, 108, 115, 101], [111, 102], [105, 110]]
def mrkS : List (List UInt8) := [[40], [91], [123]]
def mrkW : List (List UInt8) := [[105, 102], [99, 97, 115, 101], [108, 101, 116]]

def wordT (t : Rt) (l : List (List UInt8)) : Bool := (t.kind == 7) && oneB l t.text
def signT (t : Rt) (l : List (List UInt8)) : Bool := (t.kind == 8) && oneB l t.text
def opnB (t : Rt) : Bool := wordT t opnW
def cloB (t : Rt) : Bool := signT t cloS || wordT t cloW
def mrkB (t : Rt) : Bool := signT t mrkS || wordT t mrkW
def curB (t : Rt) : Bool := signT t [[123]]

/-- The mark of a text. -/
def mkOf (x : List UInt8) : Mk :=
  if x == [40] then .par else if x == [91] then .sqb else if x == [123] then .cur else if x == [105, 102] then .ift else if x == [99, 97, 115, 101] then .cas else .lt

/-- The column of the current block. -/
def curC : List En → Option Int
  | [] => none
  | .blk c :: _ => some c
  | .brc :: _ => none
  | .mk _ :: r => curC r
/-- What lies below the current block. -/
def curR : List En → List En
  | [] => []
  | .mk _ :: r => curR r
  | _ :: r => r
/-- Is all that lies above the current block loose? -/
def curL : List En → Bool
  | .mk m :: r => (m == .lt) && curL r
  | _ => true

def insT (x : List UInt8) (t : Rt) : Rt := ⟨8, x, 1, t.line, t.col⟩

/-- What a token that is first on its line ends. -/
def lnL (t : Rt) (col : Int) : Nat → List En → Option (List En × List Rt)
  | 0, _ => none
  | k + 1, rs => match curC rs with
    | none => some (rs, [])
    | some c =>
      if c < col || (col == c && cloB t) then some (rs, [])
      else if curL rs then
        if col == c then some (.blk c :: curR rs, [insT [59] t])
        else match lnL t col k (curR rs) with
          | none => none
          | some (r, o) => some (r, insT [125] t :: o)
      else none

/-- The topmost entry that is not passed over: how many blocks lie above it, it, and what lies below it. -/
def topE (p : En → Bool) : List En → Nat → Option (Nat × En × List En)
  | [], _ => none
  | e :: r, n => if p e then topE p r (if e.isBlk then n + 1 else n) else some (n, e, r)

/-- What a closer ends. -/
def closeL (t : Rt) (rs : List En) : List En × List Rt :=
  match topE (if t.text == [105, 110] then En.isBlk else En.loose) rs 0 with
  | none => (rs, [])
  | some (n, e, r) =>
    if fitB t.text e then
      ((if t.text == [44] then e :: r else if t.text == [116, 104, 101, 110] then .mk .thn :: r else r), List.replicate n (insT [125] t))
    else (rs, [])

/-- What a token behind an opener begins. -/
def beginL (t : Rt) (col : Int) (rs : List En) : Bool × List En × List Rt :=
  if (curC rs).getD 0 < col then (true, .blk col :: rs, [insT [123] t]) else (false, rs, [insT [123] t, insT [125] t])

def mrkSt (t : Rt) (rs : List En) : List En := if mrkB t then .mk (mkOf t.text) :: rs else rs
def endL (t : Rt) (rs : List En) : List En × List Rt := if cloB t then closeL t rs else (rs, [])

def tokL (t : Rt) (first opened : Bool) (rs : List En) : Option (List En × List Rt) :=
  if opened && curB t then some (.brc :: rs, [t])
  else
    let b := if opened then beginL t t.col rs else (false, rs, [])
    match (if first && !b.1 then lnL t t.col (rs.length + 1) b.2.1 else some (b.2.1, [])) with
    | none => none
    | some (r2, o2) => some (mrkSt t (endL t r2).1, b.2.2 ++ o2 ++ (endL t r2).2 ++ [t])

def firstB (prev : Option Rt) (t : Rt) : Bool := match prev with
  | none => true
  | some p => decide (p.line < t.line)
def openedB (prev : Option Rt) : Bool := match prev with
  | none => false
  | some p => opnB p

/-- All input tokens, in order: what is left open, what is laid; or the token at which that is wrong. -/
def goL : Option Rt → List Rt → List En → Except Rt (List En × List Rt)
  | _, [], rs => .ok (rs, [])
  | prev, t :: ts, rs => match tokL t (firstB prev t) (openedB prev) rs with
    | none => .error t
    | some (r, o) => match goL (some t) ts r with
      | .error e => .error e
      | .ok (r', o') => .ok (r', o ++ o')

def finL (e : Rt) (opened : Bool) (rs : List En) : Option (List Rt) :=
  let b := if opened then beginL e 0 rs else (false, rs, [])
  match lnL e 0 (rs.length + 2) b.2.1 with
  | none => none
  | some (_, o) => some (b.2.2 ++ o ++ [e])

/-- The end token. -/
def endT (last : Option Rt) : Rt := match last with
  | none => ⟨9, [], 0, 1, 1⟩
  | some t => ⟨9, [], 0, t.line, t.col⟩

/-- The input tokens and the end token. -/
def splitL (last : Option Rt) : List Rt → List Rt × Rt
  | [] => ([], endT last)
  | t :: ts => if t.kind == 9 then ([], t) else ((t :: (splitL (some t) ts).1), (splitL (some t) ts).2)

def lastT (prev : Option Rt) (ts : List Rt) : Option Rt := match ts.getLast? with
  | none => prev
  | some t => some t

/-- THE LAYOUT RULE. -/
def layL (ts : List Rt) : Except Rt (List Rt) :=
  match goL none (splitL none ts).1 [] with
  | .error t => .error t
  | .ok (rs, o) => match finL (splitL none ts).2 (openedB (splitL none ts).1.getLast?) rs with
    | none => .error (splitL none ts).2
    | some o' => .ok (o ++ o')

end Lx
end Go.Proofs.Ytbjbmehkcfpahaa
