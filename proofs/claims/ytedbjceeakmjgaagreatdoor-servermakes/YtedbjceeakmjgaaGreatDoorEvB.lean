/- The evaluator of closed runs: EvB -/
import Derived.Test.YtedbjceeakmjgaaGreatDoorEvA
namespace Go.Proofs.YtedbjceeakmjgaaGreatDoor.Ev
set_option linter.unusedSimpArgs false
noncomputable section

def opd (tm : T Value) : Operand → Value
  | .tmp t => match tm.get t with | some v => v | none => undef
  | .const v => v
  | .global g => .pointer (some ⟨g, 0, none⟩)
  | .func f => .func (.func f) #[] #[]

def pureRun {α : Type} (P : Program) : Sem α → Option α
  | .pure a => some a
  | .program k => pureRun P (k P)
  | _ => none

/-- no pointers within, to a depth. -/
def ground : Nat → Value → Bool
  | 0, _ => false
  | d + 1, v =>
    match v with
    | .bool _ | .int _ _ | .float _ _ | .string _ | .pointer none | .map none | .nilFunc | .nilIface => true
    | .slice none _ _ => true
    | .iface _ v => ground d v
    | .agg ⟨l⟩ => l.all (ground d)
    | .tuple ⟨l⟩ => l.all (ground d)
    | _ => false

def sizeP (P : Program) (t : TypeId) : Option Nat := match P.info? t with | some i => some i.size | none => none
def zeroP (P : Program) (t : TypeId) : Option Value := match P.info? t with | some i => i.zero | none => none
def aggP (P : Program) (t : TypeId) : Option Bool :=
  match P.underlying t with
  | some (.struct _) | some (.array _ _) => some true
  | some _ => some false
  | none => none
/-- a slice type's elements: their type and size, which is above nothing. -/
def elemP (P : Program) (t : TypeId) : Option (TypeId × Nat) :=
  match P.underlying t with
  | some (.slice e) => match sizeP P e with
    | some (n + 1) => some (e, n)
    | _ => none
  | _ => none
/-- a value of this type takes so many cells, or is one cell (none). -/
def kindP (P : Program) (t : TypeId) : Option (Option Nat) :=
  match aggP P t with
  | some true => match sizeP P t with
    | some n => some (some n)
    | none => none
  | some false => some none
  | none => none

def rdStep (c : T Value) (sz o : Nat) (ih : Nat → Option (List Value)) : Option (List Value) :=
  match Nat.blt o sz with
  | true => match c.get o with
    | some v => match ih (Nat.succ o) with
      | some l => some (v :: l)
      | none => none
    | none => none
  | false => none

/-- so many cells, from a place on. -/
def rdCells (c : T Value) (sz o n : Nat) : Option (List Value) :=
  Nat.rec (motive := fun _ => Nat → Option (List Value)) (fun _ => some []) (fun _ ih o => rdStep c sz o ih) n o

/-- the value of one cell. -/
def oneA : Value → Bool
  | .agg _ => false
  | .tuple _ => false
  | _ => true

def wrStep {β : Type} (sz : Nat) (c : T Value) (o : Nat) (v : Value) (ih : T Value → Nat → Option β) : Option β :=
  match Nat.blt o sz && oneA v with
  | true => T.setK (Nat.succ o) c o v fun c => ih c (Nat.succ o)
  | false => none

/-- cells laid over, from a place on. -/
def wrCells {β : Type} (sz : Nat) (c : T Value) (o : Nat) (l : List Value) (k : T Value → Option β) : Option β :=
  List.rec (motive := fun _ => T Value → Nat → Option β) (fun c _ => k c) (fun v _ ih c o => wrStep sz c o v ih) l c o

/-- a new block of these cells. -/
def mkCells {β : Type} (c : T Value) (o : Nat) (l : List Value) (k : T Value → Nat → Option β) : Option β :=
  List.rec (motive := fun _ => T Value → Nat → Option β) (fun c o => k c o) (fun v _ ih c o => T.setK (Nat.succ o) c o v fun c => natK (Nat.succ o) fun o => ih c o) l c o

/-- the cells of a block: its elements' type, how many are known. -/
def getW (h : Mem) (b : Nat) : Option (T Value × Nat × TypeId) :=
  match h.get b with
  | some (.cells c sz e) => some (c, sz, e)
  | _ => none

def loadC (c : T Value) (sz o : Nat) : Option Nat → Option Value
  | some n => match rdCells c sz o n with
    | some l => some (.agg ⟨l⟩)
    | none => none
  | none => match Nat.blt o sz with
    | true => c.get o
    | false => none

def loadA (P : Program) (h : Mem) (t : TypeId) (a : Value) : Option Value :=
  match a with
  | .pointer (some ⟨b, o, none⟩) => match getW h b with
    | some (c, sz, _) => match kindP P t with
      | some k => loadC c sz o k
      | none => none
    | none => none
  | _ => none

def cellsA : Value → List Value
  | .agg ⟨l⟩ => l
  | v => [v]

/-- where a field lies, how many cells it takes, and whether it has parts. -/
def fieldP (P : Program) (s : TypeId) (f : Nat) : Option (Nat × Nat × Bool) :=
  match P.underlying s with
  | some (.struct fs) => match fs[f]? with
    | some x => match sizeP P x.type, aggP P x.type with
      | some n, some b => some (x.offset, n, b)
      | _, _ => none
    | none => none
  | _ => none

inductive FR where
  | val (v : Value)
  | ptr (l : List Value) (elem : TypeId)
  | row (len cap : Nat) (l : List Value) (elem : TypeId)
  | newMap

def listGet {α : Type} : List α → Nat → Option α
  | [], _ => none
  | a :: l, n => match n with
    | 0 => some a
    | m + 1 => listGet l m

def listDrop {α : Type} : Nat → List α → List α
  | 0, l => l
  | _ + 1, [] => []
  | n + 1, _ :: l => listDrop n l

def listTake {α : Type} : Nat → List α → Option (List α)
  | 0, _ => some []
  | _ + 1, [] => none
  | n + 1, a :: l => match listTake n l with
    | some r => some (a :: r)
    | none => none

def rep {α : Type} (l : List α) : Nat → List α
  | 0 => []
  | n + 1 => l ++ rep l n

def ansV : Option Value → Option FR
  | some v => some (.val v)
  | none => none

def ansG : Option Value → Option FR
  | some v => match ground 6 v with
    | true => some (.val v)
    | false => none
  | none => none

def bytesEq : List UInt8 → List UInt8 → Bool
  | [], [] => true
  | a :: l, b :: m => match Nat.beq a.toNat b.toNat with
    | true => bytesEq l m
    | false => false
  | _, _ => false

def sameNowA (d : TypeDesc) (x y : Value) : Option Bool :=
  match d with
  | .int _ => match x, y with
    | .int k a, .int k' b => match decide (k = k') with
      | true => some (decide (a = b))
      | false => none
    | _, _ => none
  | .string => match x, y with
    | .string ⟨⟨a⟩⟩, .string ⟨⟨b⟩⟩ => some (bytesEq a b)
    | _, _ => none
  | .bool => match x, y with
    | .bool a, .bool b => some (a == b)
    | _, _ => none
  | _ => none

def findNowA (d : TypeDesc) (k : Value) : List (Value × Value × Nat) → Nat → Option (Option (Nat × Value × Nat))
  | [], _ => some none
  | (k', v, n) :: l, i => match sameNowA d k k' with
    | some true => some (some (i, v, n))
    | some false => findNowA d k l (Nat.succ i)
    | none => none

def findAskA (P : Program) (t : TypeId) (k : Value) : List (Value × Value × Nat) → Nat → Option (Option (Nat × Value × Nat))
  | [], _ => some none
  | (k', v, n) :: l, i => match pureRun P (Op.equal t k k') with
    | some true => some (some (i, v, n))
    | some false => findAskA P t k l (Nat.succ i)
    | none => none

def plainD : TypeDesc → Bool
  | .int _ | .string | .bool => true
  | _ => false

def checkKeyA (P : Program) (d : TypeDesc) (e : Bool) (t : TypeId) (k : Value) : Bool :=
  match plainD d with
  | true => true
  | false => match pureRun P (Instr.checkKey e 10000 t k) with
    | some _ => true
    | none => false

/-- where a key stands in a map, if it does. -/
def findKeyA (P : Program) (t : TypeId) (k : Value) (e : Bool) (es : List (Value × Value × Nat)) : Option (Option (Nat × Value × Nat)) :=
  match ground 4 k with
  | true => match P.underlying t with
    | some d => match checkKeyA P d e t k with
      | true => match plainD d with
        | true => findNowA d k es 0
        | false => findAskA P t k es 0
      | false => none
    | none => none
  | false => none

def sameBits1 (x y : Value) : Bool :=
  match x, y with
  | .bool a, .bool b => a == b
  | .int k a, .int k' b => decide (k = k') && decide (a = b)
  | .string ⟨⟨a⟩⟩, .string ⟨⟨b⟩⟩ => bytesEq a b
  | _, _ => false

def sameBitsL : List Value → List Value → Bool
  | [], [] => true
  | a :: l, b :: m => sameBits1 a b && sameBitsL l m
  | _, _ => false

def sameBitsA (x y : Value) : Bool :=
  match x, y with
  | .agg ⟨a⟩, .agg ⟨b⟩ => sameBitsL a b
  | x, y => sameBits1 x y

def listSet {α : Type} : List α → Nat → α → List α
  | [], _, _ => []
  | a :: l, n, b => match n with
    | 0 => b :: l
    | m + 1 => a :: listSet l m b

/- what reads at the most, and what makes blocks of its own -/

def fPick (c a b : Value) : Option FR :=
  match c with
  | .bool true => some (.val a)
  | .bool false => some (.val b)
  | _ => none

def fAlloc (P : Program) (e : TypeId) : Option FR :=
  match zeroP P e with
  | some z => match ground 3 z with
    | true => some (.ptr (cellsA z) e)
    | false => none
  | none => none

/-- parts laid into a value of so many cells. -/
def layL (place : Nat → Option (Nat × Nat)) : List Value → List (Nat × Value) → Option (List Value)
  | l, [] => some l
  | l, (i, v) :: r => match place i with
    | some (off, size) => match layC (cellsA v) with
      | (n, vs) => match Nat.beq n size && Nat.ble (off + n) l.length with
        | true => layL place (put l off vs) r
        | false => none
    | none => none
where
  layC (l : List Value) : Nat × List Value := (l.length, l)
  put : List Value → Nat → List Value → List Value
  | l, _, [] => l
  | [], _, _ => []
  | a :: l, o, v :: vs => match o with
    | 0 => v :: put l 0 vs
    | o + 1 => a :: put l o (v :: vs)

def placesP (P : Program) (fs : Array Field) (i : Nat) : Option (Nat × Nat) :=
  match fs[i]? with
  | some f => match sizeP P f.type with
    | some n => some (f.offset, n)
    | none => none
  | none => none

def fBuild (P : Program) (t : TypeId) (parts : List (Nat × Value)) : Option FR :=
  match zeroP P t with
  | some z => match ground 3 z with
    | true => match P.underlying t with
      | some (.struct fs) => match fs.toList.all (fun f => (sizeP P f.type).isSome) with
        | true => match layL (placesP P fs) (cellsA z) parts with
          | some l => some (.val (.agg ⟨l⟩))
          | none => none
        | false => none
      | some (.array _ e) => match sizeP P e with
        | some n => match layL (fun i => some (i * n, n)) (cellsA z) parts with
          | some l => some (.val (.agg ⟨l⟩))
          | none => none
        | none => none
      | _ => none
    | false => none
  | none => none

def fBuildSlice (P : Program) (t : TypeId) (len : Nat) (parts : List (Nat × Value)) : Option FR :=
  match elemP P t with
  | some (e, n) => match zeroP P e with
    | some z => match ground 3 z && Nat.ble (len * (n + 1)) 16777216 && Nat.beq (cellsA z).length (n + 1) with
      | true => match layL (fun i => some (i * (n + 1), n + 1)) (rep (cellsA z) len) parts with
        | some l => some (.row len len l e)
        | none => none
      | false => none
    | none => none
  | none => none

def fFieldAddr (P : Program) (s : TypeId) (x : Value) (f : Nat) : Option FR :=
  match x with
  | .pointer (some ⟨b, o, none⟩) => match fieldP P s f with
    | some (d, _ + 1, _) => some (.val (.pointer (some ⟨b, o + d, none⟩)))
    | _ => none
  | _ => none

def fField (P : Program) (s : TypeId) (x : Value) (f : Nat) : Option FR :=
  match x with
  | .agg ⟨l⟩ => match fieldP P s f with
    | some (d, n, true) => match listTake n (listDrop d l) with
      | some r => some (.val (.agg ⟨r⟩))
      | none => none
    | some (d, _, false) => ansV (listGet l d)
    | none => none
  | _ => none

def natV : Value → Option Nat
  | .int _ (.ofNat i) => some i
  | _ => none

def fIndexAddr (P : Program) (t : TypeId) (x ix : Value) : Option FR :=
  match natV ix with
  | some i => match x with
    | .slice (some ⟨b, o, none⟩) len _ => match Nat.blt i len with
      | true => match elemP P t with
        | some (_, n) => some (.val (.pointer (some ⟨b, o + i * (n + 1), none⟩)))
        | none => none
      | false => none
    | _ => none
  | none => none

def fExtract (x : Value) (ix : Nat) : Option FR :=
  match x with
  | .tuple ⟨l⟩ => ansV (listGet l ix)
  | _ => none

/-- a bound of a slice: what is left out is the given one. -/
def boundV (d : Nat) : Option Value → Option Nat
  | none => some d
  | some v => natV v

/-- how far a slice may be drawn out, as far as that is known. -/
def limA (h : Mem) (e : TypeId) (b o len cap n : Nat) : Option Nat :=
  match getW h b with
  | some (_, sz, e') => match Nat.beq e' e with
    | true => match cap with
      | 0 => some (Nat.max len (Nat.div (sz - o) (n + 1)))
      | c + 1 => some (c + 1)
    | false => none
  | none => none

def cutS (b o n l r cap : Nat) (mx : Option Nat) : Option FR :=
  match mx with
  | none => match l with
    | 0 => some (.val (.slice (some ⟨b, o, none⟩) r cap))
    | l' + 1 => match Nat.beq (match cap with | 0 => r | c + 1 => c + 1) (l' + 1) with
      | true => some (.val (.slice (some ⟨b, 0, some 0⟩) 0 0))
      | false => some (.val (.slice (some ⟨b, o + (l' + 1) * (n + 1), none⟩) (r - (l' + 1)) (match cap with | 0 => 0 | c + 1 => c + 1 - (l' + 1))))
  | some m => match Nat.beq m l with
    | true => some (.val (.slice (some ⟨b, 0, some 0⟩) 0 0))
    | false => some (.val (.slice (some ⟨b, o + l * (n + 1), none⟩) (r - l) (m - l)))

def fSliceS (P : Program) (h : Mem) (t : TypeId) (b o len cap : Nat) (lo hi mx : Option Value) : Option FR :=
  match elemP P t with
  | some (e, n) => match boundV 0 lo, boundV len hi, limA h e b o len cap n with
    | some l, some r, some lim => match mx with
      | none => match Nat.ble l r && Nat.ble r lim with
        | true => cutS b o n l r cap none
        | false => none
      | some x => match natV x with
        | some m => match Nat.ble l r && Nat.ble r m && Nat.ble m lim && hi.isSome with
          | true => cutS b o n l r cap (some m)
          | false => none
        | none => none
    | _, _, _ => none
  | none => none

def fSliceT (P : Program) (t : TypeId) (l : List UInt8) (lo hi mx : Option Value) : Option FR :=
  match P.underlying t, mx with
  | some .string, none => match boundV 0 lo, boundV l.length hi with
    | some a, some b => match Nat.ble a b && Nat.ble b l.length with
      | true => match listTake (b - a) (listDrop a l) with
        | some r => some (.val (.string ⟨⟨r⟩⟩))
        | none => none
      | false => none
    | _, _ => none
  | _, _ => none

def noughtV : Option Value → Bool
  | none => true
  | some v => match natV v with
    | some 0 => true
    | _ => false

def fSlice (P : Program) (h : Mem) (t : TypeId) (x : Value) (lo hi mx : Option Value) : Option FR :=
  match x with
  | .slice (some ⟨b, o, none⟩) len cap => fSliceS P h t b o len cap lo hi mx
  | .slice (some ⟨b, 0, some s⟩) 0 0 => match elemP P t with
    | some _ => match noughtV lo && noughtV hi && noughtV mx && (!mx.isSome || hi.isSome) with
      | true => some (.val (.slice (some ⟨b, 0, some s⟩) 0 0))
      | false => none
    | none => none
  | .slice none l c => match elemP P t with
    | some _ => match noughtV lo && noughtV hi && noughtV mx && (!mx.isSome || hi.isSome) && Nat.beq l 0 && Nat.beq c 0 with
      | true => some (.val (.slice none 0 0))
      | false => none
    | none => none
  | .string ⟨⟨l⟩⟩ => fSliceT P t l lo hi mx
  | _ => none

def fMakeInterface (P : Program) (t : TypeId) (x : Value) : Option FR :=
  match P.underlying t with
  | some (.interface _) => none
  | some _ => some (.val (.iface t x))
  | none => none

def holdsA (ok : Bool) (v : Value) : Option FR :=
  match ok with
  | true => some (.val (.tuple #[v, .bool true]))
  | false => some (.val v)

def failsA (P : Program) (ok : Bool) (t : TypeId) : Option FR :=
  match ok with
  | true => match zeroP P t with
    | some z => match ground 3 z with
      | true => some (.val (.tuple #[z, .bool false]))
      | false => none
    | none => none
  | false => none

def fAssertI (P : Program) (want : Array (String × TypeId)) (asserted : TypeId) (ok : Bool) (x : Value) : Option FR :=
  match x with
  | .iface t v => match P.info? t with
    | some i => match Instr.missingMethod want i.methods with
      | none => holdsA ok (.iface t v)
      | some _ => failsA P ok asserted
    | none => none
  | .nilIface => failsA P ok asserted
  | _ => none

def fAssertT (P : Program) (asserted : TypeId) (ok : Bool) (x : Value) : Option FR :=
  match x with
  | .iface t v => match Nat.beq t asserted with
    | true => holdsA ok v
    | false => failsA P ok asserted
  | .nilIface => failsA P ok asserted
  | _ => none

def fTypeAssert (P : Program) (x : Value) (asserted : TypeId) (ok : Bool) : Option FR :=
  match P.underlying asserted with
  | some (.interface want) => fAssertI P want asserted ok x
  | some _ => fAssertT P asserted ok x
  | none => none

def fNilCheck (x : Value) : Option FR :=
  match x with
  | .pointer none | .nilIface | .nilFunc => none
  | .func (.method _) _ _ => none
  | v => some (.val v)

def cmpInt (op : BinOp) (a b : Int) : Option Value :=
  match op with
  | .eql => some (.bool (a == b))
  | .neq => some (.bool (a != b))
  | .lss => some (.bool (decide (a < b)))
  | .leq => some (.bool (decide (a ≤ b)))
  | .gtr => some (.bool (decide (a > b)))
  | .geq => some (.bool (decide (a ≥ b)))
  | _ => none

def binInt (op : BinOp) (k : IntKind) (a b : Int) : Option Value :=
  match op with
  | .add => some (.int k (k.wrap (a + b)))
  | .sub => some (.int k (k.wrap (a - b)))
  | .mul => some (.int k (k.wrap (a * b)))
  | _ => cmpInt op a b

/-- is this one of two that are the same? -/
def ansE (op : BinOp) (b : Bool) : Option FR :=
  match op with
  | .eql => some (.val (.bool b))
  | .neq => some (.val (.bool (!b)))
  | _ => none

def fBinOther (P : Program) (op : BinOp) (t : TypeId) (ox oy : Operand) (x y : Value) : Option FR :=
  match ground 6 x && ground 6 y with
  | true => ansG (pureRun P (do eqGuard op t ox oy x y; binOp op t x y))
  | false => none

def isNilV : Value → Bool
  | .pointer none | .slice none _ _ | .map none | .nilIface | .nilFunc => true
  | _ => false

def isSomeV : Value → Bool
  | .pointer (some _) | .slice (some _) _ _ | .map (some _) | .iface _ _ | .func _ _ _ => true
  | _ => false

def nilKind (P : Program) (t : TypeId) (v : Value) : Bool :=
  match P.underlying t with
  | some (.pointer _) => match v with | .pointer none => true | _ => false
  | some (.slice _) => match v with | .slice none _ _ => true | _ => false
  | some (.map _ _) => match v with | .map none => true | _ => false
  | some (.interface _) => match v with | .nilIface => true | _ => false
  | some (.func _ _ _) => match v with | .nilFunc => true | _ => false
  | _ => false

def someKind (P : Program) (t : TypeId) (v : Value) : Bool :=
  match P.underlying t with
  | some (.pointer _) => match v with | .pointer (some _) => true | _ => false
  | some (.slice _) => match v with | .slice (some _) _ _ => true | _ => false
  | some (.map _ _) => match v with | .map (some _) => true | _ => false
  | some (.interface _) => match v with | .iface _ _ => true | _ => false
  | some (.func _ _ _) => match v with | .func _ _ _ => true | _ => false
  | _ => false

def fBinPtr (P : Program) (op : BinOp) (t : TypeId) (ox oy : Operand) (x y : Value) : Option FR :=
  match (nilKind P t x && someKind P t y) || (someKind P t x && nilKind P t y) with
  | true => ansE op false
  | false => fBinOther P op t ox oy x y

def fBinOp (P : Program) (op : BinOp) (t : TypeId) (ox oy : Operand) (x y : Value) : Option FR :=
  match x with
  | .int k a => match y with
    | .int k' b => match decide (k = k') with
      | true => match binInt op k a b with
        | some v => some (.val v)
        | none => fBinOther P op t ox oy x y
      | false => fBinOther P op t ox oy x y
    | _ => none
  | .string _ | .bool _ | .float _ _ => fBinOther P op t ox oy x y
  | _ => fBinPtr P op t ox oy x y

def fUnOp (P : Program) (op : UnOp) (x : Value) : Option FR :=
  match ground 2 x with
  | true => ansG (pureRun P (Op.unary op x))
  | false => none

def fMakeSlice (P : Program) (t : TypeId) (l c : Value) : Option FR :=
  match natV l, natV c with
  | some l, some c => match elemP P t with
    | some (e, n) => match P.info? e with
      | some i => match zeroP P e with
        | some z => match ground 3 z && Nat.ble l c && Nat.ble c 1048576 && Nat.ble (i.bytes * c) 1073741824 && Nat.beq (cellsA z).length (n + 1) with
          | true => some (.row l c (rep (cellsA z) c) e)
          | false => none
        | none => none
      | none => none
    | none => none
  | _, _ => none

def byteV : Value → Option UInt8
  | .int .u8 n => some (UInt8.ofNat n.toNat)
  | _ => none

def bytesV : List Value → Option (List UInt8)
  | [] => some []
  | v :: l => match byteV v with
    | some b => match bytesV l with
      | some r => some (b :: r)
      | none => none
    | none => none

/-- the type below is a slice of bytes. -/
def bytesP (P : Program) (t : TypeId) : Option TypeId :=
  match P.underlying t with
  | some (.slice e) => match P.underlying e with
    | some (.int .u8) => match sizeP P e with
      | some 1 => some e
      | _ => none
    | _ => none
  | _ => none

def fConvBytes (P : Program) (h : Mem) (src dst : TypeId) (b o len : Nat) : Option FR :=
  match bytesP P src, P.underlying dst with
  | some _, some .string => match getW h b with
    | some (c, sz, _) => match rdCells c sz o len with
      | some l => match bytesV l with
        | some r => some (.val (.string ⟨⟨r⟩⟩))
        | none => none
      | none => none
    | none => none
  | _, _ => none

def fConvert (P : Program) (h : Mem) (src dst : TypeId) (x : Value) : Option FR :=
  match x with
  | .slice (some ⟨b, o, none⟩) len _ => fConvBytes P h src dst b o len
  | .string ⟨⟨l⟩⟩ => match bytesP P dst with
    | some e => match P.underlying src with
      | some .string => some (.row l.length 0 (l.map fun b => .int .u8 (.ofNat b.toNat)) e)
      | _ => none
    | none => ansG (pureRun P (convert src dst x))
  | _ => match ground 2 x with
    | true => ansG (pureRun P (convert src dst x))
    | false => none

def fIndex (P : Program) (t : TypeId) (x ix : Value) : Option FR :=
  match natV ix with
  | some i => match x with
    | .string ⟨⟨l⟩⟩ => match P.underlying t with
      | some .string => match listGet l i with
        | some b => some (.val (.int .u8 (.ofNat b.toNat)))
        | none => none
      | _ => none
    | _ => none
  | none => none

def mapA (h : Mem) : Value → Option (List (Value × Value × Nat))
  | .map none => some []
  | .map (some r) => match h.get r with
    | some (.map es _) => some es
    | _ => none
  | _ => none

def fLookup (P : Program) (h : Mem) (t : TypeId) (x key : Value) (ok : Bool) : Option FR :=
  match P.underlying t with
  | some (.map kt elem) => match mapA h x with
    | some es => match findKeyA P kt key es.isEmpty es with
      | some (some (_, v, _)) => holdsA ok v
      | some none => match zeroP P elem with
        | some z => match ground 3 z with
          | true => match ok with
            | true => some (.val (.tuple #[z, .bool false]))
            | false => some (.val z)
          | false => none
        | none => none
      | none => none
    | none => none
  | _ => none

def fEntry (h : Mem) (it : Value) : Option FR :=
  match it with
  | .pointer (some ⟨r, 0, none⟩) => match h.get r with
    | some (.iter (some m) _ seen stepped) => match h.get m, seen.getLast? with
      | some (.map es clock), some n => match Nat.beq clock stepped, es.find? (fun e => Nat.beq e.2.2 n) with
        | true, some (k, v, _) => match ground 4 k with
          | true => some (.val (.tuple #[k, v]))
          | false => none
        | _, _ => none
      | _, _ => none
    | _ => none
  | _ => none

def fLen (P : Program) (h : Mem) (t : TypeId) (x : Value) : Option FR :=
  match P.underlying t with
  | some (.slice _) => match x with
    | .slice _ n _ => some (.val (.int .i64 (.ofNat n)))
    | _ => none
  | some .string => match x with
    | .string ⟨⟨l⟩⟩ => some (.val (.int .i64 (.ofNat l.length)))
    | _ => none
  | some (.map _ _) => match x with
    | .map none => some (.val (.int .i64 0))
    | .map (some b) => match h.get b with
      | some (.map es _) => some (.val (.int .i64 (.ofNat es.length)))
      | _ => none
    | _ => none
  | _ => none

def fMinMax (P : Program) (mx : Bool) (args : List Value) : Option FR :=
  match args.all (ground 2) with
  | true => ansG (pureRun P (match mx with | true => Builtin.max_ #[] 0 ⟨args⟩ | false => Builtin.min_ #[] 0 ⟨args⟩))
  | false => none

def fBuiltin (P : Program) (h : Mem) (b : Builtin) (ats : List TypeId) (args : List Value) : Option FR :=
  match b with
  | .len => match ats, args with
    | [t], [x] => fLen P h t x
    | _, _ => none
  | .min => fMinMax P false args
  | .max => fMinMax P true args
  | _ => none

def fCall (P : Program) (ρ : Operand → Value) (h : Mem) (c : Call) : Option FR :=
  match c.callee with
  | .builtin b => fBuiltin P h b c.argTypes.toList (c.args.toList.map ρ)
  | _ => none

def optV (ρ : Operand → Value) : Option Operand → Option Value
  | some x => some (ρ x)
  | none => none

def partsV (ρ : Operand → Value) : List (Nat × Operand) → List (Nat × Value)
  | [] => []
  | (i, x) :: l => (i, ρ x) :: partsV ρ l

def evF (P : Program) (ρ : Operand → Value) (h : Mem) (o : Op) : Option FR :=
  match o with
  | .move x | .assign x => some (.val (ρ x))
  | .pick c a b => fPick (ρ c) (ρ a) (ρ b)
  | .load t a => ansV (loadA P h t (ρ a))
  | .alloc e => fAlloc P e
  | .box e x => some (.ptr (cellsA (ρ x)) e)
  | .build t ps => fBuild P t (partsV ρ ps.toList)
  | .buildSlice t n ps => fBuildSlice P t n (partsV ρ ps.toList)
  | .fieldAddr s x f => fFieldAddr P s (ρ x) f
  | .field s x f => fField P s (ρ x) f
  | .indexAddr t x i => fIndexAddr P t (ρ x) (ρ i)
  | .extract x i => fExtract (ρ x) i
  | .slice t x lo hi mx => fSlice P h t (ρ x) (optV ρ lo) (optV ρ hi) (optV ρ mx)
  | .makeInterface t x => fMakeInterface P t (ρ x)
  | .typeAssert x _ t ok => fTypeAssert P (ρ x) t ok
  | .makeFunc fn a b => some (.val (.func fn ⟨a.toList.map ρ⟩ ⟨b.toList.map ρ⟩))
  | .nilCheck x => fNilCheck (ρ x)
  | .binOp op t x y _ => fBinOp P op t x y (ρ x) (ρ y)
  | .unOp op _ x => fUnOp P op (ρ x)
  | .makeMap _ none => some .newMap
  | .makeSlice t l c => fMakeSlice P t (ρ l) (ρ c)
  | .lookup t x i ok => fLookup P h t (ρ x) (ρ i) ok
  | .entry it => fEntry h (ρ it)
  | .convert s d x => fConvert P h s d (ρ x)
  | .index t x i => fIndex P t (ρ x) (ρ i)
  | .call c => fCall P ρ h c
  | _ => none

/- what changes what was there -/

def storeA {β : Type} (h : Mem) (b o : Nat) (vs : List Value) (k : Mem → Option β) : Option β :=
  match getW h b with
  | some (c, sz, e) => wrCells sz c o vs fun c => T.setK (Nat.succ b) h b (.cells c sz e) k
  | none => none

abbrev CallF := FuncId → List Value → Mem → Nat → Option (Value × Mem × Nat)

/-- the values of a slice's or a string's elements, as cells. -/
def firstA (h : Mem) (size : Nat) (v : Value) : Option (List Value) :=
  match v with
  | .slice none _ _ => some []
  | .slice (some ⟨_, _, some _⟩) _ _ => some []
  | .slice (some ⟨b, o, none⟩) len _ => match getW h b with
    | some (c, sz, _) => rdCells c sz o (len * size)
    | none => none
  | .string ⟨⟨l⟩⟩ => some (l.map fun b => .int .u8 (.ofNat b.toNat))
  | _ => none

def lenA : Value → Option Nat
  | .slice _ n _ => some n
  | .string ⟨⟨l⟩⟩ => some l.length
  | _ => none

abbrev KO (β : Type) := Value → Mem → Nat → List Deferred → Option β

/-- a block of these cells, laid down anew. -/
def newA {β : Type} (h : Mem) (N : Nat) (l : List Value) (e : TypeId) (k : Mem → Option β) : Option β :=
  mkCells .lf 0 l fun c sz => T.setK (Nat.succ N) h N (.cells c sz e) k

/-- is there room behind a slice, as far as that is known? -/
def inPlace (sz o len cap n size : Nat) : Bool :=
  match cap with
  | 0 => Nat.ble (o + (len + n) * size) sz
  | c + 1 => Nat.ble (len + n) (c + 1)

def growA {β : Type} (h : Mem) (N : Nat) (e : TypeId) (size b o len cap n : Nat) (l : List Value) (k : Value → Mem → Nat → Option β) : Option β :=
  match getW h b with
  | some (c, sz, e') => match Nat.beq e' e with
   | false => none
   | true => match inPlace sz o len cap n size with
    | true => storeA h b (o + len * size) l fun h => natK (len + n) fun m => k (.slice (some ⟨b, o, none⟩) m cap) h N
    | false => match rdCells c sz o (len * size) with
      | some old => newA h N (old ++ l) e fun h => natK (len + n) fun m => match cap with
        | 0 => T.setK (Nat.succ b) h b .dead fun h => k (.slice (some ⟨N, 0, none⟩) m 0) h (Nat.succ N)
        | _ + 1 => k (.slice (some ⟨N, 0, none⟩) m 0) h (Nat.succ N)
      | none => none
  | none => none

def lenS : Value → Nat
  | .slice _ n _ => n
  | .string ⟨⟨l⟩⟩ => l.length
  | _ => 0

def appendB {β : Type} (h : Mem) (N : Nat) (e : TypeId) (n : Nat) (s x : Value) (k : Value → Mem → Nat → Option β) : Option β :=
  match lenA x with
  | some 0 => match s with
    | .slice none 0 0 => k s h N
    | .slice (some _) _ _ => k s h N
    | _ => none
  | some (m + 1) => match firstA h (n + 1) x with
    | some l => match Nat.beq l.length ((m + 1) * (n + 1)) && l.all oneA with
      | true => match s with
        | .slice none 0 0 => newA h N l e fun h => k (.slice (some ⟨N, 0, none⟩) (m + 1) 0) h (Nat.succ N)
        | .slice (some ⟨b, 0, some _⟩) 0 0 => match getW h b with
          | some (_, _, e') => match Nat.beq e' e with
            | true => newA h N l e fun h => T.setK (Nat.succ b) h b .dead fun h => k (.slice (some ⟨N, 0, none⟩) (m + 1) 0) h (Nat.succ N)
            | false => none
          | none => none
        | .slice (some ⟨b, o, none⟩) len cap => growA h N e (n + 1) b o len cap (m + 1) l k
        | _ => none
      | false => none
    | none => none
  | none => none

/-- an argument whose elements are appended; an element type whose rows are small, and whose zero is as long as it should be. -/
def appOk (P : Program) (xt e : TypeId) (n : Nat) : Bool :=
  (match P.underlying xt with | some (.slice _) | some .string => true | _ => false) &&
  (match P.info? e with
    | some i => Nat.ble i.bytes 65536 && (match i.zero with | some z => Nat.beq (cellsA z).length (n + 1) | none => false)
    | none => false)

def appendA {β : Type} (P : Program) (h : Mem) (N : Nat) (t xt : TypeId) (s x : Value) (k : Value → Mem → Nat → Option β) : Option β :=
  match elemP P t with
  | some (e, n) => match appOk P xt e n && Nat.ble (lenS s + lenS x) 1048576 with
    | true => appendB h N e n s x k
    | false => none
  | none => none


def methodP (P : Program) (t : TypeId) (v : Value) (name : String) : Option (FuncId × Value) :=
  match P.info? t with
  | some i => match i.methods.toList.find? (·.name == name) with
    | some m => match m.path.toList with
      | [] => match m.func with
        | some (f, true) => match P.underlying t with
          | some (.pointer _) => some (f, v)
          | _ => none
        | some (f, false) => match P.underlying t with
          | some (.pointer _) => none
          | some _ => some (f, v)
          | none => none
        | none => none
      | _ :: _ => none
    | none => none
  | none => none

def viaMethod (P : Program) (x : Value) (name : String) (args : List Value) : Option (FuncId × List Value) :=
  match x with
  | .iface t v => match methodP P t v name with
    | some (f, r) => some (f, r :: args)
    | none => none
  | _ => none

/-- what a call of this comes to: a function and its arguments. -/
def targetA (P : Program) (ρ : Operand → Value) (c : Call) : Option (FuncId × List Value) :=
  match c.callee with
  | .value f => match ρ f with
    | .func (.func f) ⟨first⟩ ⟨captured⟩ => some (f, first ++ c.args.toList.map ρ ++ captured)
    | .func (.method name) ⟨first⟩ _ => match first with
      | [x] => viaMethod P x name (c.args.toList.map ρ)
      | _ => none
    | _ => none
  | .invoke r name => viaMethod P (ρ r) name (c.args.toList.map ρ)
  | .builtin _ => none

def copyA {β : Type} (P : Program) (h : Mem) (t : TypeId) (d x : Value) (k : Nat → Mem → Option β) : Option β :=
  match d with
  | .slice (some ⟨b, o, none⟩) dl _ => match elemP P t with
    | some (_, n) => match lenA x, firstA h (n + 1) x with
      | some xl, some l => natK (Nat.min xl dl) fun m => match listTake (m * (n + 1)) l with
        | some l => storeA h b o l fun h => k m h
        | none => none
      | _, _ => none
    | none => none
  | _ => none

def clearA {β : Type} (P : Program) (h : Mem) (t : TypeId) (x : Value) (k : Mem → Option β) : Option β :=
  match P.underlying t with
  | some (.map _ _) => match x with
    | .map none => k h
    | .map (some r) => match h.get r with
      | some (.map _ clock) => T.setK (Nat.succ r) h r (.map [] clock) k
      | _ => none
    | _ => none
  | some (.slice e) => match x with
    | .slice none _ _ => k h
    | .slice (some ⟨b, o, s⟩) n _ => match n with
      | 0 => k h
      | n + 1 => match zeroP P e, s with
        | some z, none => match ground 3 z with
          | true => storeA h b o (rep (cellsA z) (n + 1)) k
          | false => none
        | _, _ => none
    | _ => none
  | _ => none

def keyP (P : Program) (t : TypeId) : Option (TypeId × TypeId) :=
  match P.underlying t with
  | some (.map k e) => some (k, e)
  | _ => none

def getM (h : Mem) (r : Nat) : Option (List (Value × Value × Nat) × Nat) :=
  match h.get r with
  | some (.map es clock) => some (es, clock)
  | _ => none

def deleteA {β : Type} (P : Program) (h : Mem) (t : TypeId) (m key : Value) (k : Mem → Option β) : Option β :=
  match m with
  | .map (some r) => match keyP P t, getM h r with
    | some (kt, _), some (es, clock) => match findKeyA P kt key es.isEmpty es with
      | some (some (i, _, _)) => T.setK (Nat.succ r) h r (.map (es.eraseIdx i) clock) k
      | some none => k h
      | none => none
    | _, _ => none
  | _ => none

def keyOf (es : List (Value × Value × Nat)) (i : Nat) : Value :=
  match listGet es i with
  | some (k, _, _) => k
  | none => undef

def updateA {β : Type} (P : Program) (h : Mem) (t : TypeId) (m key x : Value) (k : Mem → Option β) : Option β :=
  match m with
  | .map (some r) => match keyP P t, getM h r with
    | some (kt, _), some (es, clock) => match findKeyA P kt key false es with
      | some (some (i, _, n)) => match sameBitsA (keyOf es i) key with
        | true => T.setK (Nat.succ r) h r (.map (listSet es i (key, x, n)) clock) k
        | false => none
      | some none => T.setK (Nat.succ r) h r (.map (es ++ [(key, x, clock)]) (Nat.succ clock)) k
      | none => none
    | _, _ => none
  | _ => none

def entryA {β : Type} (P : Program) (h : Mem) (t : TypeId) (m key : Value) (k : Value → Mem → Option β) : Option β :=
  match m with
  | .map (some r) => match keyP P t, getM h r with
    | some (kt, elem), some (es, clock) => match findKeyA P kt key false es with
      | some (some (i, v, n)) => match sameBitsA (keyOf es i) key with
        | true => T.setK (Nat.succ r) h r (.map (listSet es i (key, v, n)) clock) fun h => k (.tuple #[v, .int .i64 (.ofNat n)]) h
        | false => none
      | some none => match zeroP P elem with
        | some z => match ground 3 z with
          | true => T.setK (Nat.succ r) h r (.map (es ++ [(key, z, clock)]) (Nat.succ clock)) fun h => k (.tuple #[z, .int .i64 (.ofNat clock)]) h
          | false => none
        | none => none
      | none => none
    | _, _ => none
  | _ => none

def stampA {β : Type} (h : Mem) (m stamp x : Value) (k : Mem → Option β) : Option β :=
  match m with
  | .map (some r) => match natV stamp, h.get r with
    | some n, some (.map es clock) => match es.any (fun e => Nat.beq e.2.2 n) with
      | true => T.setK (Nat.succ r) h r (.map (es.map fun e => match Nat.beq e.2.2 n with | true => (e.1, x, e.2.2) | false => e) clock) k
      | false => none
    | _, _ => none
  | _ => none

def rangeA {β : Type} (P : Program) (h : Mem) (N : Nat) (t : TypeId) (x : Value) (k : Mem → Option β) : Option β :=
  match P.underlying t with
  | some (.map _ _) => match x with
    | .map none => T.setK (Nat.succ N) h N (.iter none 0 [] 0) k
    | .map (some r) => match h.get r with
      | some (.map _ clock) => T.setK (Nat.succ N) h N (.iter (some r) clock [] clock) k
      | _ => none
    | _ => none
  | some .string => match x with
    | .string ⟨⟨l⟩⟩ => T.setK (Nat.succ N) h N (.siter l 0) k
    | _ => none
  | _ => none

def nextM {β : Type} (h : Mem) (r m since : Nat) (seen : List Nat) (last : Nat) (k : Value → Mem → Option β) : Option β :=
  match h.get m with
  | some (.map es clock) => match !seen.isEmpty && !es.isEmpty && es.all (fun e => Nat.ble last e.2.2) with
    | true => none
    | false => match es.filter (fun e => !seen.any (Nat.beq e.2.2)) with
      | [] => k (.tuple #[.bool false]) h
      | [(key, v, n)] => match Nat.blt n since && ground 4 key with
        | true => T.setK (Nat.succ r) h r (.iter (some m) since (seen ++ [n]) clock) fun h => k (.tuple #[.bool true, key, v]) h
        | false => none
      | _ => none
  | _ => none

def nextA {β : Type} (h : Mem) (it : Value) (isString : Bool) (k : Value → Mem → Option β) : Option β :=
  match it with
  | .pointer (some ⟨r, 0, none⟩) => match h.get r, isString with
    | some (.siter l pos), true => match Nat.blt pos l.length with
      | true => match Utf8.decode ⟨⟨l⟩⟩ pos with
        | (c, width) => natK (pos + width) fun np => T.setK (Nat.succ r) h r (.siter l np) fun h => nfK 4 (.tuple #[.bool true, .int .i64 (.ofNat pos), .int .i32 c]) fun v => k v h
      | false => k (.tuple #[.bool false]) h
    | some (.iter none _ _ _), false => k (.tuple #[.bool false]) h
    | some (.iter (some m) since seen last), false => nextM h r m since seen last k
    | _, _ => none
  | _ => none

def evBuiltin {β : Type} (P : Program) (ρ : Operand → Value) (s : St) (b : Builtin) (c : Call) (k : KO β) : Option β :=
  match b with
  | .append => match c.args.toList.map ρ, c.argTypes.toList with
    | [a, x], [t, u] => appendA P s.h s.n t u a x fun v h n => k v h n s.ds
    | _, _ => none
  | .clear => match c.args.toList.map ρ, c.argTypes.toList with
    | [x], [t] => clearA P s.h t x fun h => k undef h s.n s.ds
    | _, _ => none
  | _ => match fBuiltin P s.h b c.argTypes.toList (c.args.toList.map ρ) with
    | some (.val v) => nfK 6 v fun v => k v s.h s.n s.ds
    | _ => none

/-- no function is the one that counts goroutines, and what is entered has a body. -/
def funOk (P : Program) (f : FuncId) : Bool :=
  match P.funcs[f]? with
  | some fn => !(fn.name == "runtime.NumGoroutine") && fn.body.isSome
  | none => false

def evFun {β : Type} (P : Program) (call : CallF) (ρ : Operand → Value) (s : St) (c : Call) (k : KO β) : Option β :=
  match targetA P ρ c with
  | some (f, args) => match funOk P f with
    | true => match call f args s.h s.n with
      | some (v, h, n) => k v h n s.ds
      | none => none
    | false => none
  | none => none

def evCallO {β : Type} (P : Program) (call : CallF) (ρ : Operand → Value) (s : St) (c : Call) (k : KO β) : Option β :=
  match c.callee with
  | .builtin b => evBuiltin P ρ s b c k
  | _ => evFun P call ρ s c k

def evDefer {β : Type} (ρ : Operand → Value) (s : St) (c : Call) (k : KO β) : Option β :=
  match c.callee with
  | .value f => match ρ f with
    | .func fn ⟨first⟩ captured => k undef s.h s.n ({ target := .fn fn captured, args := ⟨first ++ c.args.toList.map ρ⟩ } :: s.ds)
    | _ => none
  | _ => none

def evStore {β : Type} (P : Program) (ρ : Operand → Value) (s : St) (t : TypeId) (a x : Operand) (k : KO β) : Option β :=
  match ρ a with
  | .pointer (some ⟨b, o, none⟩) => match sizeP P t with
    | some m => match Nat.beq (cellsA (ρ x)).length m with
      | true => storeA s.h b o (cellsA (ρ x)) fun h => k undef h s.n s.ds
      | false => none
    | none => none
  | _ => none

def evFloat {β : Type} (P : Program) (ρ : Operand → Value) (s : St) (o : Op) (k : KO β) : Option β :=
  match evF P ρ s.h o with
  | some (.val v) => nfK 6 v fun v => k v s.h s.n s.ds
  | some (.ptr l e) => nfL (nfK 6) l fun l => newA s.h s.n l e fun h => k (.pointer (some ⟨s.n, 0, none⟩)) h (Nat.succ s.n) s.ds
  | some (.row len cap l e) => nfL (nfK 6) l fun l => natK len fun len => natK cap fun cap => newA s.h s.n l e fun h => k (.slice (some ⟨s.n, 0, none⟩) len cap) h (Nat.succ s.n) s.ds
  | some .newMap => T.setK (Nat.succ s.n) s.h s.n (.map [] 0) fun h => k (.map (some s.n)) h (Nat.succ s.n) s.ds
  | none => none

/-- One operation, whatever it does. -/
def evO {β : Type} (P : Program) (call : CallF) (o : Op) (s : St) (k : KO β) : Option β :=
  match o with
  | .store t a x => evStore P (opd s.tm) s t a x k
  | .call c => evCallO P call (opd s.tm) s c k
  | .mapUpdate t m key x | .insert t m key x => updateA P s.h t (opd s.tm m) (opd s.tm key) (opd s.tm x) fun h => k undef h s.n s.ds
  | .range t x => rangeA P s.h s.n t (opd s.tm x) fun h => k (.pointer (some ⟨s.n, 0, none⟩)) h (Nat.succ s.n) s.ds
  | .next it is => nextA s.h (opd s.tm it) is fun v h => k v h s.n s.ds
  | .defer c => evDefer (opd s.tm) s c k
  | o => evFloat P (opd s.tm) s o k

def wantedA (ops : List Oper) (tm : T Value) : Option (Nat × Bool) → Bool
  | none => true
  | some (j, want) => match listGet ops j with
    | some o => match o.dst with
      | some d => match tm.get d with
        | some (.bool b) => b == want
        | _ => false
      | none => false
    | none => false

def putK {β : Type} (dst : Option Tmp) (s : St) (v : Value) (h : Mem) (n : Nat) (ds : List Deferred) (k : St → Option β) : Option β :=
  match dst with
  | some d => match Nat.blt d s.nt with
    | true => T.setK (Nat.succ d) s.tm d v fun tm => k ⟨tm, h, n, ds, s.nt⟩
    | false => none
  | none => k ⟨s.tm, h, n, ds, s.nt⟩

/-- constants have no pointers, and no package's variable is named. -/
def constsOk (o : Op) : Bool := o.operands.toList.all fun
  | .const v => ground 6 v
  | .global _ => false
  | _ => true

def opStep (P : Program) (call : CallF) (ops : List Oper) (o : Oper) (ih : St → Option St) (s : St) : Option St :=
  match wantedA ops s.tm o.guard with
  | true => match constsOk o.op with
    | true => evO P call o.op s fun v h n ds => putK o.dst s v h n ds ih
    | false => none
  | false => putK o.dst s undef s.h s.n s.ds ih

def evOps (P : Program) (call : CallF) (ops l : List Oper) : St → Option St :=
  List.rec (motive := fun _ => St → Option St) (fun s => some s) (fun o _ ih s => opStep P call ops o ih s) l

def resultsA (P : Program) (tm : T Value) (h : Mem) : List ResultVar → Option (List Value)
  | [] => some []
  | .tmp t :: l => match resultsA P tm h l with
    | some r => some (opd tm (.tmp t) :: r)
    | none => none
  | .cell a t :: l => match loadA P h t (opd tm (.tmp a)) with
    | some v => match resultsA P tm h l with
      | some r => some (v :: r)
      | none => none
    | none => none

def tmK {β : Type} (c : T Value) (o : Nat) (l : List Value) (k : T Value → Option β) : Option β :=
  List.rec (motive := fun _ => T Value → Nat → Option β) (fun c _ => k c) (fun v _ ih c o => T.setK (Nat.succ o) c o v fun c => natK (Nat.succ o) fun o => ih c o) l c o

/-- what is known of some functions: those that do nothing when they are put off and nothing is wrong; those that tell a value and leave all as it was. -/
structure Giv where
  idle : FuncId → Bool
  tells : FuncId → List Value → Option Value

def idleD (G : Giv) (d : Deferred) : Bool :=
  match d.target with
  | .fn (.func f) ⟨c⟩ => c.isEmpty && d.args.toList.isEmpty && G.idle f
  | _ => false

def endA (P : Program) (G : Giv) (rs : List ResultVar) (s : St) : Option (Value × Mem × Nat) :=
  match s.ds.all (idleD G) with
  | true => match resultsA P s.tm s.h rs with
    | some [v] => nfK 6 v fun v => some (v, s.h, s.n)
    | some l => nfK 6 (.tuple ⟨l⟩) fun v => some (v, s.h, s.n)
    | none => none
  | false => none

def callBody (P : Program) (G : Giv) (ev : Code → St → Option (Exit × St)) (fn : Func) (c : Code) (args : List Value) (h : Mem) (n : Nat) : Option (Value × Mem × Nat) :=
  match Nat.ble args.length fn.ntmps with
  | true => tmK .lf 0 args fun tm => match ev c ⟨tm, h, n, [], fn.ntmps⟩ with
    | some (.normal, s) => endA P G fn.results.toList s
    | some (.ret, s) => endA P G fn.results.toList s
    | _ => none
  | false => none

def callStep (P : Program) (G : Giv) (ev : Code → St → Option (Exit × St)) : CallF := fun f args h n =>
  match G.tells f args with
  | some v => some (v, h, n)
  | none => match P.funcs[f]? with
    | some fn => match fn.body with
      | some c => callBody P G ev fn c args h n
      | none => none
    | none => none

/- regions whose order is drawn -/

def bytesSame : List UInt8 → List UInt8 → Bool
  | [], [] => true
  | a :: l, b :: m => Nat.beq a.toNat b.toNat && bytesSame l m
  | _, _ => false

def sameA (a b : Option Addr) : Bool :=
  match a, b with
  | none, none => true
  | some ⟨x, y, none⟩, some ⟨x', y', none⟩ => Nat.beq x x' && Nat.beq y y'
  | some ⟨x, y, some z⟩, some ⟨x', y', some z'⟩ => Nat.beq x x' && Nat.beq y y' && Nat.beq z z'
  | _, _ => false

def sameLL (f : Value → Value → Bool) : List Value → List Value → Bool
  | [], [] => true
  | a :: l, b :: m => f a b && sameLL f l m
  | _, _ => false

/-- surely the same value. -/
def sameV : Nat → Value → Value → Bool
  | 0, _, _ => false
  | d + 1, x, y => match x with
    | .bool a => match y with | .bool b => a == b | _ => false
    | .int k a => match y with | .int k' b => decide (k = k') && decide (a = b) | _ => false
    | .float k a => match y with | .float k' b => decide (k = k') && Nat.beq a b | _ => false
    | .string ⟨⟨a⟩⟩ => match y with | .string ⟨⟨b⟩⟩ => bytesSame a b | _ => false
    | .pointer a => match y with | .pointer b => sameA a b | _ => false
    | .slice a l c => match y with | .slice b l' c' => sameA a b && Nat.beq l l' && Nat.beq c c' | _ => false
    | .map none => match y with | .map none => true | _ => false
    | .map (some a) => match y with | .map (some b) => Nat.beq a b | _ => false
    | .func (.func f) ⟨a⟩ ⟨b⟩ => match y with | .func (.func g) ⟨a'⟩ ⟨b'⟩ => Nat.beq f g && sameLL (sameV d) a a' && sameLL (sameV d) b b' | _ => false
    | .nilFunc => match y with | .nilFunc => true | _ => false
    | .nilIface => match y with | .nilIface => true | _ => false
    | .iface t v => match y with | .iface t' v' => Nat.beq t t' && sameV d v v' | _ => false
    | .agg ⟨a⟩ => match y with | .agg ⟨b⟩ => sameLL (sameV d) a b | _ => false
    | .tuple ⟨a⟩ => match y with | .tuple ⟨b⟩ => sameLL (sameV d) a b | _ => false
    | _ => false

/-- what has an effect, or is better not moved. -/
def isEff : Op → Bool
  | .move _ | .assign _ | .pick _ _ _ | .alloc _ | .box _ _ | .build _ _ | .buildSlice _ _ _ | .load _ _ | .nilCheck _ | .binOp _ _ _ _ _ | .unOp _ _ _ | .convert _ _ _ | .makeInterface _ _
  | .makeFunc _ _ _ | .makeSlice _ _ _ | .slice _ _ _ _ _ | .fieldAddr _ _ _ | .field _ _ _ | .indexAddr _ _ _ | .index _ _ _ | .lookup _ _ _ _ | .entry _ | .typeAssert _ _ _ _ | .extract _ _ => false
  | .call c => match c.callee with
    | .builtin .len | .builtin .min | .builtin .max => false
    | _ => true
  | _ => true

/-- what makes a block of its own. -/
def isNew : Op → Bool
  | .alloc _ | .box _ _ | .buildSlice _ _ _ | .makeSlice _ _ _ => true
  | _ => false

def edgesOf (o : Oper) : List Nat := (o.after.toList.filter fun e => Region.binds .any e).map (·.on)

def maskOf (ms : List Nat) (es : List Nat) : Nat := es.foldl (fun s e => s ||| 2 ^ e ||| ((listGet ms e).getD 0)) 0

def masks : List Oper → List Nat → List Nat
  | [], ms => ms
  | o :: l, ms => masks l (ms ++ [maskOf ms (edgesOf o)])

def hasBit (ms : List Nat) (i j : Nat) : Bool := ((listGet ms i).getD 0).testBit j

/-- may this operation be moved among those that it doesn't wait for? -/
def floats (ops : Array Oper) (ms : List Nat) (i : Nat) (o : Oper) : Bool :=
  !isEff o.op && match o.dst with
    | none => true
    | some d => !(o.looksAt ops).contains d && (ops.toList.zipIdx.all fun (p, j) => Nat.beq j i || (p.dst != some d && (!(p.looksAt ops).contains d || hasBit ms j i)))

/-- the operations in stages: a first one that waits, and those that may float behind it. -/
def stagesOf (ms : List Nat) (fl : List Nat) : List Nat → List Nat → List (Nat × List Nat)
  | [], _ => []
  | a :: as, done => 
    let f := fl.filter fun i => hasBit ms i a && as.all (fun b => !hasBit ms i b)
    (a, f) :: stagesOf ms fl as (a :: done)

structure Plan where
  ms : List Nat
  first : List Nat
  rest : List (Nat × List Nat)

def restOps : List (Nat × List Nat) → List Nat
  | [] => []
  | (a, f) :: l => a :: f ++ restOps l

def planOf (ops : Array Oper) : Plan :=
  let ms := masks ops.toList []
  let l := ops.toList.zipIdx
  let fl := (l.filter fun (o, i) => floats ops ms i o).map (·.2)
  let an := (l.filter fun (o, i) => !floats ops ms i o).map (·.2)
  ⟨ms, fl.filter fun i => an.all fun b => !hasBit ms i b, stagesOf ms fl an []⟩

def restOk (ms : List Nat) : List (Nat × List Nat) → Bool
  | [] => true
  | (a, f) :: l => (f ++ restOps l).all (fun i => hasBit ms i a) && restOk ms l

def floatAt (ops : Array Oper) (ms : List Nat) (i : Nat) : Bool :=
  match ops[i]? with
  | some o => floats ops ms i o
  | none => false

def nodupN : List Nat → Bool
  | [] => true
  | a :: l => !(l.any fun b => Nat.beq a b) && nodupN l

/-- is the plan one? -/
def planOk (ops : Array Oper) (p : Plan) : Bool :=
  (ops.toList.zipIdx.all fun (o, i) => (edgesOf o).all (fun e => Nat.blt e i) && Nat.beq (maskOf p.ms (edgesOf o)) ((listGet p.ms i).getD 0)) &&
  nodupN (p.first ++ restOps p.rest) &&
  (List.range ops.size).all (fun i => (p.first ++ restOps p.rest).any fun j => Nat.beq i j) &&
  (p.first ++ restOps p.rest).all (fun i => Nat.blt i ops.size) &&
  p.first.all (floatAt ops p.ms) && p.rest.all (fun x => x.2.all (floatAt ops p.ms)) && restOk p.ms p.rest

def planned (ops : Array Oper) : Option Plan :=
  match planOk ops (planOf ops) with
  | true => some (planOf ops)
  | false => none

/-- one operation, by its number. -/
def evOne {β : Type} (P : Program) (call : CallF) (ops : Array Oper) (i : Nat) (s : St) (k : St → Option β) : Option β :=
  match ops[i]? with
  | some o => match wantedA ops.toList s.tm o.guard with
    | true => match constsOk o.op with
      | true => evO P call o.op s fun v h n ds => putK o.dst s v h n ds k
      | false => none
    | false => putK o.dst s undef s.h s.n s.ds k
  | none => none

/-- one that floats. -/
def evFl {β : Type} (P : Program) (ops : Array Oper) (i : Nat) (s : St) (k : St → Option β) : Option β :=
  match ops[i]? with
  | some o => match wantedA ops.toList s.tm o.guard with
    | true => match constsOk o.op with
      | true => evFloat P (opd s.tm) s o.op fun v h n ds => putK o.dst s v h n ds k
      | false => none
    | false => putK o.dst s undef s.h s.n s.ds k
  | none => none

def evFls (P : Program) (ops : Array Oper) : List Nat → St → Option St
  | [], s => some s
  | i :: l, s => evFl P ops i s fun s => evFls P ops l s

/-- the block that a floating operation has made, as it stands. -/
def blockOk (s : St) (p : Nat) (l : List Value) (e : TypeId) : Bool :=
  match getW s.h p with
  | some (c, sz, e') => Nat.beq e' e && Nat.beq sz l.length && Nat.blt p s.n && (match rdCells c sz 0 l.length with | some l2 => sameLL (sameV 6) l l2 | none => false)
  | none => false

def madeOf (v : Value) : Option Nat :=
  match v with
  | .pointer (some ⟨p, 0, none⟩) => some p
  | .slice (some ⟨p, 0, none⟩) _ _ => some p
  | _ => none

/-- the name that was given to what an operation makes. -/
def promOf (o : Oper) (s : St) : Option Nat :=
  match isNew o.op, o.dst with
  | true, some d => madeOf (opd s.tm (.tmp d))
  | _, _ => none

/-- would it do the same again? -/
def again (P : Program) (ops : Array Oper) (o : Oper) (s : St) : Bool :=
  match wantedA ops.toList s.tm o.guard with
  | false => match o.dst with
    | none => true
    | some d => sameV 2 (opd s.tm (.tmp d)) undef
  | true => constsOk o.op && match evF P (opd s.tm) s.h o.op with
    | some (.val v) => !isNew o.op && (match o.dst with
      | none => true
      | some d => sameV 7 v (opd s.tm (.tmp d)))
    | some (.ptr l e) => isNew o.op && (match o.dst with
      | some d => match opd s.tm (.tmp d) with
        | .pointer (some ⟨p, 0, none⟩) => blockOk s p l e
        | _ => false
      | none => false)
    | some (.row len cap l e) => isNew o.op && (match o.dst with
      | some d => match opd s.tm (.tmp d) with
        | .slice (some ⟨p, 0, none⟩) len' cap' => Nat.beq len len' && Nat.beq cap cap' && blockOk s p l e
        | _ => false
      | none => false)
    | _ => false

/-- would all that is pending do the same again? Names rise. -/
def agains (P : Program) (ops : Array Oper) (s : St) : List Nat → Nat → Bool
  | [], _ => true
  | i :: l, lo => match ops[i]? with
    | some o => again P ops o s && (match promOf o s with
      | some p => Nat.ble lo p && agains P ops s l (Nat.succ p)
      | none => agains P ops s l lo)
    | none => false

/-- what has come up lately has names from here on. -/
def fresh (ops : Array Oper) (s : St) (lo : Nat) (l : List Nat) : Bool := l.all fun i => match ops[i]? with
  | some o => match promOf o s with
    | some p => Nat.ble lo p
    | none => true
  | none => false

def evStages (P : Program) (call : CallF) (ops : Array Oper) (ms : List Nat) : List (Nat × List Nat) → List Nat → St → Option St
  | [], _, s => some s
  | (a, f) :: l, pend, s => evOne P call ops a s fun s1 =>
    match evFls P ops f s1 with
    | some s2 => match agains P ops s2 (pend.filter (fun i => !hasBit ms a i) ++ f) 0 && fresh ops s2 s1.n f with
      | true => evStages P call ops ms l (pend.filter (fun i => !hasBit ms a i) ++ f) s2
      | false => none
    | none => none

def evDraw (P : Program) (call : CallF) (ops : Array Oper) (s : St) : Option St :=
  match planned ops with
  | some p => match evFls P ops p.first s with
    | some s1 => match agains P ops s1 p.first 0 && fresh ops s1 s.n p.first with
      | true => evStages P call ops p.ms p.rest p.first s1
      | false => none
    | none => none
  | none => none

def evRegion (P : Program) (call : CallF) (ops : Array Oper) (draw : Bool) (s : St) : Option (Exit × St) :=
  match (match draw with | true => evDraw P call ops s | false => evOps P call ops.toList ops.toList s) with
  | some s => some (.normal, s)
  | none => none

def evStep (P : Program) (G : Giv) (ev : Code → St → Option (Exit × St)) : Code → St → Option (Exit × St) := fun c s =>
  match c with
  | .skip | .label _ => some (.normal, s)
  | .region _ ops dr => evRegion P (callStep P G ev) ops dr s
  | .seq a b => match ev a s with
    | some (.normal, s) => ev b s
    | r => r
  | .cond x a b => match opd s.tm x with
    | .bool true => ev a s
    | .bool false => ev b s
    | _ => none
  | .block id b => match ev b s with
    | some (.exit i, s) => match Nat.beq i id with
      | true => some (.normal, s)
      | false => some (.exit i, s)
    | r => r
  | .loop b => match ev b s with
    | some (.normal, s) => ev (.loop b) s
    | r => r
  | .exit id => some (.exit id, s)
  | .ret => some (.ret, s)
  | _ => none

def evC (P : Program) (G : Giv) (n : Nat) : Code → St → Option (Exit × St) :=
  Nat.rec (motive := fun _ => Code → St → Option (Exit × St)) (fun _ _ => none) (fun _ ih c s => evStep P G ih c s) n

def evCall (P : Program) (G : Giv) (n : Nat) : CallF := callStep P G (evC P G n)

end
end Go.Proofs.YtedbjceeakmjgaaGreatDoor.Ev
