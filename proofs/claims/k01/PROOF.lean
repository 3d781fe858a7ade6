import PyProof.Rows.All
import Wide.All
import OpenK.AllK
import Wide.FinOn
import PyProof.P3Statements
import HandS.ForMost
import HandS.ForExc
import HandS.AnyAll
import HandS.Flow
import HandS.TupAny
import HandS.TupMul
import HandS.TupLe
import HandS.Style
import HandS.GenList
import PyProof.TupleOfGen
import HandS.Zip
import HandS.Text
import HandS.Defaults
import HandS.IsInst
import KE.KExcInit
import HandS.ExcField
import HandS.ExcOwn
import HandS.ExcIs
import PyProof.ExcBaseAll.LookupError
import HandS.TryMany
import KE.KExcIs
import HandS.EndTab
import KE.KStateDown
import HandS.Head0
import HandS.Head1
import HandS.Head2
import HandS.HeadEnd
import HandS.HeadHook1
import HandS.HeadHook2
import HandS.HeadHook3
import HandS.HeadHook4
import HandS.HeadWalk
import HandS.NestedK
import KE.KNestM
import PySem.Challenge.RW_roundtold_k01_rings_by_hand_and_refused
section
set_option Elab.async false
noncomputable section
namespace RT

inductive EV where
  | non | bl (b : Bool) | int (i : Int) | str (s : List Nat) | tup (es : List EV) | ref (i : Nat) | fn (i : Nat) | ty (n : Nat) | clo (f : Nat) (cs : List EV) | exc (c : Nat) (as : List EV) | opq | rg (lo : Int) (n : Nat) | zp (a b : EV) | en (a : EV)
inductive EO where
  | lst (es : List EV) | dic (kvs : List (EV × EV)) | set (es : List EV)
inductive Tr where
  | nil | node (v : Option EO) (l r : Tr)
def Tr.get (t : Tr) : Nat → Option EO := t.rec (fun _ => none) (fun v _ _ gl gr i => (Nat.beq i 0).rec ((Nat.beq (i % 2) 1).rec (gr (i / 2 - 1)) (gl (i / 2))) v)
def Tr.put (n : Nat) : Tr → Nat → EO → Tr := n.rec (fun t _ _ => t) fun _ ih t i o =>
  t.casesOn ((Nat.beq i 0).rec ((Nat.beq (i % 2) 1).rec (.node none .nil (ih .nil (i / 2 - 1) o)) (.node none (ih .nil (i / 2) o) .nil)) (.node (some o) .nil .nil))
    fun v l r => (Nat.beq i 0).rec ((Nat.beq (i % 2) 1).rec (.node v l (ih r (i / 2 - 1) o)) (.node v (ih l (i / 2) o) r)) (.node (some o) l r)
structure EH where
  n : Nat
  t : Tr
def EH.get (h : EH) (i : Nat) : Option EO := h.t.get i
def EH.new (h : EH) (o : EO) : EH := ⟨h.n + 1, h.t.put (h.n + 1) h.n o⟩
def EH.set (h : EH) (i : Nat) (o : EO) : EH := ⟨h.n, h.t.put (i + 1) i o⟩

inductive Out where
  | val (v : EV) (h : EH) | exc (v : EV) (h : EH) | bad
inductive OutL where
  | vals (vs : List EV) (h : EH) | exc (v : EV) (h : EH) | bad
abbrev ES := List (Option EV)
inductive OutS where
  | nx (s : ES) (h : EH) | rt (v : EV) (h : EH) | bk (s : ES) (h : EH) | ct (s : ES) (h : EH) | exc (v : EV) (s : ES) (h : EH) | bad
abbrev M := ES → EH → Out
abbrev ML := ES → EH → OutL
abbrev MS := ES → EH → OutS
def Out.then (o : Out) (k : EV → EH → Out) : Out := match o with | .val v h => k v h | .exc v h => .exc v h | .bad => .bad
def Out.thenL (o : Out) (k : EV → EH → OutL) : OutL := match o with | .val v h => k v h | .exc v h => .exc v h | .bad => .bad
def OutL.then (o : OutL) (k : List EV → EH → Out) : Out := match o with | .vals v h => k v h | .exc v h => .exc v h | .bad => .bad
def OutL.thenL (o : OutL) (k : List EV → EH → OutL) : OutL := match o with | .vals v h => k v h | .exc v h => .exc v h | .bad => .bad
def Out.thenS (o : Out) (s : ES) (k : EV → EH → OutS) : OutS := match o with | .val v h => k v h | .exc v h => .exc v s h | .bad => .bad
def OutL.thenS (o : OutL) (s : ES) (k : List EV → EH → OutS) : OutS := match o with | .vals v h => k v h | .exc v h => .exc v s h | .bad => .bad

/-! values -/
def isNum (v : EV) : Option Int := match v with
  | .int i => some i
  | .bl b => some (b.rec 0 1)
  | _ => none
def nlEq (a : List Nat) : List Nat → Bool := a.rec (fun b => b.casesOn true fun _ _ => false) fun x _ ih b => b.casesOn false fun y s => (Nat.beq x y).rec false (ih s)
def intEq (a b : Int) : Bool := a.casesOn (fun m => b.casesOn (fun n => Nat.beq m n) fun _ => false) fun m => b.casesOn (fun _ => false) fun n => Nat.beq m n
def intLt (a b : Int) : Bool := a.casesOn (fun m => b.casesOn (fun n => Nat.blt m n) fun _ => false) fun m => b.casesOn (fun _ => true) fun n => Nat.blt n m
/-- a value as plain data -/
def toDs (f : EV → Option PySem.PyData) (l : List EV) : Option (List PySem.PyData) := l.rec (some []) fun x _ ih => (f x).rec none fun d => ih.rec none fun r => some (d :: r)
def okStr (l : List Nat) : Bool := l.rec true fun c _ ih => (Nat.blt c 1114112).rec false ih
def toD (n : Nat) (h : EH) : EV → Option PySem.PyData := n.rec (fun _ => none) fun _ ih v => match v with
  | .non => some .none
  | .bl b => some (.bool b)
  | .int i => some (.int i)
  | .str l => (okStr l).rec none (some (.str ⟨l.toArray⟩))
  | .tup es => (toDs ih es).rec none fun r => some (.tuple r)
  | .ref i => (match h.get i with | some (.lst es) => (toDs ih es).rec none fun r => some (.list r) | _ => none)
  | _ => none
def eqB (h : EH) (a b : EV) : Option Bool := (toD 60 h a).rec none fun d => (toD 60 h b).rec none fun e => some (PySem.PyData.eqv d e)
inductive Ord3 where | lt | eq | gt | no
/-- two rows, place by place; all pairs must be of kinds that go together -/
def cmpL (f : EV → EV → Ord3) (a : List EV) : List EV → Ord3 := a.rec (fun b => b.casesOn .eq fun _ _ => .lt) fun x _ ih b => b.casesOn .gt fun y s => (f x y).casesOn ((ih s).casesOn .lt .lt .lt .no) (ih s) ((ih s).casesOn .gt .gt .gt .no) .no
def cmpI (i j : Int) : Ord3 := (intEq i j).rec ((intLt i j).rec .gt .lt) .eq
def cmpN (n : Nat) : EV → EV → Ord3 := n.rec (fun _ _ => .no) fun _ ih a b => match a with
  | .int i => (match b with | .int j => cmpI i j | _ => .no)
  | .tup es => (match b with | .tup fs => cmpL ih es fs | _ => .no)
  | _ => .no
def cmpB (a b : EV) : Ord3 := cmpN 40 a b
def ltO (o : Ord3) : Option Bool := o.casesOn (some true) (some false) (some false) none
def gtO (o : Ord3) : Option Bool := o.casesOn (some false) (some false) (some true) none
def leO (o : Ord3) : Option Bool := o.casesOn (some true) (some true) (some false) none
def geO (o : Ord3) : Option Bool := o.casesOn (some false) (some true) (some true) none
def nonEmpty {α} (l : List α) : Bool := l.casesOn false fun _ _ => true
def truth (h : EH) (v : EV) : Option Bool := match v with
  | .non => some false
  | .bl b => some b
  | .int i => some (!intEq i 0)
  | .str s => (Nat.ble s.length 16777216).rec none (some (nonEmpty s))
  | .tup es => some (nonEmpty es)
  | .ref i => match h.get i with
    | some (.lst es) => some (nonEmpty es)
    | _ => none
  | _ => none
def seqOf (h : EH) (v : EV) : Option (List EV) := match v with
  | .tup es => some es
  | .ref i => match h.get i with
    | some (.lst es) => some es
    | _ => none
  | _ => none
def memR (h : EH) (x : EV) (l : List EV) : Option Bool := l.rec (some false) fun y _ ih => (eqB h y x).rec none fun c => c.rec ih (some true)
def rep {α} (l : List α) (n : Nat) : List α := n.rec [] fun _ r => l ++ r
def opt (o : Option EV) (h : EH) : Out := o.rec .bad fun v => .val v h
def optB (o : Option Bool) (h : EH) : Out := o.rec .bad fun v => .val (.bl v) h
def neg? (o : Option Bool) : Option Bool := o.rec none fun b => some (!b)
def vEq (h : EH) (a b : EV) : Option Bool := eqB h a b
def vNe (h : EH) (a b : EV) : Option Bool := neg? (eqB h a b)
def vLt (_ : EH) (a b : EV) : Option Bool := ltO (cmpB a b)
def vGt (_ : EH) (a b : EV) : Option Bool := gtO (cmpB a b)
def vLe (_ : EH) (a b : EV) : Option Bool := leO (cmpB a b)
def vGe (_ : EH) (a b : EV) : Option Bool := geO (cmpB a b)
def vIs (_ : EH) (a b : EV) : Option Bool := match b with | .non => (match a with | .non => some true | .opq => none | _ => some false) | _ => none
def vIsn (h : EH) (a b : EV) : Option Bool := neg? (vIs h a b)
def vMem (h : EH) (a b : EV) : Option Bool := (seqOf h b).rec none (memR h a)
def vNmem (h : EH) (a b : EV) : Option Bool := neg? (vMem h a b)
/-- ints made plain -/
def mkI (i : Int) (h : EH) : Out := i.casesOn (fun n => n.casesOn (.val (.int (.ofNat 0)) h) fun k => .val (.int (.ofNat (k + 1))) h) fun n => n.casesOn (.val (.int (.negSucc 0)) h) fun k => .val (.int (.negSucc (k + 1))) h
def ii (a b : EV) (no : Out) (f : Int → Int → Out) : Out := match a with | .int i => (match b with | .int j => f i j | _ => no) | _ => no
/-- a row's length is in bounds -/
def fit {α} (l : List α) (o : Out) : Out := (Nat.ble l.length 16777216).rec .bad o
def mkT (l : List EV) (h : EH) : Out := fit l (.val (.tup l) h)
def mkR (l : List EV) (h : EH) : Out := fit l (.val (.ref h.n) (h.new (.lst l)))
def small (i : Int) : Bool := Nat.blt i.natAbs 18446744073709551616
def catO (h : EH) (a b : EV) : Out := match a with
  | .tup es => match b with | .tup fs => mkT (es ++ fs) h | _ => .bad
  | .str s => match b with | .str t => fit (s ++ t) (.val (.str (s ++ t)) h) | _ => .bad
  | .ref i => match b with
    | .ref j => match h.get i with
      | some (.lst es) => match h.get j with
        | some (.lst fs) => mkR (es ++ fs) h
        | _ => .bad
      | _ => .bad
    | _ => .bad
  | _ => .bad
def repN (h : EH) (a : EV) (n : Nat) : Out := match a with
  | .tup es => (nonEmpty es && Nat.ble 2 n && Nat.ble n 1000 && Nat.ble es.length 1000).rec .bad (.val (.tup (rep es n)) h)
  | .ref i => match h.get i with
    | some (.lst es) => (Nat.ble n 1000 && Nat.ble es.length 1000).rec .bad (.val (.ref h.n) (h.new (.lst (rep es n))))
    | _ => .bad
  | _ => .bad
def repO (h : EH) (a b : EV) : Out := match b with
  | .int k => k.casesOn (fun n => repN h a n) fun _ => .bad
  | _ => .bad
def vAdd (h : EH) (a b : EV) : Out := ii a b (catO h a b) fun i j => mkI (i + j) h
def vSub (h : EH) (a b : EV) : Out := ii a b .bad fun i j => mkI (i - j) h
def vAddI (h : EH) (a b : EV) : Out := ii a b .bad fun i j => mkI (i + j) h
def vSubI (h : EH) (a b : EV) : Out := ii a b .bad fun i j => mkI (i - j) h
def vMul (h : EH) (a b : EV) : Out := ii a b (repO h a b) fun i j => (small i || small j).rec .bad (mkI (i * j) h)
def vFdiv (h : EH) (a b : EV) : Out := ii a b .bad fun i j => (Nat.blt 0 j.natAbs && Nat.blt j.natAbs 1073741824).rec .bad (mkI (Int.fdiv i j) h)
def vMod (h : EH) (a b : EV) : Out := ii a b .bad fun i j => (Nat.blt 0 j.natAbs).rec .bad (mkI (Int.fmod i j) h)
def vPow (h : EH) (a b : EV) : Out := ii a b .bad fun i j => i.casesOn (fun m => j.casesOn (fun k => (Nat.ble k 100000 && small (.ofNat m)).rec .bad (mkI (.ofNat (Nat.pow m k)) h)) fun _ => .bad) fun _ => .bad
def nth {α} (l : List α) : Nat → Option α := l.rec (fun _ => none) fun x _ ih i => i.casesOn (some x) ih
def atI {α} (l : List α) (i : Int) : Option α := i.casesOn (nth l) fun n => (Nat.ble (n + 1) l.length).rec none (nth l (l.length - (n + 1)))
def getD? (h : EH) (k : EV) (l : List (EV × EV)) : Option (Option EV) := l.rec (some none) fun p _ ih => (eqB h p.1 k).rec none fun c => c.rec ih (some (some p.2))
def ixL (es : List EV) (i : EV) (h : EH) : Out := match i with | .int k => opt (atI es k) h | _ => .bad
def ixD (kvs : List (EV × EV)) (i : EV) (h : EH) : Out := (getD? h i kvs).rec .bad fun o => opt o h
def vIx (h : EH) (a i : EV) : Out := match a with
  | .tup es => ixL es i h
  | .ref r => match h.get r with
    | some (.lst es) => ixL es i h
    | some (.dic kvs) => ixD kvs i h
    | _ => .bad
  | _ => .bad
def clip (n d : Nat) (o : Option EV) : Option Nat := match o with
  | none => some d
  | some (.int i) => some (i.casesOn (fun k => min k n) fun k => n - (k + 1))
  | _ => none
def cut {α} (l : List α) (lo hi : Option EV) : Option (List α) := (clip l.length 0 lo).rec none fun a => (clip l.length l.length hi).rec none fun b => some ((l.drop a).take (b - a))
def vSl (h : EH) (a : EV) (lo hi : Option EV) : Out := match a with
  | .tup es => (cut es lo hi).rec .bad fun r => .val (.tup r) h
  | .str es => (cut es lo hi).rec .bad fun r => fit es (.val (.str r) h)
  | .ref r => match h.get r with
    | some (.lst es) => (cut es lo hi).rec .bad fun r => .val (.ref h.n) (h.new (.lst r))
    | _ => .bad
  | _ => .bad
def vRev (h : EH) (a : EV) : Out := match a with
  | .tup es => .val (.tup es.reverse) h
  | .ref r => match h.get r with
    | some (.lst es) => .val (.ref h.n) (h.new (.lst es.reverse))
    | _ => .bad
  | _ => .bad
def rangeL (n : Nat) : Int → List EV := n.rec (fun _ => []) fun _ ih i => .int i :: ih (i + 1)
def best (c : Ord3) (l : List EV) : EV → Option EV := l.rec (fun m => some m) fun x _ ih m => (cmpB x m).casesOn (c.casesOn (ih x) (ih m) (ih m) (ih m)) (ih m) (c.casesOn (ih m) (ih m) (ih x) (ih m)) none
def insV (x : EV) (l : List EV) : Option (List EV) := l.rec (some [x]) fun y r ih => (cmpB x y).casesOn (some (x :: y :: r)) (ih.map (y :: ·)) (ih.map (y :: ·)) none
def sortV (l : List EV) : Option (List EV) := l.rec (some []) fun x _ ih => ih.rec none (insV x)
def uniq (h : EH) (l : List EV) : List EV → Option (List EV) := l.rec (fun a => some a) fun x _ ih a => (memR h x a).rec none fun c => c.rec (ih (a ++ [x])) (ih a)
def sumV (l : List EV) : Int → Option Int := l.rec (fun a => some a) fun x _ ih a => (isNum x).rec none fun i => ih (a + i)
def putD (h : EH) (k v : EV) (l : List (EV × EV)) : Option (List (EV × EV)) := l.rec (some [(k, v)]) fun p r ih => (eqB h p.1 k).rec none fun c => c.rec (ih.map (p :: ·)) (some ((p.1, v) :: r))
def pairOf (v : EV) : Option (EV × EV) := match v with | .tup [a, b] => some (a, b) | _ => none
def dictOf (h : EH) (l : List EV) : List (EV × EV) → Option (List (EV × EV)) := l.rec (fun a => some a) fun x _ ih a => (pairOf x).rec none fun p => (putD h p.1 p.2 a).rec none ih
/-- a value's kind, by number -/
def kindO (h : EH) (x : EV) : Option Nat := match x with
  | .int _ => some 0
  | .bl _ => some 1
  | .tup _ => some 2
  | .ref i => (match h.get i with | some (.lst _) => some 3 | _ => none)
  | .str _ => some 4
  | .non => some 6
  | _ => none
def isK (k u : Nat) : Bool := Nat.beq k u || (Nat.beq k 1 && Nat.beq u 0)
def isT1 (k : Nat) (t : EV) : Option Bool := match t with | .ty u => (Nat.blt u 6).rec none (some (isK k u)) | _ => none
def isTs (k : Nat) (l : List EV) : Option Bool := l.rec (some false) fun t _ ih => (isT1 k t).rec none fun c => ih.rec none fun d => some (c || d)
def vIsi (h : EH) (x t : EV) : Option Bool := (kindO h x).rec none fun k => match t with
  | .ty u => isT1 k (.ty u)
  | .tup l => isTs k l
  | _ => none
def zipL (l : List EV) : List EV → List EV := l.rec (fun _ => []) fun x _ ih r => r.casesOn [] fun y s => .tup [x, y] :: ih s
def enumL (l : List EV) : Int → List EV := l.rec (fun _ => []) fun x _ ih i => .tup [.int i, x] :: ih (i + 1)
def newL (o : Option (List EV)) (h : EH) : Out := o.rec .bad fun l => .val (.ref h.n) (h.new (.lst l))

/-! the code's combinators -/
def xVar (i : Nat) : M := fun σ h => (nth σ i).rec .bad fun o => opt o h
def xCst (v : EV) : M := fun _ h => .val v h
def xBin (f : EH → EV → EV → Out) (a b : M) : M := fun σ h => (a σ h).then fun x h1 => (b σ h1).then fun y h2 => f h2 x y
def xCmp (f : EH → EV → EV → Option Bool) (a b : M) : M := fun σ h => (a σ h).then fun x h1 => (b σ h1).then fun y h2 => optB (f h2 x y) h2
def xChain (f g : EH → EV → EV → Option Bool) (a b c : M) : M := fun σ h => (a σ h).then fun x h1 => (b σ h1).then fun y h2 => (f h2 x y).rec .bad fun k => k.rec (.val (.bl false) h2) ((c σ h2).then fun z h3 => optB (g h3 y z) h3)
def vNeg (h : EH) (a : EV) : Out := match a with | .int i => mkI (-i) h | _ => .bad
def xNeg (a : M) : M := fun σ h => (a σ h).then fun x h1 => vNeg h1 x
def xAnd (a b : M) : M := fun σ h => (a σ h).then fun x h1 => (truth h1 x).rec .bad fun c => c.rec (.val x h1) (b σ h1)
def xOr (a b : M) : M := fun σ h => (a σ h).then fun x h1 => (truth h1 x).rec .bad fun c => c.rec (b σ h1) (.val x h1)
def xNot (a : M) : M := fun σ h => (a σ h).then fun x h1 => (truth h1 x).rec .bad fun c => .val (.bl (!c)) h1
def xIte (c a b : M) : M := fun σ h => (c σ h).then fun x h1 => (truth h1 x).rec .bad fun k => k.rec (b σ h1) (a σ h1)
def lNil : ML := fun _ h => .vals [] h
def lCons (a : M) (r : ML) : ML := fun σ h => (a σ h).thenL fun x h1 => (r σ h1).thenL fun xs h2 => .vals (x :: xs) h2
def xTup (r : ML) : M := fun σ h => (r σ h).then fun xs h1 => mkT xs h1
def xLst (r : ML) : M := fun σ h => (r σ h).then fun xs h1 => mkR xs h1
def xDic (ks vs : ML) : M := fun σ h => (ks σ h).then fun as h1 => (vs σ h1).then fun bs h2 => (dictOf h2 (zipL as bs) []).rec .bad fun l => .val (.ref h2.n) (h2.new (.dic l))
def partI (v : EV) (h : EH) : OutL := match v with | .int i => .vals [.int i] h | _ => .bad
def lOpt (o : Option M) : ES → EH → OutL := o.rec lNil fun a σ h => (a σ h).thenL partI
def xSl (a : M) (lo hi : Option M) : M := fun σ h => (a σ h).then fun x h1 => (lOpt lo σ h1).then fun l h2 => (lOpt hi σ h2).then fun u h3 => vSl h3 x l.head? u.head?
def xRev (a : M) : M := fun σ h => (a σ h).then fun x h1 => vRev h1 x
abbrev CF := Nat → List EV → EH → Out
def permL (ord : List Nat) (vs : List EV) : List EV := ord.map fun i => (nth vs i).getD .non
def xCall (cf : CF) (f : Nat) (ord : List Nat) (es : ML) : M := fun σ h => (es σ h).then fun vs h1 => cf f (permL ord vs) h1
def xCall0 (cf : CF) (f : Nat) (es : ML) : M := fun σ h => (es σ h).then fun vs h1 => cf f vs h1
def callV (cf : CF) (g : EV) (o : OutL) : Out := match g with
  | .fn i => o.then fun vs h => cf i vs h
  | .clo f cs => o.then fun vs h => cf f (vs ++ cs) h
  | _ => .bad
def xCallV (cf : CF) (f : M) (es : ML) : M := fun σ h => (f σ h).then fun g h1 => callV cf g (es σ h1)
def xB (f : EH → List EV → Out) (es : ML) : M := fun σ h => (es σ h).then fun vs h1 => f h1 vs
def xMe (f : EH → EV → List EV → Out) (a : M) (es : ML) : M := fun σ h => (a σ h).then fun x h1 => (es σ h1).then fun vs h2 => f h2 x vs
def atF (k : Nat) (v : EV) (h : EH) : Out := match v with | .exc _ as => opt (nth as k) h | _ => .bad
def xAt (a : M) (k : Nat) : M := fun σ h => (a σ h).then fun x h1 => atF k x h1
def xMk (c : Nat) (es : ML) : M := fun σ h => (es σ h).then fun vs h1 => .val (.exc c vs) h1
def xLam (f : Nat) (cs : List Nat) : M := fun σ h => .val (.clo f (cs.map fun j => ((nth σ j).getD none).getD .non)) h
/-! targets, loops -/
abbrev MG := EV → ES → EH → OutS
def setN {α} (l : List α) (v : α) : Nat → List α := l.rec (fun _ => []) fun x r ih i => i.casesOn (v :: r) fun k => x :: ih k
def gVar (i : Nat) : MG := fun v σ h => .nx (setN σ (some v) i) h
def OutS.go (o : OutS) (k : ES → EH → OutS) : OutS := match o with | .nx s h => k s h | .rt v h => .rt v h | .bk s h => .bk s h | .ct s h => .ct s h | .exc v s h => .exc v s h | .bad => .bad
def gSeq (ts : List MG) : List EV → ES → EH → OutS := ts.rec (fun vs σ h => vs.casesOn (.nx σ h) fun _ _ => .bad) fun t _ ih vs σ h => vs.casesOn .bad fun v r => (t v σ h).go fun σ1 h1 => ih r σ1 h1
def gTup (ts : List MG) : MG := fun v σ h => match v with | .tup vs => (Nat.beq vs.length ts.length).rec .bad (gSeq ts vs σ h) | _ => .bad
def setIx (h : EH) (a i v : EV) : Option EH := match a with
  | .ref r => match h.get r with
    | some (.lst es) => (match i with
      | .int k => k.casesOn (fun k => (Nat.blt k es.length).rec none (some (h.set r (.lst (setN es v k))))) fun k => (Nat.blt k es.length).rec none (some (h.set r (.lst (setN es v (es.length - (k + 1))))))
      | _ => none)
    | some (.dic kvs) => (putD h i v kvs).rec none fun l => some (h.set r (.dic l))
    | _ => none
  | _ => none
def gIx (a i : M) : MG := fun v σ h => (a σ h).thenS σ fun x h1 => (i σ h1).thenS σ fun y h2 => (setIx h2 x y v).rec .bad fun h3 => .nx σ h3
def srcS (h : EH) (src : EV) (i : Nat) : Option (Option EV) := match src with
  | .tup es => some (nth es i)
  | .ref r => match h.get r with
    | some (.lst es) => some (nth es i)
    | _ => none
  | _ => none
def intO (i : Int) : Option (Option EV) := i.casesOn (fun n => n.casesOn (some (some (.int (.ofNat 0)))) fun k => some (some (.int (.ofNat (k + 1))))) fun n => n.casesOn (some (some (.int (.negSucc 0)))) fun k => some (some (.int (.negSucc (k + 1))))
def pairO (a b : Option (Option EV)) : Option (Option EV) := a.rec none fun x => b.rec none fun y => x.rec (some none) fun u => y.rec (some none) fun v => some (some (.tup [u, v]))
def enO (i : Nat) (a : Option (Option EV)) : Option (Option EV) := a.rec none fun x => x.rec (some none) fun u => i.casesOn (some (some (.tup [.int (.ofNat 0), u]))) fun k => some (some (.tup [.int (.ofNat (k + 1)), u]))
/-- what is walked, at a place -/
def srcAt (h : EH) (src : EV) (i : Nat) : Option (Option EV) := match src with
  | .tup es => some (nth es i)
  | .ref r => srcS h (.ref r) i
  | .rg lo n => (Nat.blt i n).rec (some none) (intO (lo + i))
  | .zp a b => pairO (srcS h a i) (srcS h b i)
  | .en a => enO i (srcS h a i)
  | _ => none
def OutS.toL (o : OutS) (k : ES → EH → OutL) : OutL := match o with | .nx s h => k s h | _ => .bad
def OutS.to (o : OutS) (k : ES → EH → Out) : Out := match o with | .nx s h => k s h | _ => .bad
def Out.toL (o : Out) (k : EV → EH → OutL) : OutL := match o with | .val v h => k v h | _ => .bad
def Out.to (o : Out) (k : EV → EH → Out) : Out := match o with | .val v h => k v h | _ => .bad
def wipeE (τ : ES) (vs : List Nat) : ES := vs.rec τ fun v _ r => setN r none v
/-- the loop of a comprehension: i: the turn, acc: what is made, the last first; nothing is raised in it -/
def lcL (N : Nat) (e : M) (g : MG) (src : EV) (t : Option M) (τ : ES) : Nat → List EV → EH → OutL := N.rec (fun _ _ _ => .bad) fun _ ih i acc h =>
  (srcAt h src i).rec .bad fun o => o.rec (.vals acc.reverse h) fun v => (g v τ h).toL fun σ1 h1 => t.rec ((e σ1 h1).toL fun y h3 => ih (i + 1) (y :: acc) h3) fun c => (c σ1 h1).toL fun b h2 => (truth h2 b).rec .bad fun k => k.rec (ih (i + 1) acc h2) ((e σ1 h2).toL fun y h3 => ih (i + 1) (y :: acc) h3)
def xLc (N : Nat) (own : List Nat) (e : M) (g : MG) (it : M) (t : Option M) : M := fun σ h => (it σ h).then fun x h1 => (lcL N e g x t (wipeE σ own) 0 [] h1).then fun vs h2 => .val (.ref h2.n) (h2.new (.lst vs))
/-- .. of a generator's, all drawn -/
def xGe (N : Nat) (own : List Nat) (f : EH → List EV → Out) (e : M) (g : MG) (it : M) (t : Option M) : M := fun σ h => (it σ h).then fun x h1 => (lcL N e g x t (wipeE σ own) 0 [] h1).then fun vs h2 => f h2 [.tup vs]
/-- .. all, any: till one decides -/
def aaL (N : Nat) (all : Bool) (e : M) (g : MG) (src : EV) (t : Option M) (τ : ES) : Nat → EH → Out := N.rec (fun _ _ => .bad) fun _ ih i h =>
  (srcAt h src i).rec .bad fun o => o.rec (.val (.bl all) h) fun v => (g v τ h).to fun σ1 h1 => t.rec ((e σ1 h1).to fun y h3 => (truth h3 y).rec .bad fun c => (c == all).rec (.val (.bl c) h3) (ih (i + 1) h3)) fun q => (q σ1 h1).to fun b h2 => (truth h2 b).rec .bad fun k => k.rec (ih (i + 1) h2) ((e σ1 h2).to fun y h3 => (truth h3 y).rec .bad fun c => (c == all).rec (.val (.bl c) h3) (ih (i + 1) h3))
def xAA (N : Nat) (own : List Nat) (all : Bool) (e : M) (g : MG) (it : M) (t : Option M) : M := fun σ h => (it σ h).then fun x h1 => aaL N all e g x t (wipeE σ own) 0 h1
/-! statements -/
def sNil : MS := fun σ h => .nx σ h
def sSeq (a b : MS) : MS := fun σ h => (a σ h).go b
def sAsg (g : MG) (e : M) : MS := fun σ h => (e σ h).thenS σ fun v h1 => g v σ h1
def sPar2 (i j : Nat) (es : ML) : MS := fun σ h => (es σ h).thenS σ fun vs h1 => match vs with | [v, w] => .nx (setN (setN σ (some v) i) (some w) j) h1 | _ => .bad
def sPar3 (i j l : Nat) (es : ML) : MS := fun σ h => (es σ h).thenS σ fun vs h1 => match vs with | [u, v, w] => .nx (setN (setN (setN σ (some u) i) (some v) j) (some w) l) h1 | _ => .bad
def sAug (i : Nat) (f : EH → EV → EV → Out) (e : M) : MS := fun σ h => (nth σ i).rec .bad fun o => o.rec .bad fun a => (e σ h).thenS σ fun v h1 => (f h1 a v).thenS σ fun z h2 => .nx (setN σ (some z) i) h2
def sExp (e : M) : MS := fun σ h => (e σ h).thenS σ fun _ h1 => .nx σ h1
def sRet (e : M) : MS := fun σ h => (e σ h).thenS σ fun v h1 => .rt v h1
def sIf (c : M) (a b : MS) : MS := fun σ h => (c σ h).thenS σ fun x h1 => (truth h1 x).rec .bad fun k => k.rec (b σ h1) (a σ h1)
def loopS (o : OutS) (k : ES → EH → OutS) : OutS := match o with | .nx s h => k s h | .ct s h => k s h | .bk s h => .nx s h | .rt v h => .rt v h | .exc v s h => .exc v s h | .bad => .bad
def sWhl (N : Nat) (c : M) (b : MS) : MS := N.rec (fun _ _ => .bad) fun _ ih σ h => (c σ h).thenS σ fun x h1 => (truth h1 x).rec .bad fun k => k.rec (.nx σ h1) (loopS (b σ h1) ih)
def forL (N : Nat) (g : MG) (src : EV) (b : MS) : Nat → ES → EH → OutS := N.rec (fun _ _ _ => .bad) fun _ ih i σ h => (srcAt h src i).rec .bad fun o => o.rec (.nx σ h) fun v => (g v σ h).go fun σ1 h1 => loopS (b σ1 h1) (ih (i + 1))
def sFor (N : Nat) (g : MG) (e : M) (b : MS) : MS := fun σ h => (e σ h).thenS σ fun x h1 => forL N g x b 0 σ h1
def sBrk : MS := fun σ h => .bk σ h
def sCont : MS := fun σ h => .ct σ h
def sRaise (e : M) : MS := fun σ h => (e σ h).thenS σ fun v h1 => .exc v σ h1
/-- raise C(..) -/
def sRz1 (c : Nat) (es : ML) : MS := fun σ h => (es σ h).thenS σ fun vs h1 => match vs with | [x] => .exc (.exc c [x]) σ h1 | _ => .bad
def sRz0 (c : Nat) : MS := fun σ h => .exc (.exc c []) σ h
def excC (v : EV) : Option Nat := match v with | .exc c _ => some c | _ => none
/-- a suite raises nothing; behind it the name goes -/
def noX (o : OutS) : OutS := match o with | .nx s h => .nx s h | .bk s h => .bk s h | .ct s h => .ct s h | .rt v h => .rt v h | _ => .bad
def unS (o : OutS) (i : Nat) : OutS := match o with | .nx s h => .nx (setN s none i) h | .bk s h => .bk (setN s none i) h | .ct s h => .ct (setN s none i) h | .rt v h => .rt v h | _ => .bad
/-- a handler: its class, the name's place (or none), the suite by the error -/
def sHs (l : List (Nat × Option Nat × (EV → MS))) (v : EV) : MS := l.rec (fun σ h => .exc v σ h) fun p _ ih σ h => (excC v).rec .bad fun d => (Nat.beq p.1 d).rec (ih σ h) (p.2.1.rec (noX (p.2.2 v σ h)) fun i => (Nat.blt i σ.length).rec .bad (unS (p.2.2 v (setN σ none i) h) i))
def sTry (b : MS) (l : List (Nat × Option Nat × (EV → MS))) : MS := fun σ h => match b σ h with | .exc v s h1 => sHs l v s h1 | .nx s h => .nx s h | .rt v h => .rt v h | .bk s h => .bk s h | .ct s h => .ct s h | .bad => .bad
/-- the error's attribute -/
def xErr (v : EV) (k : Nat) : M := fun _ h => match v with | .exc _ as => opt (nth as k) h | _ => .bad
def OutS.ret (o : OutS) : Out := match o with | .rt v h => .val v h | .nx _ h => .val .non h | .exc v _ h => .exc v h | _ => .bad
def pad (vs : List EV) (k : Nat) : ES := vs.rec (k.rec [] fun _ r => none :: r) fun v _ r => some v :: r
/-- a def: k: names that are no parameters -/
def mkF (np k : Nat) (b : MS) (vs : List EV) (h : EH) : Out := (Nat.beq vs.length np).rec .bad (b (pad vs k) h).ret
def mkL (np k : Nat) (b : M) (vs : List EV) (h : EH) : Out := (Nat.beq vs.length np).rec .bad (b (pad vs k) h)

/-! built-ins -/
def bLen (h : EH) (as : List EV) : Out := match as with | [x] => (seqOf h x).rec .bad fun l => mkI (.ofNat l.length) h | _ => .bad
def bIsi (h : EH) (as : List EV) : Out := match as with | [x, t] => optB (vIsi h x t) h | _ => .bad
def boolsOf (l : List EV) : Option (List Bool) := l.rec (some []) fun y _ ih => match y with | .bl c => ih.rec none fun r => some (c :: r) | _ => none
def allF (l : List Bool) : Bool := l.rec true fun c _ ih => c.rec false ih
def anyF (l : List Bool) : Bool := l.rec false fun c _ ih => c.rec ih true
def lstOf (h : EH) (v : EV) : Option (List EV) := match v with | .ref i => (match h.get i with | some (.lst es) => some es | _ => none) | _ => none
def bAll (h : EH) (as : List EV) : Out := match as with | [x] => (lstOf h x).rec .bad fun l => (boolsOf l).rec .bad fun r => .val (.bl (allF r)) h | _ => .bad
def bAny (h : EH) (as : List EV) : Out := match as with | [x] => (lstOf h x).rec .bad fun l => (boolsOf l).rec .bad fun r => .val (.bl (anyF r)) h | _ => .bad
def bBest (c : Ord3) (h : EH) (as : List EV) : Out := match as with
  | [x] => (seqOf h x).rec .bad fun l => l.casesOn .bad fun m r => opt (best c r m) h
  | _ => .bad
def bMin2 (h : EH) (as : List EV) : Out := match as with | [.int i, .int j] => mkI ((intLt j i).rec i j) h | _ => .bad
def bMax2 (h : EH) (as : List EV) : Out := match as with | [.int i, .int j] => mkI ((intLt i j).rec i j) h | _ => .bad
def bSum (h : EH) (as : List EV) : Out := match as with | [x] => (seqOf h x).rec .bad fun l => (sumV l 0).rec .bad fun i => mkI i h | _ => .bad
def bSorted (h : EH) (as : List EV) : Out := match as with | [x] => (seqOf h x).rec .bad fun l => newL (sortV l) h | _ => .bad
def bList (h : EH) (as : List EV) : Out := match as with | [x] => newL (seqOf h x) h | _ => .bad
def bTuple (h : EH) (as : List EV) : Out := match as with | [x] => (seqOf h x).rec .bad fun l => .val (.tup l) h | _ => .bad
def bSet (h : EH) (as : List EV) : Out := match as with | [x] => (seqOf h x).rec .bad fun l => (uniq h l []).rec .bad fun l => .val (.ref h.n) (h.new (.set l)) | [] => .val (.ref h.n) (h.new (.set [])) | _ => .bad
def bDict (h : EH) (as : List EV) : Out := match as with | [x] => (seqOf h x).rec .bad fun l => (dictOf h l []).rec .bad fun l => .val (.ref h.n) (h.new (.dic l)) | _ => .bad
def in62 (i : Int) : Bool := Nat.blt i.natAbs 4611686018427387904
def bRange1 (h : EH) (as : List EV) : Out := match as with
  | [.int n] => (in62 n).rec .bad (.val (.rg 0 n.toNat) h)
  | _ => .bad
def bRange2 (h : EH) (as : List EV) : Out := match as with
  | [.int a, .int n] => (in62 a && in62 n).rec .bad (.val (.rg a (n - a).toNat) h)
  | _ => .bad
def isTup (v : EV) : Bool := match v with | .tup _ => true | _ => false
def isLst (h : EH) (v : EV) : Bool := match v with | .ref i => (match h.get i with | some (.lst _) => true | _ => false) | _ => false
def bEnum (h : EH) (as : List EV) : Out := match as with | [x] => (isLst h x).rec .bad (.val (.en x) h) | _ => .bad
def bZip (h : EH) (as : List EV) : Out := match as with | [x, y] => ((isTup x && isTup y) || (isLst h x && isLst h y)).rec .bad (.val (.zp x y) h) | _ => .bad
/-- tuple(range(..)), list(range(..)) -/
def rgT (h : EH) (v : EV) : Option (List EV) := match v with | .rg lo n => (Nat.ble n 1000000).rec none (some (rangeL n lo)) | _ => none
def bAbs (h : EH) (as : List EV) : Out := match as with | [x] => (isNum x).rec .bad fun i => .val (.int (.ofNat i.natAbs)) h | _ => .bad
def bInt (h : EH) (as : List EV) : Out := match as with | [x] => (isNum x).rec .bad fun i => mkI i h | _ => .bad
def bBool (h : EH) (as : List EV) : Out := match as with | [x] => optB (truth h x) h | _ => .bad
def mAppend (h : EH) (a : EV) (as : List EV) : Out := match a with
  | .ref r => match h.get r with
    | some (.lst es) => (match as with | [x] => .val .non (h.set r (.lst (es ++ [x]))) | _ => .bad)
    | _ => .bad
  | _ => .bad
def idxV (h : EH) (x : EV) (l : List EV) : Nat → Out := l.rec (fun _ => .bad) fun y _ ih k => (eqB h y x).rec .bad fun c => c.rec (ih (k + 1)) (.val (.int (.ofNat k)) h)
def mIndex (h : EH) (a : EV) (as : List EV) : Out := match as with | [x] => (seqOf h a).rec .bad fun l => idxV h x l 0 | _ => .bad
def dicOf (h : EH) (a : EV) : Option (Nat × List (EV × EV)) := match a with | .ref r => (match h.get r with | some (.dic kvs) => some (r, kvs) | _ => none) | _ => none
def mSetdefault (h : EH) (a : EV) (as : List EV) : Out := (dicOf h a).rec .bad fun p => match as with | [k, d] => (getD? h k p.2).rec .bad fun o => o.rec (.val d (h.set p.1 (.dic (p.2 ++ [(k, d)])))) fun v => .val v h | _ => .bad
def mGet (h : EH) (a : EV) (as : List EV) : Out := (dicOf h a).rec .bad fun p => match as with
  | [k, d] => (getD? h k p.2).rec .bad fun o => .val (o.getD d) h
  | [k] => (getD? h k p.2).rec .bad fun o => .val (o.getD .non) h
  | _ => .bad
def mItems (h : EH) (a : EV) (_ : List EV) : Out := (dicOf h a).rec .bad fun p => .val (.tup (p.2.map fun q => .tup [q.1, q.2])) h
def mKeys (h : EH) (a : EV) (_ : List EV) : Out := (dicOf h a).rec .bad fun p => .val (.tup (p.2.map fun q => q.1)) h
def mValues (h : EH) (a : EV) (_ : List EV) : Out := (dicOf h a).rec .bad fun p => .val (.tup (p.2.map fun q => q.2)) h
end RT
end
end
section
set_option Elab.async false
set_option linter.all false
set_option maxRecDepth 100000
namespace RT
open PySem PySem.Spec PyProof.Rows L2

/-! the tree -/
theorem beqT {i j : Nat} (h : i = j) : Nat.beq i j = true := by subst h; exact Nat.beq_refl i
theorem beqF {i j : Nat} (h : i ≠ j) : Nat.beq i j = false := by
  cases q : Nat.beq i j with
  | false => rfl
  | true => exact absurd (Nat.eq_of_beq_eq_true q) h
theorem Tr.get_nil (j : Nat) : Tr.get .nil j = none := rfl
theorem Tr.get_node (v l r j) : Tr.get (.node v l r) j = if j = 0 then v else if j % 2 = 1 then l.get (j / 2) else r.get (j / 2 - 1) := by
  show (Bool.rec (motive := fun _ => Option EO) (Bool.rec (motive := fun _ => Option EO) (r.get (j / 2 - 1)) (l.get (j / 2)) (Nat.beq (j % 2) 1)) v (Nat.beq j 0)) = _
  by_cases h : j = 0
  · rw [beqT h, if_pos h]
  · rw [beqF h, if_neg h]
    by_cases q : j % 2 = 1
    · rw [beqT q, if_pos q]
    · rw [beqF q, if_neg q]
theorem Tr.put_nil (n i o) : Tr.put (n + 1) .nil i o = if i = 0 then .node (some o) .nil .nil else if i % 2 = 1 then .node none (Tr.put n .nil (i / 2) o) .nil else .node none .nil (Tr.put n .nil (i / 2 - 1) o) := by
  show (Bool.rec (motive := fun _ => Tr) (Bool.rec (motive := fun _ => Tr) (Tr.node none .nil (Tr.put n .nil (i / 2 - 1) o)) (Tr.node none (Tr.put n .nil (i / 2) o) .nil) (Nat.beq (i % 2) 1)) (Tr.node (some o) .nil .nil) (Nat.beq i 0)) = _
  by_cases h : i = 0
  · rw [beqT h, if_pos h]
  · rw [beqF h, if_neg h]
    by_cases q : i % 2 = 1
    · rw [beqT q, if_pos q]
    · rw [beqF q, if_neg q]
theorem Tr.put_node (n v l r i o) : Tr.put (n + 1) (.node v l r) i o = if i = 0 then .node (some o) l r else if i % 2 = 1 then .node v (Tr.put n l (i / 2) o) r else .node v l (Tr.put n r (i / 2 - 1) o) := by
  show (Bool.rec (motive := fun _ => Tr) (Bool.rec (motive := fun _ => Tr) (Tr.node v l (Tr.put n r (i / 2 - 1) o)) (Tr.node v (Tr.put n l (i / 2) o) r) (Nat.beq (i % 2) 1)) (Tr.node (some o) l r) (Nat.beq i 0)) = _
  by_cases h : i = 0
  · rw [beqT h, if_pos h]
  · rw [beqF h, if_neg h]
    by_cases q : i % 2 = 1
    · rw [beqT q, if_pos q]
    · rw [beqF q, if_neg q]
theorem Tr.get_put : ∀ (n : Nat) (t : Tr) (i : Nat) (o : EO) (j : Nat), i < n → (Tr.put n t i o).get j = if j = i then some o else t.get j
  | 0, _, _, _, _, h => absurd h (Nat.not_lt_zero _)
  | n + 1, .nil, i, o, j, h => by
    rw [Tr.put_nil]
    by_cases hi : i = 0
    · rw [if_pos hi, Tr.get_node]
      by_cases hj : j = 0
      · rw [if_pos hj, if_pos (show j = i by omega)]
      · rw [if_neg hj, if_neg (show ¬ j = i by omega), Tr.get_nil, Tr.get_nil]; split <;> rfl
    · rw [if_neg hi]
      by_cases q : i % 2 = 1
      · rw [if_pos q, Tr.get_node]
        by_cases hj : j = 0
        · rw [if_pos hj, if_neg (show ¬ j = i by omega)]; rfl
        · rw [if_neg hj]
          by_cases p : j % 2 = 1
          · rw [if_pos p, Tr.get_put n _ _ _ _ (by omega)]
            by_cases e : j = i
            · rw [if_pos e, if_pos (by omega)]
            · rw [if_neg e, if_neg (by omega)]; rfl
          · rw [if_neg p, if_neg (show ¬ j = i by omega)]; rfl
      · rw [if_neg q, Tr.get_node]
        by_cases hj : j = 0
        · rw [if_pos hj, if_neg (show ¬ j = i by omega)]; rfl
        · rw [if_neg hj]
          by_cases p : j % 2 = 1
          · rw [if_pos p, if_neg (show ¬ j = i by omega)]; rfl
          · rw [if_neg p, Tr.get_put n _ _ _ _ (by omega)]
            by_cases e : j = i
            · rw [if_pos e, if_pos (by omega)]
            · rw [if_neg e, if_neg (by omega)]; rfl
  | n + 1, .node v l r, i, o, j, h => by
    rw [Tr.put_node]
    by_cases hi : i = 0
    · rw [if_pos hi, Tr.get_node, Tr.get_node]
      by_cases hj : j = 0
      · rw [if_pos hj, if_pos (show j = i by omega)]
      · rw [if_neg hj, if_neg (show ¬ j = i by omega), if_neg hj]
    · rw [if_neg hi]
      by_cases q : i % 2 = 1
      · rw [if_pos q, Tr.get_node, Tr.get_node]
        by_cases hj : j = 0
        · rw [if_pos hj, if_neg (show ¬ j = i by omega), if_pos hj]
        · rw [if_neg hj, if_neg hj]
          by_cases p : j % 2 = 1
          · rw [if_pos p, if_pos p, Tr.get_put n _ _ _ _ (by omega)]
            by_cases e : j = i
            · rw [if_pos e, if_pos (by omega)]
            · rw [if_neg e, if_neg (by omega)]
          · rw [if_neg p, if_neg p, if_neg (show ¬ j = i by omega)]
      · rw [if_neg q, Tr.get_node, Tr.get_node]
        by_cases hj : j = 0
        · rw [if_pos hj, if_neg (show ¬ j = i by omega), if_pos hj]
        · rw [if_neg hj, if_neg hj]
          by_cases p : j % 2 = 1
          · rw [if_pos p, if_pos p, if_neg (show ¬ j = i by omega)]
          · rw [if_neg p, if_neg p, Tr.get_put n _ _ _ _ (by omega)]
            by_cases e : j = i
            · rw [if_pos e, if_pos (by omega)]
            · rw [if_neg e, if_neg (by omega)]
theorem EH.get_new (h : EH) (o : EO) (j : Nat) : (h.new o).get j = if j = h.n then some o else h.get j := Tr.get_put _ _ _ _ _ (Nat.lt_succ_self _)
theorem EH.get_set (h : EH) (i : Nat) (o : EO) (j : Nat) : (h.set i o).get j = if j = i then some o else h.get j := Tr.get_put _ _ _ _ _ (Nat.lt_succ_self _)
theorem EH.n_new (h : EH) (o : EO) : (h.new o).n = h.n + 1 := rfl
theorem EH.n_set (h : EH) (i : Nat) (o : EO) : (h.set i o).n = h.n := rfl

/-! what the small machine's values mean -/
def tyN : Nat → Option String
  | 0 => some "int" | 1 => some "bool" | 2 => some "tuple" | 3 => some "list" | 4 => some "str" | 5 => some "dict" | 6 => some "LookupError" | 7 => some "ValueError" | 8 => some "KeyError" | 9 => some "IndexError" | _ => none
structure Kit where
  K : PySem.W.Frag
  fa : Nat → Option Addr
  ca : Nat → Option (Addr × List Str)
  tb : Addr → Prop
  inv : List Addr → Hp → Prop
  sl : L2.St → Prop
  fr : Nat → Bool
  cl : ∀ (σ : L2.St) (i : Nat) (v : Option V), fr i = true → sl σ → sl (σ.set i v)
  mon : ∀ ρ H ρ' H', inv ρ H → (∃ t, ρ' = ρ ++ t) → (∀ a vs, SqT K H a vs → SqT K H' a vs) → (∀ a fs, H a = some (.xd fs) → H' a = some (.xd fs)) → inv ρ' H'
mutual
inductive VR (S : Kit) (ρ : List Addr) (H : Hp) : EV → V → Prop
  | non : VR S ρ H .non .non
  | bl (b : Bool) : VR S ρ H (.bl b) (.bl b)
  | int (i : Int) : VR S ρ H (.int i) (.int i)
  | str (l : List Nat) : VR S ρ H (.str l) (.str ⟨l.toArray⟩)
  | tup {a : Addr} {vs : List V} {es : List EV} : SqT S.K H a vs → VRs S ρ H es vs → VR S ρ H (.tup es) (.ref a)
  | ref {i : Nat} {a : Addr} : ρ[i]? = some a → VR S ρ H (.ref i) (.ref a)
  | fn {i : Nat} {a : Addr} : S.fa i = some a → VR S ρ H (.fn i) (.ref a)
  | ty {n : Nat} {s : String} : tyN n = some s → VR S ρ H (.ty n) (.ty s)
  | cls {n : Nat} {a : Addr} {fs : List Str} : S.ca n = some (a, fs) → VR S ρ H (.ty (20 + n)) (.ref a)
  | opq (v : V) : VR S ρ H .opq v
inductive VRs (S : Kit) (ρ : List Addr) (H : Hp) : List EV → List V → Prop
  | nil : VRs S ρ H [] []
  | cons {e : EV} {es : List EV} {v : V} {vs : List V} : VR S ρ H e v → VRs S ρ H es vs → VRs S ρ H (e :: es) (v :: vs)
end
structure Le (S : Kit) (ρ : List Addr) (H : Hp) (ρ' : List Addr) (H' : Hp) : Prop where
  tup : ∀ a vs, SqT S.K H a vs → SqT S.K H' a vs
  pre : ∃ t, ρ' = ρ ++ t
theorem Le.refl {S ρ H} : Le S ρ H ρ H := ⟨fun _ _ h => h, [], by simp⟩
theorem Le.trans {S ρ H ρ1 H1 ρ2 H2} (a : Le S ρ H ρ1 H1) (b : Le S ρ1 H1 ρ2 H2) : Le S ρ H ρ2 H2 := by
  obtain ⟨t, rfl⟩ := a.pre
  obtain ⟨u, rfl⟩ := b.pre
  exact ⟨fun x vs h => b.tup x vs (a.tup x vs h), t ++ u, by simp⟩
theorem Le.at {S ρ H ρ' H'} (x : Le S ρ H ρ' H') {i : Nat} {a : Addr} (h : ρ[i]? = some a) : ρ'[i]? = some a := by
  obtain ⟨t, rfl⟩ := x.pre
  have hl := (List.getElem?_eq_some_iff.mp h).1
  rw [List.getElem?_append_left hl]; exact h
mutual
theorem VR.monoL {S : Kit} {ρ : List Addr} {H : Hp} {ρ' : List Addr} {H' : Hp} (x : Le S ρ H ρ' H') : ∀ {e : EV} {v : V}, VR S ρ H e v → VR S ρ' H' e v
  | _, _, .non => .non
  | _, _, .bl b => .bl b
  | _, _, .int i => .int i
  | _, _, .str l => .str l
  | _, _, .tup h r => .tup (x.tup _ _ h) (VRs.monoL x r)
  | _, _, .ref h => .ref (x.at h)
  | _, _, .fn h => .fn h
  | _, _, .ty h => .ty h
  | _, _, .cls h => .cls h
  | _, _, .opq v => .opq v
theorem VRs.monoL {S : Kit} {ρ : List Addr} {H : Hp} {ρ' : List Addr} {H' : Hp} (x : Le S ρ H ρ' H') : ∀ {es : List EV} {vs : List V}, VRs S ρ H es vs → VRs S ρ' H' es vs
  | _, _, .nil => .nil
  | _, _, .cons h r => .cons (VR.monoL x h) (VRs.monoL x r)
end
/-- .. and what is not numbered, but no table, stands as it stood -/
structure Ext (S : Kit) (ρ : List Addr) (H : Hp) (ρ' : List Addr) (H' : Hp) : Prop extends Le S ρ H ρ' H' where
  keep : ∀ a o, H a = some o → a ∉ ρ → (∀ ps, o ≠ .tbl ps) → H' a = some o ∧ a ∉ ρ'
theorem Ext.refl {S ρ H} : Ext S ρ H ρ H := ⟨.refl, fun _ _ h n _ => ⟨h, n⟩⟩
theorem Ext.trans {S ρ H ρ1 H1 ρ2 H2} (a : Ext S ρ H ρ1 H1) (b : Ext S ρ1 H1 ρ2 H2) : Ext S ρ H ρ2 H2 := ⟨a.toLe.trans b.toLe, fun x o h n t => by
  obtain ⟨h1, n1⟩ := a.keep x o h n t
  exact b.keep x o h1 n1 t⟩
theorem Ext.at {S ρ H ρ' H'} (x : Ext S ρ H ρ' H') {i : Nat} {a : Addr} (h : ρ[i]? = some a) : ρ'[i]? = some a := x.toLe.at h
theorem VR.mono {S : Kit} {ρ : List Addr} {H : Hp} {ρ' : List Addr} {H' : Hp} (x : Ext S ρ H ρ' H') {e : EV} {v : V} (r : VR S ρ H e v) : VR S ρ' H' e v := VR.monoL x.toLe r
theorem VRs.mono {S : Kit} {ρ : List Addr} {H : Hp} {ρ' : List Addr} {H' : Hp} (x : Ext S ρ H ρ' H') {e : List EV} {v : List V} (r : VRs S ρ H e v) : VRs S ρ' H' e v := VRs.monoL x.toLe r
theorem VRs.length {S ρ H} : ∀ {es : List EV} {vs : List V}, VRs S ρ H es vs → es.length = vs.length
  | _, _, .nil => rfl
  | _, _, .cons _ r => by rw [List.length_cons, List.length_cons, VRs.length r]
theorem VRs.append {S ρ H} : ∀ {es fs : List EV} {vs ws : List V}, VRs S ρ H es vs → VRs S ρ H fs ws → VRs S ρ H (es ++ fs) (vs ++ ws)
  | _, _, _, _, .nil, s => s
  | _, _, _, _, .cons h r, s => .cons h (VRs.append r s)
/-- what stands at a number -/
inductive OR (S : Kit) (ρ : List Addr) (H : Hp) : EO → HO → Prop
  | lst {es : List EV} {vs : List V} : VRs S ρ H es vs → OR S ρ H (.lst es) (.lst vs)
theorem OR.mono {S ρ H ρ' H'} (x : Le S ρ H ρ' H') {o : EO} {p : HO} (h : OR S ρ H o p) : OR S ρ' H' o p := by
  cases h with
  | lst h => exact .lst (h.monoL x)
structure Rep (S : Kit) (ρ : List Addr) (h : EH) (H : Hp) : Prop where
  nd : ρ.Nodup
  len : ρ.length = h.n
  there : ∀ a ∈ ρ, ∃ o, H a = some o ∧ ∀ ps, o ≠ .tbl ps
  tab : ∀ P, S.tb P → GxR.TabG H P
  inv : S.inv ρ H
  obj : ∀ i o, h.get i = some o → ∃ a p, ρ[i]? = some a ∧ H a = some p ∧ OR S ρ H o p
theorem OR.notbl {S ρ H o p} (h : OR S ρ H o p) : ∀ xs, p ≠ .tbl xs := by
  cases h with
  | lst h => intro xs z; cases z
theorem OR.noxd {S ρ H o p} (h : OR S ρ H o p) : ∀ xs, p ≠ .xd xs := by
  cases h with
  | lst h => intro xs z; cases z
theorem xd_upd {H : Hp} {p a : Addr} {o : HO} {fs : List (Str × V)} (hp : ∀ gs, H p ≠ some (.xd gs)) (h : H a = some (.xd fs)) : upd H p o a = some (.xd fs) := by
  rw [upd_ne (fun z : a = p => hp fs (by rw [← z]; exact h))]; exact h
theorem Rep.no {S ρ h H} (R : Rep S ρ h H) {a : Addr} (ha : a ∈ ρ) (z : H a = none) : False := by
  obtain ⟨o, e, _⟩ := R.there a ha
  rw [z] at e; cases e
theorem tabG_upd {H : Hp} {p P : Addr} {o : HO} (h : GxR.TabG H P) (hp : ∀ ps, H p ≠ some (.tbl ps)) : GxR.TabG (upd H p o) P := by
  obtain ⟨ps, e, t⟩ := h
  exact ⟨ps, by rw [upd_ne (fun z : P = p => hp ps (by rw [← z]; exact e))]; exact e, t⟩
theorem OR.notup {S ρ H o p} (h : OR S ρ H o p) : ∀ xs, p ≠ .tup xs := by
  cases h with
  | lst h => intro xs z; cases z
/-- a thing that is no tuple is changed, or anything new is laid: tuples stay -/
theorem sqt_upd {K : PySem.W.Frag} {H : Hp} {p : Addr} {o : HO} (hp : ∀ xs, ¬ Rd H p (.tup xs)) {a : Addr} {vs : List V} (h : SqT K H a vs) : SqT K (upd H p o) a vs := by
  rcases h with h | h
  · have ne : a ≠ p := fun z => hp vs (z ▸ h)
    rcases h with h | ⟨ob, h⟩
    · exact .inl (.inl (by rw [upd_ne ne]; exact h))
    · exact .inl (.inr ⟨ob, by rw [upd_ne ne]; exact h⟩)
  · exact .inr h
theorem nord {H : Hp} {p : Addr} (h : H p = none) (u : HO) : ¬ Rd H p u := by
  rintro (q | ⟨o, q⟩) <;> rw [h] at q <;> cases q
theorem Le.upd {S ρ H} {p : Addr} {o : HO} (hp : ∀ xs, ¬ Rd H p (.tup xs)) (t : List Addr) : Le S ρ H (ρ ++ t) (upd H p o) := ⟨fun _ _ h => sqt_upd hp h, t, rfl⟩
theorem Ext.new {S ρ H} {p : Addr} {o : HO} (hp : H p = none) : Ext S ρ H (ρ ++ [p]) (upd H p o) := ⟨Le.upd (fun xs => nord hp _) [p], fun a u h n _ => by
  have ne : a ≠ p := ne_of_none h hp
  exact ⟨by rw [upd_ne ne]; exact h, fun m => (List.mem_append.mp m).elim n fun q => ne (List.mem_singleton.mp q)⟩⟩
theorem Ext.new0 {S ρ H} {p : Addr} {o : HO} (hp : H p = none) : Ext S ρ H ρ (upd H p o) := ⟨by simpa using Le.upd (S := S) (ρ := ρ) (o := o) (fun xs => nord (H := H) hp (.tup xs)) [], fun a u h n _ => ⟨by rw [upd_ne (ne_of_none h hp)]; exact h, n⟩⟩
/-- a new thing that the small machine does not number (a tuple) -/
theorem Rep.laid {S ρ h H} (R : Rep S ρ h H) {p : Addr} {o : HO} (hp : H p = none) : Rep S ρ h (upd H p o) := by
  refine ⟨R.nd, R.len, fun a ha => ?_, fun P t => tabG_upd (R.tab P t) (fun ps z => by rw [hp] at z; cases z), S.mon _ _ _ _ R.inv (Ext.new0 (S := S) (ρ := ρ) (o := o) hp).toLe.pre (Ext.new0 (S := S) (ρ := ρ) (o := o) hp).toLe.tup (fun a fs e => xd_upd (fun gs z => by rw [hp] at z; cases z) e), fun i ob e => ?_⟩
  · obtain ⟨u, e, n⟩ := R.there a ha
    exact ⟨u, by rw [upd_ne (ne_of_none e hp)]; exact e, n⟩
  · obtain ⟨a, q, ha, hq, r⟩ := R.obj i ob e
    refine ⟨a, q, ha, ?_, r.mono (Ext.new0 hp).toLe⟩
    rw [upd_ne (ne_of_none hq hp)]; exact hq
theorem Rep.mem {S ρ h H} (R : Rep S ρ h H) {i : Nat} {o : EO} (e : h.get i = some o) : i < ρ.length := by
  obtain ⟨a, _, ha, _⟩ := R.obj i o e
  exact (List.getElem?_eq_some_iff.mp ha).1
/-- a new numbered one -/
theorem Rep.new {S ρ h H} (R : Rep S ρ h H) {p : Addr} {o : EO} {ho : HO} (hp : H p = none) (r : OR S ρ H o ho) : Rep S (ρ ++ [p]) (h.new o) (upd H p ho) := by
  have x : Ext S ρ H (ρ ++ [p]) (upd H p ho) := Ext.new hp
  have hn : p ∉ ρ := fun hm => R.no hm hp
  refine ⟨List.nodup_append.mpr ⟨R.nd, by simp, fun a ha b hb z => ?_⟩, by rw [List.length_append, R.len]; rfl, fun a ha => ?_, fun P t => tabG_upd (R.tab P t) (fun ps z => by rw [hp] at z; cases z), S.mon _ _ _ _ R.inv x.toLe.pre x.toLe.tup (fun a fs e => xd_upd (fun gs z => by rw [hp] at z; cases z) e), fun i ob e => ?_⟩
  · have : b = p := by simpa using hb
    subst this; subst z; exact hn ha
  · rcases List.mem_append.mp ha with ha | ha
    · obtain ⟨u, e, n⟩ := R.there a ha
      exact ⟨u, by rw [upd_ne (ne_of_none e hp)]; exact e, n⟩
    · rw [List.mem_singleton.mp ha]
      exact ⟨ho, upd_same, r.notbl⟩
  · rw [EH.get_new] at e
    by_cases hi : i = h.n
    · rw [if_pos hi] at e
      cases e
      refine ⟨p, ho, ?_, upd_same, r.mono x.toLe⟩
      rw [List.getElem?_append_right (by rw [R.len, hi]; exact Nat.le_refl _), R.len, hi]; simp
    · rw [if_neg hi] at e
      obtain ⟨a, q, ha, hq, r⟩ := R.obj i ob e
      refine ⟨a, q, x.at ha, ?_, r.mono x.toLe⟩
      rw [upd_ne (ne_of_none hq hp)]; exact hq
/-- a thing that is not numbered is changed -/
theorem Rep.updU {S ρ h H} (R : Rep S ρ h H) {p : Addr} {o : HO} (hn : p ∉ ρ) (hp : ∀ xs, ¬ Rd H p (.tup xs)) (hq : ∀ ps, H p ≠ some (.tbl ps)) (hx : ∀ fs, H p ≠ some (.xd fs)) : Rep S ρ h (upd H p o) := by
  have x : Le S ρ H ρ (upd H p o) := by simpa using Le.upd (S := S) (ρ := ρ) (o := o) hp []
  refine ⟨R.nd, R.len, fun a ha => ?_, fun P t => tabG_upd (R.tab P t) hq, S.mon _ _ _ _ R.inv x.pre x.tup (fun a fs e => xd_upd hx e), fun i ob e => ?_⟩
  · obtain ⟨u, e, n⟩ := R.there a ha
    exact ⟨u, by rw [upd_ne (fun z : a = p => hn (by rw [← z]; exact ha))]; exact e, n⟩
  · obtain ⟨a, q, ha, hq, r⟩ := R.obj i ob e
    have ne : a ≠ p := fun z => hn (z ▸ List.mem_of_getElem? ha)
    exact ⟨a, q, ha, by rw [upd_ne ne]; exact hq, r.mono x⟩
theorem Ext.updD {S ρ1 H1 ρ H} (x : Ext S ρ1 H1 ρ H) {p : Addr} {o : HO} (h1 : H1 p = none) (hp : ∀ xs, ¬ Rd H p (.tup xs)) : Ext S ρ1 H1 ρ (upd H p o) := by
  refine ⟨x.toLe.trans (by simpa using Le.upd (S := S) (ρ := ρ) (o := o) hp []), fun a u h n t => ?_⟩
  obtain ⟨h2, n2⟩ := x.keep a u h n t
  exact ⟨by rw [upd_ne (ne_of_none h h1)]; exact h2, n2⟩
theorem nolst {H : Hp} {p : Addr} {vs : List V} (h : H p = some (.lst vs)) (xs : List V) : ¬ Rd H p (.tup xs) := by
  rintro (q | ⟨o, q⟩) <;> rw [h] at q <;> cases q
/-- a thing gets its number -/
theorem Rep.num {S ρ h H} (R : Rep S ρ h H) {p : Addr} {o : EO} {ho : HO} (hp : H p = some ho) (hn : p ∉ ρ) (r : OR S ρ H o ho) : Rep S (ρ ++ [p]) (h.new o) H := by
  have x : Le S ρ H (ρ ++ [p]) H := ⟨fun _ _ h => h, [p], rfl⟩
  refine ⟨List.nodup_append.mpr ⟨R.nd, by simp, fun a ha b hb z => ?_⟩, by rw [List.length_append, R.len]; rfl, fun a ha => ?_, R.tab, S.mon _ _ _ _ R.inv x.pre x.tup (fun _ _ e => e), fun i ob e => ?_⟩
  · have : b = p := by simpa using hb
    subst this; subst z; exact hn ha
  · rcases List.mem_append.mp ha with ha | ha
    · exact R.there a ha
    · rw [List.mem_singleton.mp ha]
      exact ⟨ho, hp, r.notbl⟩
  · rw [EH.get_new] at e
    by_cases hi : i = h.n
    · rw [if_pos hi] at e
      cases e
      refine ⟨p, ho, ?_, hp, r.mono x⟩
      rw [List.getElem?_append_right (by rw [R.len, hi]; exact Nat.le_refl _), R.len, hi]; simp
    · rw [if_neg hi] at e
      obtain ⟨a, q, ha, hq, r⟩ := R.obj i ob e
      exact ⟨a, q, x.at ha, hq, r.mono x⟩
theorem nolst' {H : Hp} {p : Addr} {vs : List V} (h : H p = some (.lst vs)) (ps : Array Value) : H p ≠ some (.tbl ps) := by
  rw [h]; intro z; cases z
theorem nolst2 {H : Hp} {p : Addr} {vs : List V} (h : H p = some (.lst vs)) (fs : List (Str × V)) : H p ≠ some (.xd fs) := by
  rw [h]; intro z; cases z
/-- a table has grown -/
theorem Rep.grown {S ρ h H} (R : Rep S ρ h H) {P : Addr} {ps qs : Array Value} (hP : H P = some (.tbl ps)) (ht : TriplesOk qs.toList) : Rep S ρ h (upd H P (.tbl qs)) := by
  have hn : P ∉ ρ := fun hm => by
    obtain ⟨o, e, n⟩ := R.there P hm
    rw [hP] at e
    exact n ps (Option.some.inj e).symm
  have nt : ∀ xs, ¬ Rd H P (.tup xs) := fun xs => by
    rintro (q | ⟨o, q⟩) <;> rw [hP] at q <;> cases q
  have x : Le S ρ H ρ (upd H P (.tbl qs)) := by simpa using Le.upd (S := S) (ρ := ρ) (o := .tbl qs) nt []
  refine ⟨R.nd, R.len, fun a ha => ?_, fun Q t => ?_, S.mon _ _ _ _ R.inv x.pre x.tup (fun a fs e => xd_upd (fun gs z => by rw [hP] at z; cases z) e), fun i ob e => ?_⟩
  · obtain ⟨u, e, n⟩ := R.there a ha
    exact ⟨u, by rw [upd_ne (fun z : a = P => hn (by rw [← z]; exact ha))]; exact e, n⟩
  · by_cases q : Q = P
    · subst q; exact ⟨qs, upd_same, ht⟩
    · obtain ⟨us, e, t2⟩ := R.tab Q t
      exact ⟨us, by rw [upd_ne q]; exact e, t2⟩
  · obtain ⟨a, q, ha, hq, r⟩ := R.obj i ob e
    have ne : a ≠ P := fun z => hn (z ▸ List.mem_of_getElem? ha)
    exact ⟨a, q, ha, by rw [upd_ne ne]; exact hq, r.mono x⟩
theorem Ext.grown {S ρ H} {P : Addr} {ps qs : Array Value} (hP : H P = some (.tbl ps)) : Ext S ρ H ρ (upd H P (.tbl qs)) := by
  have nt : ∀ xs, ¬ Rd H P (.tup xs) := fun xs => by
    rintro (q | ⟨o, q⟩) <;> rw [hP] at q <;> cases q
  refine ⟨by simpa using Le.upd (S := S) (ρ := ρ) (o := .tbl qs) nt [], fun a u h n t => ⟨?_, n⟩⟩
  have ne : a ≠ P := fun z => by subst z; rw [hP] at h; exact t ps (Option.some.inj h).symm
  rw [upd_ne ne]; exact h
end RT
end
section
set_option Elab.async false
set_option linter.all false
set_option maxRecDepth 100000
set_option maxHeartbeats 1000000
namespace RT
open PySem PySem.Spec PyProof.Rows L2

abbrev St := L2.St
theorem nth_eq {α : Type} : ∀ (l : List α) (i : Nat), nth l i = l[i]?
  | [], i => by simp [nth]
  | x :: r, 0 => rfl
  | x :: r, i + 1 => by
    show nth r i = _
    rw [nth_eq r i]; simp
theorem setN_eq {α : Type} (v : α) : ∀ (l : List α) (i : Nat), setN l v i = l.set i v
  | [], i => rfl
  | x :: r, 0 => rfl
  | x :: r, i + 1 => by
    show x :: setN r v i = _
    rw [setN_eq v r i]; rfl

/-- an error as the small machine holds it -/
inductive ER (S : Kit) (ρ : List Addr) (H : Hp) : EV → Value → Option Addr → Prop
  | mk0 {c : Nat} {C : Addr} : S.ca c = some (C, []) → ER S ρ H (.exc c []) (.ref C) none
  | mk1 {c : Nat} {C d : Addr} {f : Str} {e : EV} {v : V} : S.ca c = some (C, [f]) → H d = some (.xd [(f, v)]) → VR S ρ H e v → ER S ρ H (.exc c [e]) (.ref C) (some d)
abbrev XW := Value → Option Addr → Hp → Prop
def PoE (S : Kit) (W : XW) (Q : VK) (ρ : List Addr) (H : Hp) : Out → Prop
  | .val v h => ∀ ρ' H' v', Ext S ρ H ρ' H' → Rep S ρ' h H' → VR S ρ' H' v v' → Q v' H'
  | .exc e h => ∀ ρ' H' c d, Ext S ρ H ρ' H' → Rep S ρ' h H' → ER S ρ' H' e c d → W c d H'
  | .bad => False
def PoL (S : Kit) (W : XW) (Q : List V → Hp → Prop) (ρ : List Addr) (H : Hp) : OutL → Prop
  | .vals v h => ∀ ρ' H' v', Ext S ρ H ρ' H' → Rep S ρ' h H' → VRs S ρ' H' v v' → Q v' H'
  | .exc e h => ∀ ρ' H' c d, Ext S ρ H ρ' H' → Rep S ρ' h H' → ER S ρ' H' e c d → W c d H'
  | .bad => False
/-- a test's answer -/
def PoT (S : Kit) (W : XW) (Q : Bool → Hp → Prop) (ρ : List Addr) (H : Hp) : Out → Prop
  | .val v h => ∃ c, truth h v = some c ∧ ∀ ρ' H', Ext S ρ H ρ' H' → Rep S ρ' h H' → Q c H'
  | .exc e h => ∀ ρ' H' c d, Ext S ρ H ρ' H' → Rep S ρ' h H' → ER S ρ' H' e c d → W c d H'
  | .bad => False
section
variable {S : Kit} {W : XW} {ρ ρ1 : List Addr} {H H1 : Hp}
theorem PoE.from {Q : VK} {o : Out} (x : Ext S ρ H ρ1 H1) (p : PoE S W Q ρ H o) : PoE S W Q ρ1 H1 o := by
  cases o with
  | val v h => exact fun a b c e r q => p a b c (x.trans e) r q
  | exc v h => exact fun a b c d e r q => p a b c d (x.trans e) r q
  | bad => exact p
theorem PoL.from {Q : List V → Hp → Prop} {o : OutL} (x : Ext S ρ H ρ1 H1) (p : PoL S W Q ρ H o) : PoL S W Q ρ1 H1 o := by
  cases o with
  | vals v h => exact fun a b c e r q => p a b c (x.trans e) r q
  | exc v h => exact fun a b c d e r q => p a b c d (x.trans e) r q
  | bad => exact p
theorem PoT.from {Q : Bool → Hp → Prop} {o : Out} (x : Ext S ρ H ρ1 H1) (p : PoT S W Q ρ H o) : PoT S W Q ρ1 H1 o := by
  cases o with
  | val v h =>
    obtain ⟨c, e, p⟩ := p
    exact ⟨c, e, fun a b e r => p a b (x.trans e) r⟩
  | exc v h => exact fun a b c d e r q => p a b c d (x.trans e) r q
  | bad => exact p
theorem PoE.then {Q : VK} {o : Out} {k : EV → EH → Out} (p : PoE S W Q ρ H (o.then k)) :
    PoE S W (fun x' H1 => ∃ ρ1 h1 x, Ext S ρ H ρ1 H1 ∧ Rep S ρ1 h1 H1 ∧ VR S ρ1 H1 x x' ∧ PoE S W Q ρ1 H1 (k x h1)) ρ H o := by
  cases o with
  | val v h => exact fun a b c e r q => ⟨a, h, v, e, r, q, PoE.from e p⟩
  | exc v h => exact p
  | bad => exact p
theorem PoE.thenL {Q : List V → Hp → Prop} {o : Out} {k : EV → EH → OutL} (p : PoL S W Q ρ H (o.thenL k)) :
    PoE S W (fun x' H1 => ∃ ρ1 h1 x, Ext S ρ H ρ1 H1 ∧ Rep S ρ1 h1 H1 ∧ VR S ρ1 H1 x x' ∧ PoL S W Q ρ1 H1 (k x h1)) ρ H o := by
  cases o with
  | val v h => exact fun a b c e r q => ⟨a, h, v, e, r, q, PoL.from e p⟩
  | exc v h => exact p
  | bad => exact p
theorem PoL.then {Q : VK} {o : OutL} {k : List EV → EH → Out} (p : PoE S W Q ρ H (o.then k)) :
    PoL S W (fun x' H1 => ∃ ρ1 h1 x, Ext S ρ H ρ1 H1 ∧ Rep S ρ1 h1 H1 ∧ VRs S ρ1 H1 x x' ∧ PoE S W Q ρ1 H1 (k x h1)) ρ H o := by
  cases o with
  | vals v h => exact fun a b c e r q => ⟨a, h, v, e, r, q, PoE.from e p⟩
  | exc v h => exact p
  | bad => exact p
theorem PoL.thenL {Q : List V → Hp → Prop} {o : OutL} {k : List EV → EH → OutL} (p : PoL S W Q ρ H (o.thenL k)) :
    PoL S W (fun x' H1 => ∃ ρ1 h1 x, Ext S ρ H ρ1 H1 ∧ Rep S ρ1 h1 H1 ∧ VRs S ρ1 H1 x x' ∧ PoL S W Q ρ1 H1 (k x h1)) ρ H o := by
  cases o with
  | vals v h => exact fun a b c e r q => ⟨a, h, v, e, r, q, PoL.from e p⟩
  | exc v h => exact p
  | bad => exact p
theorem PoT.then {Q : Bool → Hp → Prop} {o : Out} {k : EV → EH → Out} (p : PoT S W Q ρ H (o.then k)) :
    PoE S W (fun x' H1 => ∃ ρ1 h1 x, Ext S ρ H ρ1 H1 ∧ Rep S ρ1 h1 H1 ∧ VR S ρ1 H1 x x' ∧ PoT S W Q ρ1 H1 (k x h1)) ρ H o := by
  cases o with
  | val v h => exact fun a b c e r q => ⟨a, h, v, e, r, q, PoT.from e p⟩
  | exc v h => exact p
  | bad => exact p
theorem PoE.imp {Q Q' : VK} {o : Out} (p : PoE S W Q ρ H o) (i : ∀ v H, Q v H → Q' v H) : PoE S W Q' ρ H o := by
  cases o with
  | val v h => exact fun a b c e r q => i _ _ (p a b c e r q)
  | exc v h => exact p
  | bad => exact p
theorem PoL.imp {Q Q' : List V → Hp → Prop} {o : OutL} (p : PoL S W Q ρ H o) (i : ∀ v H, Q v H → Q' v H) : PoL S W Q' ρ H o := by
  cases o with
  | vals v h => exact fun a b c e r q => i _ _ (p a b c e r q)
  | exc v h => exact p
  | bad => exact p
theorem PoT.imp {Q Q' : Bool → Hp → Prop} {o : Out} (p : PoT S W Q ρ H o) (i : ∀ v H, Q v H → Q' v H) : PoT S W Q' ρ H o := by
  cases o with
  | val v h =>
    obtain ⟨c, e, p⟩ := p
    exact ⟨c, e, fun a b e r => i _ _ (p a b e r)⟩
  | exc v h => exact p
  | bad => exact p
theorem PoE.val {Q : VK} {v : EV} {h : EH} {v' : V} (R : Rep S ρ h H) (r : VR S ρ H v v') (p : PoE S W Q ρ H (.val v h)) : Q v' H := p ρ H v' .refl R r
end
/-- the slots -/
structure SR (S : Kit) (ρ : List Addr) (H : Hp) (τ : ES) (σ : St) : Prop where
  len : τ.length = σ.length
  sl : S.sl σ
  at' : ∀ (i : Nat) (e : EV), τ[i]? = some (some e) → ∃ v, σ[i]? = some (some v) ∧ VR S ρ H e v
theorem SR.mono {S ρ H ρ' H' τ σ} (x : Ext S ρ H ρ' H') (s : SR S ρ H τ σ) : SR S ρ' H' τ σ := ⟨s.len, s.sl, fun i e h => by
  obtain ⟨v, h1, h2⟩ := s.at' i e h
  exact ⟨v, h1, h2.mono x⟩⟩
theorem SR.set {S ρ H τ σ} (s : SR S ρ H τ σ) (i : Nat) (hfr : S.fr i = true) {e : EV} {v : V} (r : VR S ρ H e v) : SR S ρ H (setN τ (some e) i) (σ.set i (some v)) := by
  rw [setN_eq]
  refine ⟨by rw [List.length_set, List.length_set]; exact s.len, S.cl _ _ _ hfr s.sl, fun j f h => ?_⟩
  by_cases q : i = j
  · subst q
    have hl : i < τ.length := by
      have := (List.getElem?_eq_some_iff.mp h).1
      rw [List.length_set] at this; exact this
    rw [List.getElem?_set_self hl] at h
    cases h
    exact ⟨v, List.getElem?_set_self (s.len ▸ hl), r⟩
  · rw [List.getElem?_set_ne q] at h
    obtain ⟨w, h1, h2⟩ := s.at' j f h
    exact ⟨w, by rw [List.getElem?_set_ne q]; exact h1, h2⟩

/-! readings -/
abbrev at0 (W : WX) (σ : St) : XW := fun c d H => W c d σ H
def TM (S : Kit) (W : WX) (m : M) : TE := fun σ H Q => ∃ ρ τ h, Rep S ρ h H ∧ SR S ρ H τ σ ∧ PoE S (at0 W σ) Q ρ H (m τ h)
def TL (S : Kit) (W : WX) (m : ML) : TA := fun σ H Q => ∃ ρ τ h, Rep S ρ h H ∧ SR S ρ H τ σ ∧ PoL S (at0 W σ) Q ρ H (m τ h)
def TT' (S : Kit) (W : WX) (m : M) : TT := fun σ H Q => ∃ ρ τ h, Rep S ρ h H ∧ SR S ρ H τ σ ∧ PoT S (at0 W σ) Q ρ H (m τ h)
theorem PE.imp {X : Cx} {e : Expr} {t t' : TE} (p : PE X e t) (h : ∀ σ H Q, t' σ H Q → t σ H Q) : PE X e t' := ⟨fun pins s σ H Q I q => p.run pins s σ H Q I (h _ _ _ q)⟩
theorem PT.imp {X : Cx} {e : Expr} {t t' : TT} (p : PT X e t) (h : ∀ σ H Q, t' σ H Q → t σ H Q) : PT X e t' := ⟨fun pins s σ H Q I q => p.run pins s σ H Q I (h _ _ _ q)⟩
theorem PW.imp {X : Cx} {e : Expr} {t t' : TT} (p : PW X e t) (h : ∀ σ H Q, t' σ H Q → t σ H Q) : PW X e t' := ⟨fun wh pins s σ H Q I q => p.run wh pins s σ H Q I (h _ _ _ q)⟩
theorem PA.imp {X : Cx} {e : List Expr} {t t' : TA} (p : PA X e t) (h : ∀ σ H Q, t' σ H Q → t σ H Q) : PA X e t' := ⟨fun pos pins s σ H Q I q => p.run pos pins s σ H Q I (h _ _ _ q)⟩
theorem PS.imp {X : Cx} {e : Stmt} {t t' : TS} (p : PS X e t) (h : ∀ D σ H, t' D σ H → t D σ H) : PS X e t' := ⟨fun pins s σ H Q I q => p.run pins s σ H Q I (h _ _ _ q)⟩
theorem PSs.imp {X : Cx} {e : List Stmt} {t t' : TS} (p : PSs X e t) (h : ∀ D σ H, t' D σ H → t D σ H) : PSs X e t' := ⟨fun pins s σ H Q I q => p.run pins s σ H Q I (h _ _ _ q)⟩

section
variable {X : Cx} {S : Kit} {W : WX} {pos : Pos} {a b c : Expr} {ma mb mc : M} {es : List Expr} {ml : ML}
/-- a name -/
theorem x_var (i : Nat) {x : Str} (hN : X.N[i]? = some x := by rfl) (hv : Vis X.env.scope x := by first | exact Or.inl rfl | exact Or.inr (Or.inl rfl) | exact Or.inr (Or.inr rfl)) (hd : (x == ("__debug__" : Str)) = false := by decide)
    (hcd : (x == ("__classdict__" : Str)) = false := by decide) : PE X (.Name x pos) (TM S W (xVar i)) := by
  refine PE.imp (pe_var hN hv hd hcd) fun σ H Q ⟨ρ, τ, h, R, s, p⟩ => ?_
  have p' : PoE S (at0 W σ) Q ρ H ((nth τ i).rec .bad fun o => opt o h) := p
  rw [nth_eq] at p'
  cases e : τ[i]? with
  | none => rw [e] at p'; exact False.elim p'
  | some o =>
    cases o with
    | none => rw [e] at p'; exact False.elim p'
    | some v =>
      rw [e] at p'
      obtain ⟨u, h1, h2⟩ := s.at' i v e
      exact ⟨u, h1, PoE.val R h2 p'⟩
theorem x_int {i : Int} {j : Nat} : PE X (.Constant (.int i) j pos) (TM S W (xCst (.int i))) := PE.imp pe_int fun σ H Q ⟨ρ, τ, h, R, s, p⟩ => PoE.val R (.int i) p
theorem x_bl {i : Bool} {j : Nat} : PE X (.Constant (.bool i) j pos) (TM S W (xCst (.bl i))) := PE.imp pe_bl fun σ H Q ⟨ρ, τ, h, R, s, p⟩ => PoE.val R (.bl i) p
theorem x_non {j : Nat} : PE X (.Constant .none j pos) (TM S W (xCst .non)) := PE.imp pe_non fun σ H Q ⟨ρ, τ, h, R, s, p⟩ => PoE.val R .non p
theorem x_str {x : Str} {l : List Nat} {j : Nat} (hx : x = ⟨l.toArray⟩) : PE X (.Constant (.str x) j pos) (TM S W (xCst (.str l))) := PE.imp pe_str fun σ H Q ⟨ρ, τ, h, R, s, p⟩ => by
  subst hx
  exact PoE.val R (.str l) p
theorem x_fn {x : Str} {i : Nat} {f : Addr} (hf : S.fa i = some f) (hg : Gl X x) (hm : X.mg x = some (.ref f)) (hd : (x == ("__debug__" : Str)) = false := by decide) : PE X (.Name x pos) (TM S W (xCst (.fn i))) :=
  PE.imp (pe_glob (v := .ref f) hg hm rfl hd) fun σ H Q ⟨ρ, τ, h, R, s, p⟩ => PoE.val R (.fn hf) p
theorem x_cls {x : Str} {i : Nat} {f : Addr} {fs : List Str} (hf : S.ca i = some (f, fs)) (hg : Gl X x) (hm : X.mg x = some (.ref f)) (hd : (x == ("__debug__" : Str)) = false := by decide) : PE X (.Name x pos) (TM S W (xCst (.ty (20 + i)))) :=
  PE.imp (pe_glob (v := .ref f) hg hm rfl hd) fun σ H Q ⟨ρ, τ, h, R, s, p⟩ => PoE.val R (.cls hf) p
theorem x_ty {x : Str} {n : Nat} {T : String} (hn : tyN n = some T) (hg : Gl X x) (hm : X.mg x = none) (hv : bootBuiltins x = some (.type T)) (hnn : x ≠ "__name__" := by decide) (hd : (x == ("__debug__" : Str)) = false := by decide) : PE X (.Name x pos) (TM S W (xCst (.ty n))) :=
  PE.imp (pe_bltn (v := .ty T) hg hm hv rfl hnn hd) fun σ H Q ⟨ρ, τ, h, R, s, p⟩ => PoE.val R (.ty hn) p

/-- what a value's function must do for an operator's rule -/
def VOp (S : Kit) (f : EH → EV → EV → Out) (r : R2) : Prop := ∀ (W : XW) (Q : VK) (ρ : List Addr) (H : Hp) (h : EH) (x y : EV) (x' y' : V), Rep S ρ h H → VR S ρ H x x' → VR S ρ H y y' → PoE S W Q ρ H (f h x y) → r x' y' H Q
def VCm (S : Kit) (f : EH → EV → EV → Option Bool) (r : R2) : Prop := ∀ (Q : VK) (ρ : List Addr) (H : Hp) (h : EH) (x y : EV) (x' y' : V) (c : Bool), Rep S ρ h H → VR S ρ H x x' → VR S ρ H y y' → f h x y = some c → Q (.bl c) H → r x' y' H Q
theorem two {f : EH → EV → EV → Out} {r : R2} (hf : VOp S f r) {σ : St} {H : Hp} {Q : VK} (t : TM S W (xBin f ma mb) σ H Q) : tOp r (TM S W ma) (TM S W mb) σ H Q := by
  obtain ⟨ρ, τ, h, R, s, p⟩ := t
  refine ⟨ρ, τ, h, R, s, PoE.imp (PoE.then (o := ma τ h) p) ?_⟩
  rintro x' H1 ⟨ρ1, h1, x, e1, R1, r1, p1⟩
  refine ⟨ρ1, τ, h1, R1, s.mono e1, PoE.imp (PoE.then (o := mb τ h1) p1) ?_⟩
  rintro y' H2 ⟨ρ2, h2, y, e2, R2, r2, p2⟩
  exact hf _ _ _ _ _ _ _ _ _ R2 (r1.mono e2) r2 p2
theorem twoC {f : EH → EV → EV → Option Bool} {r : R2} (hf : VCm S f r) {σ : St} {H : Hp} {Q : VK} (t : TM S W (xCmp f ma mb) σ H Q) : tOp r (TM S W ma) (TM S W mb) σ H Q := by
  obtain ⟨ρ, τ, h, R, s, p⟩ := t
  refine ⟨ρ, τ, h, R, s, PoE.imp (PoE.then (o := ma τ h) p) ?_⟩
  rintro x' H1 ⟨ρ1, h1, x, e1, R1, r1, p1⟩
  refine ⟨ρ1, τ, h1, R1, s.mono e1, PoE.imp (PoE.then (o := mb τ h1) p1) ?_⟩
  rintro y' H2 ⟨ρ2, h2, y, e2, R2, r2, p2⟩
  cases q : f h2 x y with
  | none => rw [q] at p2; exact False.elim p2
  | some c =>
    rw [q] at p2
    exact hf _ _ _ _ _ _ _ _ _ R2 (r1.mono e2) r2 q (PoE.val R2 (.bl c) p2)
/-- .. as a test -/
theorem twoT {f : EH → EV → EV → Option Bool} {r : R2} (hf : VCm S f r) {σ : St} {H : Hp} {Q : Bool → Hp → Prop} (t : TT' S W (xCmp f ma mb) σ H Q) : tTest (tOp r (TM S W ma) (TM S W mb)) σ H Q := by
  obtain ⟨ρ, τ, h, R, s, p⟩ := t
  refine ⟨ρ, τ, h, R, s, PoE.imp (PoT.then (o := ma τ h) p) ?_⟩
  rintro x' H1 ⟨ρ1, h1, x, e1, R1, r1, p1⟩
  refine ⟨ρ1, τ, h1, R1, s.mono e1, PoE.imp (PoT.then (o := mb τ h1) p1) ?_⟩
  rintro y' H2 ⟨ρ2, h2, y, e2, R2, r2, p2⟩
  cases q : f h2 x y with
  | none => rw [q] at p2; exact False.elim p2
  | some c =>
    rw [q] at p2
    obtain ⟨d, ed, p2⟩ := p2
    have ed' : some c = some d := ed
    cases ed'
    exact hf _ _ _ _ _ _ _ _ _ R2 (r1.mono e2) r2 q ⟨c, rfl, p2 ρ2 H2 .refl R2⟩
theorem x_bin {op : Operator} {f : EH → EV → EV → Out} {r : R2} (ho : OpR X (binaryOp op) r) (hf : VOp S f r) (ha : PE X a (TM S W ma)) (hb : PE X b (TM S W mb)) : PE X (.BinOp a op b pos) (TM S W (xBin f ma mb)) := PE.imp (pe_op ho ha hb) fun _ _ _ => two hf
theorem x_cmp {op : CmpOp} {f : EH → EV → EV → Option Bool} {r : R2} (ho : OpR X (compareOp op) r) (hf : VCm S f r) (hm : behindInMarks op b = false) (ha : PE X a (TM S W ma)) (hb : PE X b (TM S W mb)) : PE X (.Compare a [op] [b] pos) (TM S W (xCmp f ma mb)) :=
  PE.imp (pe_cmpR ho ha hb hm) fun _ _ _ => twoC hf
theorem t_cmp {op : CmpOp} {f : EH → EV → EV → Option Bool} {r : R2} (ho : OpR X (compareOp op) r) (hf : VCm S f r) (hm : behindInMarks op b = false) (ha : PE X a (TM S W ma)) (hb : PE X b (TM S W mb)) : PT X (.Compare a [op] [b] pos) (TT' S W (xCmp f ma mb)) :=
  PT.imp (pt_cmpR ho ha hb hm) fun _ _ _ => twoT hf
/-! rows of arguments, displays -/
theorem l_nil : PA X [] (TL S W lNil) := PA.imp pa_nil fun σ H Q ⟨ρ, τ, h, R, s, p⟩ => p ρ H [] .refl R .nil
theorem l_cons (ha : PE X a (TM S W ma)) (hr : PA X es (TL S W ml)) (hs : starEach (a :: es) X.env = (false, eval a X.env) :: starEach es X.env := by rfl) : PA X (a :: es) (TL S W (lCons ma ml)) := by
  refine PA.imp (pa_cons ha hr hs) fun σ H Q ⟨ρ, τ, h, R, s, p⟩ => ?_
  refine ⟨ρ, τ, h, R, s, PoE.imp (PoE.thenL (o := ma τ h) p) ?_⟩
  rintro x' H1 ⟨ρ1, h1, x, e1, R1, r1, p1⟩
  refine ⟨ρ1, τ, h1, R1, s.mono e1, PoL.imp (PoL.thenL (o := ml τ h1) p1) ?_⟩
  rintro y' H2 ⟨ρ2, h2, y, e2, R2, r2, p2⟩
  exact p2 ρ2 H2 _ .refl R2 (.cons (r1.mono e2) r2)
theorem sz : (16777216 : Nat) = sizeLine := sizeLine_eq.symm
theorem PoE.fit {α : Type} {l : List α} {o : Out} {U : XW} {Q : VK} {ρ : List Addr} {H : Hp} (p : PoE S U Q ρ H (fit l o)) : l.length ≤ sizeLine ∧ PoE S U Q ρ H o := by
  have p' : PoE S U Q ρ H (Bool.rec (motive := fun _ => Out) .bad o (Nat.ble l.length 16777216)) := p
  cases q : Nat.ble l.length 16777216 with
  | false => rw [q] at p'; exact False.elim p'
  | true =>
    rw [q] at p'
    exact ⟨sz ▸ Nat.le_of_ble_eq_true q, p'⟩
/-- a new tuple -/
theorem PoE.mkT {l : List EV} {h : EH} {U : XW} {Q : VK} {ρ : List Addr} {H : Hp} {vs : List V} (R : Rep S ρ h H) (r : VRs S ρ H l vs) (p : PoE S U Q ρ H (mkT l h)) : vs.length ≤ sizeLine ∧ ∀ q, H q = none → Q (.ref q) (upd H q (.tup vs)) := by
  obtain ⟨hl, p⟩ := PoE.fit p
  refine ⟨r.length ▸ hl, fun q hq => ?_⟩
  exact p ρ _ _ (Ext.new0 hq) (R.laid hq) (.tup (SqT.of upd_same) (r.mono (Ext.new0 hq)))
/-- a new list -/
theorem PoE.newL {l : List EV} {h : EH} {U : XW} {Q : VK} {ρ : List Addr} {H : Hp} {vs : List V} (R : Rep S ρ h H) (r : VRs S ρ H l vs) (p : PoE S U Q ρ H (.val (.ref h.n) (h.new (.lst l)))) : ∀ q, H q = none → Q (.ref q) (upd H q (.lst vs)) := by
  intro q hq
  refine p (ρ ++ [q]) _ _ (Ext.new hq) (R.new hq (.lst r)) (.ref ?_)
  rw [List.getElem?_append_right (by rw [R.len]; exact Nat.le_refl _), R.len]; simp
theorem PoE.mkR {l : List EV} {h : EH} {U : XW} {Q : VK} {ρ : List Addr} {H : Hp} {vs : List V} (R : Rep S ρ h H) (r : VRs S ρ H l vs) (p : PoE S U Q ρ H (mkR l h)) : vs.length ≤ sizeLine ∧ ∀ q, H q = none → Q (.ref q) (upd H q (.lst vs)) := by
  obtain ⟨hl, p⟩ := PoE.fit p
  exact ⟨r.length ▸ hl, PoE.newL R r p⟩
theorem x_tup {k : Nat} (hr : PA X es (TL S W ml)) : PE X (.Tuple es k pos) (TM S W (xTup ml)) := by
  refine PE.imp (pe_tup hr) fun σ H Q ⟨ρ, τ, h, R, s, p⟩ => ⟨ρ, τ, h, R, s, PoL.imp (PoL.then (o := ml τ h) p) ?_⟩
  rintro x' H1 ⟨ρ1, h1, x, e1, R1, r1, p1⟩
  exact PoE.mkT R1 r1 p1
theorem x_lst (hr : PA X es (TL S W ml)) : PE X (.List es pos) (TM S W (xLst ml)) := by
  refine PE.imp (pe_lst hr) fun σ H Q ⟨ρ, τ, h, R, s, p⟩ => ⟨ρ, τ, h, R, s, PoL.imp (PoL.then (o := ml τ h) p) ?_⟩
  rintro x' H1 ⟨ρ1, h1, x, e1, R1, r1, p1⟩
  exact PoE.mkR R1 r1 p1
end

/-! values by kinds -/
theorem Rep.lst {S : Kit} {ρ : List Addr} {h : EH} {H : Hp} (R : Rep S ρ h H) {i : Nat} {a : Addr} {es : List EV} (ha : ρ[i]? = some a) (e : h.get i = some (.lst es)) : ∃ vs, H a = some (.lst vs) ∧ VRs S ρ H es vs := by
  obtain ⟨b, p, hb, hp, r⟩ := R.obj i _ e
  rw [ha] at hb; cases hb
  cases r with
  | lst r => exact ⟨_, hp, r⟩
section
variable {S : Kit} {U : XW} {Q : VK} {ρ : List Addr} {H : Hp} {h : EH}
theorem mkI_eq (i : Int) (h : EH) : mkI i h = .val (.int i) h := by
  cases i with
  | ofNat n => cases n <;> rfl
  | negSucc n => cases n <;> rfl
theorem PoE.mkI {i : Int} (R : Rep S ρ h H) (p : PoE S U Q ρ H (mkI i h)) : Q (.int i) H := by
  rw [mkI_eq] at p
  exact PoE.val R (.int i) p
theorem ruleI {f : Int → Int → V} {g : EH → Int → Int → Out} (hg : ∀ (U : XW) (Q : VK) (ρ : List Addr) (H : Hp) (h : EH) (i j : Int), Rep S ρ h H → PoE S U Q ρ H (g h i j) → Q (f i j) H) :
    VOp S (fun h a b => ii a b .bad (g h)) (rI0 f) := by
  intro U Q ρ H h x y x' y' R r1 r2 p
  cases r1 <;> try exact False.elim p
  cases r2 <;> try exact False.elim p
  exact ⟨_, _, rfl, rfl, hg _ _ _ _ _ _ _ R p⟩
theorem ruleC {C : Int → Int → Prop} {f : Int → Int → V} {g : EH → Int → Int → Out} (hg : ∀ (U : XW) (Q : VK) (ρ : List Addr) (H : Hp) (h : EH) (i j : Int), Rep S ρ h H → PoE S U Q ρ H (g h i j) → C i j ∧ Q (f i j) H) :
    VOp S (fun h a b => ii a b .bad (g h)) (rI C f) := by
  intro U Q ρ H h x y x' y' R r1 r2 p
  cases r1 <;> try exact False.elim p
  cases r2 <;> try exact False.elim p
  exact ⟨_, _, rfl, rfl, hg _ _ _ _ _ _ _ R p⟩
theorem v_sub : VOp S vSub (rI0 fun i j => .int (i - j)) := ruleI fun _ _ _ _ _ _ _ R p => PoE.mkI R p
theorem ifB {b : Bool} {o : Out} (p : PoE S U Q ρ H (Bool.rec (motive := fun _ => Out) .bad o b)) : b = true ∧ PoE S U Q ρ H o := by
  cases b with
  | false => exact False.elim p
  | true => exact ⟨rfl, p⟩
theorem v_fdiv : VOp S vFdiv (rI CDivN fun i j => .int (i.fdiv j)) := ruleC (g := fun h i j => (Nat.blt 0 j.natAbs && Nat.blt j.natAbs 1073741824).rec .bad (RT.mkI (Int.fdiv i j) h)) fun _ _ _ _ _ i j R p => by
  obtain ⟨c, p⟩ := ifB p
  rw [Bool.and_eq_true] at c
  have c1 := Nat.le_of_ble_eq_true c.1
  have c2 := Nat.le_of_ble_eq_true c.2
  exact ⟨⟨by omega, by omega⟩, PoE.mkI R p⟩
theorem v_mod : VOp S vMod (rI (fun _ j => j ≠ 0) fun i j => .int (i.fmod j)) := ruleC (g := fun h i j => (Nat.blt 0 j.natAbs).rec .bad (RT.mkI (Int.fmod i j) h)) fun _ _ _ _ _ i j R p => by
  obtain ⟨c, p⟩ := ifB p
  have c1 := Nat.le_of_ble_eq_true c
  exact ⟨by omega, PoE.mkI R p⟩
theorem small_is {i : Int} (h : small i = true) : -(2 ^ 64) < i ∧ i < 2 ^ 64 := by
  have c : i.natAbs + 1 ≤ 18446744073709551616 := Nat.le_of_ble_eq_true h
  constructor <;> omega
/-- + of two numbers, two tuples, two lists, two texts -/
def rAdd' (K : PySem.W.Frag) : R2 := fun x y H Q => (rI0 (fun i j => .int (i + j)) x y H Q ∨ rCatA K x y H Q) ∨ (rCat x y H Q ∨ (∃ i j, x = .str i ∧ y = .str j ∧ i.length + j.length ≤ sizeLine ∧ Q (.str (i ++ j)) H))
theorem op_add' {X : Cx} : OpR X (binaryOp .Add) (rAdd' X.K) := OpR.or (OpR.or op_add op_catA) (OpR.or op_cat op_add_str)
theorem v_add : VOp S vAdd (rAdd' S.K) := by
  intro U Q ρ H h x y x' y' R r1 r2 p
  cases r1 <;> try exact False.elim p
  case int i =>
    cases r2 <;> try exact False.elim p
    exact .inl (.inl ⟨_, _, rfl, rfl, PoE.mkI R p⟩)
  case str l =>
    cases r2 <;> try exact False.elim p
    rename_i l2
    obtain ⟨hl, p⟩ := PoE.fit p
    refine .inr (.inr ⟨_, _, rfl, rfl, ?_, ?_⟩)
    · show l.toArray.size + l2.toArray.size ≤ sizeLine
      rw [List.length_append] at hl
      simpa using hl
    · have q := PoE.val R (.str (l ++ l2)) p
      have e : (⟨(l ++ l2).toArray⟩ : Str) = (⟨l.toArray⟩ : Str) ++ ⟨l2.toArray⟩ := by
        show _ = (⟨l.toArray ++ l2.toArray⟩ : Str)
        simp
      rw [← e]; exact q
  case tup a vs es ha hv =>
    cases r2 <;> try exact False.elim p
    rename_i b ws fs hb hw
    have hlen := hv.length
    have wlen := hw.length
    obtain ⟨hl, p⟩ := PoE.fit p
    rw [List.length_append] at hl
    refine .inl (.inr ⟨a, b, vs, ws, rfl, rfl, ha, hb, by omega, fun e => ?_, fun _ e => ?_, fun _ _ q hq => ?_⟩)
    · subst e
      cases hv
      exact PoE.val R (.tup hb hw) p
    · subst e
      cases hw
      refine PoE.val R (.tup ha ?_) p
      rw [List.append_nil]; exact hv
    · exact p ρ _ _ (Ext.new0 hq) (R.laid hq) (.tup (SqT.of upd_same) ((hv.append hw).mono (Ext.new0 hq)))
  case ref i a ha =>
    cases r2 <;> try exact False.elim p
    rename_i j b hb
    have p' : PoE S U Q ρ H (match h.get i with | some (.lst es) => (match h.get j with | some (.lst fs) => RT.mkR (es ++ fs) h | _ => .bad) | _ => .bad) := p
    obtain ⟨es, fs, e1, e2, p2⟩ : ∃ es fs, h.get i = some (.lst es) ∧ h.get j = some (.lst fs) ∧ PoE S U Q ρ H (RT.mkR (es ++ fs) h) := by
      split at p'
      · rename_i es e1
        split at p'
        · rename_i fs e2
          exact ⟨es, fs, e1, e2, p'⟩
        · exact False.elim p'
      · exact False.elim p'
    obtain ⟨vs, hvs, rv⟩ := R.lst ha e1
    obtain ⟨ws, hws, rw'⟩ := R.lst hb e2
    obtain ⟨hl, p3⟩ := PoE.mkR R (rv.append rw') p2
    rw [List.length_append] at hl
    exact .inr (.inl ⟨a, b, vs, ws, rfl, rfl, hvs, hws, hl, p3⟩)
end
end RT
end
section
set_option Elab.async false
set_option linter.all false
set_option maxRecDepth 100000
set_option maxHeartbeats 1000000
namespace RT
open PySem PySem.Spec PyProof.Rows L2
section
variable {S : Kit} {U : XW} {Q : VK} {ρ : List Addr} {H : Hp} {h : EH}
theorem v_neg : ∀ (U : XW) (Q : VK) (ρ : List Addr) (H : Hp) (h : EH) (x : EV) (x' : V), Rep S ρ h H → VR S ρ H x x' → PoE S U Q ρ H (vNeg h x) → rU (fun i => V.int (-i)) x' H Q := by
  intro U Q ρ H h x x' R r p
  cases r <;> try exact False.elim p
  exact ⟨_, rfl, PoE.mkI R p⟩
theorem v_pow : VOp S vPow (rI CPow fun i j => .int (i ^ j.toNat)) := ruleC (g := fun h i j => i.casesOn (fun m => j.casesOn (fun k => (Nat.ble k 100000 && small (.ofNat m)).rec .bad (RT.mkI (.ofNat (Nat.pow m k)) h)) fun _ => .bad) fun _ => .bad) fun U Q ρ H h i j R p => by
  cases i with
  | negSucc m => exact False.elim p
  | ofNat m =>
    cases j with
    | negSucc k => exact False.elim p
    | ofNat k =>
      obtain ⟨c, p⟩ := ifB p
      rw [Bool.and_eq_true] at c
      have c1 := Nat.le_of_ble_eq_true c.1
      have c2 := small_is c.2
      have q := PoE.mkI R p
      refine ⟨⟨Int.natCast_nonneg k, ?_, ?_⟩, ?_⟩
      · show ((k : Nat) : Int) ≤ 1000000
        omega
      · have c3 : ((m : Nat) : Int) < 2 ^ 64 := c2.2
        show m < 2 ^ 64
        omega
      have e : (Int.ofNat m) ^ (Int.ofNat k).toNat = Int.ofNat (Nat.pow m k) := by
        show ((m : Int)) ^ k = ((m ^ k : Nat) : Int)
        rw [Int.natCast_pow]
      rw [e]; exact q
theorem rep_eq {α : Type} (l : List α) (n : Nat) : rep l n = (List.replicate n l).flatten := by
  induction n with
  | zero => rfl
  | succ n ih =>
    show l ++ rep l n = _
    rw [ih, List.replicate_succ, List.flatten_cons]
theorem VRs.rep {S ρ H} {es : List EV} {vs : List V} (r : VRs S ρ H es vs) (n : Nat) : VRs S ρ H (rep es n) (List.replicate n vs).flatten := by
  induction n with
  | zero => exact .nil
  | succ n ih =>
    rw [List.replicate_succ, List.flatten_cons]
    exact r.append ih
def rMul' (K : PySem.W.Frag) : R2 := fun x y H Q => rI CMul (fun i j => .int (i * j)) x y H Q ∨ (rRepT K x y H Q ∨ rRep x y H Q)
theorem op_mul' {X : Cx} : OpR X (binaryOp .Mult) (rMul' X.K) := OpR.or op_mul (OpR.or op_repT op_rep)
theorem nonEmpty_ne {α : Type} {l : List α} (h : nonEmpty l = true) : l ≠ [] := by
  cases l with
  | nil => cases h
  | cons x r => simp
theorem v_mul : VOp S vMul (rMul' S.K) := by
  intro U Q ρ H h x y x' y' R r1 r2 p
  cases r1 with
  | int i =>
    cases r2 <;> try exact False.elim p
    obtain ⟨c, p⟩ := ifB p
    refine .inl ⟨_, _, rfl, rfl, ?_, PoE.mkI R p⟩
    rcases Bool.or_eq_true _ _ |>.mp c with c | c
    · exact .inl (small_is c)
    · exact .inr (small_is c)
  | tup ha hv =>
    cases r2 <;> try exact False.elim p
    rename_i k
    cases k with
    | negSucc k => exact False.elim p
    | ofNat k =>
    obtain ⟨c, p⟩ := ifB p
    simp only [Bool.and_eq_true] at c
    obtain ⟨⟨⟨c1, c2⟩, c3⟩, c4⟩ := c
    have c2 := Nat.le_of_ble_eq_true c2
    have c3 := Nat.le_of_ble_eq_true c3
    have c4 := Nat.le_of_ble_eq_true c4
    have hl := hv.length
    refine .inr (.inl ⟨_, _, _, rfl, rfl, ha, fun z => ?_, ?_, ?_, by omega, fun q hq => ?_⟩)
    · subst z
      cases hv
      exact nonEmpty_ne c1 rfl
    · show (2 : Int) ≤ ((k : Nat) : Int)
      omega
    · show ((k : Nat) : Int) ≤ 1000
      omega
    · exact p ρ _ _ (Ext.new0 hq) (R.laid hq) (.tup (SqT.of upd_same) ((hv.rep _).mono (Ext.new0 hq)))
  | ref ha =>
    cases r2 <;> try exact False.elim p
    rename_i i a k
    cases k with
    | negSucc k => exact False.elim p
    | ofNat k =>
    have p' : PoE S U Q ρ H (match h.get i with | some (.lst es) => (Nat.ble k 1000 && Nat.ble es.length 1000).rec .bad (.val (.ref h.n) (h.new (.lst (RT.rep es k)))) | _ => .bad) := p
    split at p'
    · rename_i es e
      obtain ⟨c, p2⟩ := ifB p'
      rw [Bool.and_eq_true] at c
      have c1 := Nat.le_of_ble_eq_true c.1
      have c2 := Nat.le_of_ble_eq_true c.2
      obtain ⟨vs, hvs, rv⟩ := R.lst ha e
      have hl := rv.length
      have hz : (1000 : Nat) * 1000 ≤ sizeLine := by rw [sizeLine_eq]; decide
      refine .inr (.inr ⟨_, _, _, rfl, rfl, hvs, ?_, ?_, ?_, ?_⟩)
      · show -(2 ^ 63) ≤ ((k : Nat) : Int)
        omega
      · show ((k : Nat) : Int) < 2 ^ 63
        omega
      · exact Nat.le_trans (Nat.mul_le_mul (by omega : vs.length ≤ 1000) (show (Int.ofNat k).toNat ≤ 1000 from c1)) hz
      · exact PoE.newL R (rv.rep k) p2
    · exact False.elim p'
  | _ =>
    cases r2 <;> first
      | exact False.elim p
      | (rename_i k; cases k <;> exact False.elim p)
/-! comparisons -/
theorem blt_dec (m n : Nat) : Nat.blt m n = decide (m < n) := by
  by_cases c : m < n
  · rw [decide_eq_true c]; exact Nat.ble_eq_true_of_le c
  · rw [decide_eq_false c]
    cases q : Nat.blt m n with
    | false => rfl
    | true => exact absurd (Nat.le_of_ble_eq_true q) c
theorem intLt_eq (i j : Int) : intLt i j = decide (i < j) := by
  cases i with
  | ofNat m =>
    cases j with
    | ofNat n =>
      show Nat.blt m n = _
      rw [blt_dec, decide_eq_decide]
      show m < n ↔ (m : Int) < (n : Int)
      omega
    | negSucc n =>
      show false = _
      rw [decide_eq_false]
      rw [Int.negSucc_eq]
      show ¬ ((m : Int) < _)
      omega
  | negSucc m =>
    cases j with
    | ofNat n =>
      show true = _
      rw [decide_eq_true]
      rw [Int.negSucc_eq]
      show _ < (n : Int)
      omega
    | negSucc n =>
      show Nat.blt n m = _
      rw [blt_dec, decide_eq_decide, Int.negSucc_eq, Int.negSucc_eq]
      omega
theorem v_is : VCm S vIs (fun x y H Q => y = .non ∧ Q (.bl (decide (x = .non))) H) := by
  intro Q ρ H h x y x' y' c R r1 r2 q p
  cases r2 <;> first
    | (cases q; done)
    | (refine ⟨rfl, ?_⟩
       cases r1 <;> first
         | (cases q; done)
         | (cases q; exact p))
theorem ifN {α : Type} {b : Bool} {o x : Option α} {v : α} (p : (Bool.rec (motive := fun _ => Option α) none o b) = some v) : b = true ∧ o = some v := by
  cases b with
  | false => cases p
  | true => exact ⟨rfl, p⟩
theorem toDs_nil (f : EV → Option PyData) : toDs f [] = some [] := rfl
theorem toDs_cons (f : EV → Option PyData) (x : EV) (r : List EV) {ds : List PyData} (e : toDs f (x :: r) = some ds) : ∃ d rs, f x = some d ∧ toDs f r = some rs ∧ ds = d :: rs := by
  have e' : (Option.rec (motive := fun _ => Option (List PyData)) none (fun d => Option.rec (motive := fun _ => Option (List PyData)) none (fun r => some (d :: r)) (toDs f r)) (f x)) = some ds := e
  cases q : f x with
  | none => rw [q] at e'; cases e'
  | some d =>
    rw [q] at e'
    cases q2 : toDs f r with
    | none => rw [q2] at e'; cases e'
    | some rs => rw [q2] at e'; cases e'; exact ⟨d, rs, rfl, rfl, rfl⟩
theorem okStr_all : ∀ (l : List Nat), okStr l = true → l.all (· < 0x110000) = true
  | [], _ => rfl
  | c :: r, e => by
    have e' : (Bool.rec (motive := fun _ => Bool) false (okStr r) (Nat.blt c 1114112)) = true := e
    cases q : Nat.blt c 1114112 with
    | false => rw [q] at e'; cases e'
    | true =>
      rw [q] at e'
      have c1 : c < 1114112 := Nat.le_of_ble_eq_true q
      rw [List.all_cons, okStr_all r e', Bool.and_true]
      exact decide_eq_true c1
structure Datum (S : Kit) (H : Hp) (n : Nat) (v : V) (d : PyData) : Prop where
  dp : Dp S.K H v d
  lay : d.canLay0 = true
  dep : d.depth ≤ n
theorem toDs_ok {n : Nat} {f : EV → Option PyData} (hf : ∀ e v d, VR S ρ H e v → f e = some d → Datum S H n v d) : ∀ {es : List EV} {vs : List V} {ds : List PyData}, VRs S ρ H es vs → toDs f es = some ds →
    DpAll S.K H vs ds ∧ PyData.canLayAll0 ds = true ∧ PyData.depthAll ds ≤ n
  | [], _, ds, .nil, e => by
    cases e
    exact ⟨.nil, by simp [PyData.canLayAll0], by simp [PyData.depthAll]⟩
  | x :: r, _, ds, .cons h t, e => by
    obtain ⟨d, rs, e1, e2, rfl⟩ := toDs_cons f x r e
    have a := hf _ _ _ h e1
    obtain ⟨b1, b2, b3⟩ := toDs_ok hf t e2
    refine ⟨.cons a.dp b1, ?_, ?_⟩
    · simp only [PyData.canLayAll0, a.lay, b2, Bool.and_self]
    · simp only [PyData.depthAll]
      exact Nat.max_le.mpr ⟨a.dep, b3⟩
theorem toD_ok (R : Rep S ρ h H) : ∀ (n : Nat) (e : EV) (v : V) (d : PyData), VR S ρ H e v → toD n h e = some d → Datum S H n v d
  | 0, _, _, _, _, e => by cases e
  | n + 1, e, v, d, r, q => by
    have ih := toD_ok R n
    cases r with
    | non => cases q; exact ⟨.non, by simp [PyData.canLay0], by simp [PyData.depth]⟩
    | bl b => cases q; exact ⟨.bl b, by simp [PyData.canLay0], by simp [PyData.depth]⟩
    | int i => cases q; exact ⟨.int i, by simp [PyData.canLay0], by simp [PyData.depth]⟩
    | str l =>
      obtain ⟨c, q⟩ := ifN (x := none) (show (Bool.rec (motive := fun _ => Option PyData) none (some (.str ⟨l.toArray⟩)) (okStr l)) = some d from q)
      cases q
      refine ⟨.str _, ?_, by simp [PyData.depth]⟩
      have a := okStr_all l c
      show PyData.canLay0 (.str ⟨l.toArray⟩) = true
      simp only [PyData.canLay0]
      show (l.toArray.all fun c => decide (c < 1114112)) = true
      rw [List.all_toArray]
      exact a
    | tup ha hv =>
      rename_i es
      have q' : (Option.rec (motive := fun _ => Option PyData) none (fun r => some (.tuple r)) (toDs (toD n h) es)) = some d := q
      cases q2 : toDs (toD n h) es with
      | none => rw [q2] at q'; cases q'
      | some ds =>
        rw [q2] at q'; cases q'
        obtain ⟨b1, b2, b3⟩ := toDs_ok ih hv q2
        exact ⟨.tup ha b1, by simp only [PyData.canLay0]; exact b2, by simp only [PyData.depth]; omega⟩
    | ref ha =>
      rename_i i a
      have q' : (match h.get i with | some (.lst es) => (Option.rec (motive := fun _ => Option PyData) none (fun r => some (.list r)) (toDs (toD n h) es)) | _ => none) = some d := q
      split at q'
      · rename_i es e
        obtain ⟨vs, hvs, rv⟩ := R.lst ha e
        cases q2 : toDs (toD n h) es with
        | none => rw [q2] at q'; cases q'
        | some ds =>
          rw [q2] at q'; cases q'
          obtain ⟨b1, b2, b3⟩ := toDs_ok ih rv q2
          exact ⟨.lst (SqL.of hvs) b1, by simp only [PyData.canLay0]; exact b2, by simp only [PyData.depth]; omega⟩
      · cases q'
    | _ => cases q
theorem Datum.shaped {v : V} {d : PyData} (x : Datum S H 60 v d) : SeqAt.shaped d = true := by
  show (d.canLay0 && decide (d.depth ≤ 64)) = true
  rw [x.lay, Bool.true_and]
  have := x.dep
  exact decide_eq_true (by omega)
theorem eqB_ok {x y : EV} {x' y' : V} {c : Bool} (R : Rep S ρ h H) (r1 : VR S ρ H x x') (r2 : VR S ρ H y y') (q : eqB h x y = some c) : ∃ d e, Dp S.K H x' d ∧ Dp S.K H y' e ∧ SeqAt.shaped d = true ∧ SeqAt.shaped e = true ∧ c = PyData.eqv d e := by
  have q' : (Option.rec (motive := fun _ => Option Bool) none (fun d => Option.rec (motive := fun _ => Option Bool) none (fun e => some (PyData.eqv d e)) (toD 60 h y)) (toD 60 h x)) = some c := q
  cases q1 : toD 60 h x with
  | none => rw [q1] at q'; cases q'
  | some d =>
    rw [q1] at q'
    cases q2 : toD 60 h y with
    | none => rw [q2] at q'; cases q'
    | some e =>
      rw [q2] at q'; cases q'
      have a := toD_ok R 60 _ _ _ r1 q1
      have b := toD_ok R 60 _ _ _ r2 q2
      exact ⟨d, e, a.dp, b.dp, a.shaped, b.shaped, rfl⟩
theorem v_eq : VCm S vEq (rEqD S.K) := by
  intro Q ρ H h x y x' y' c R r1 r2 q p
  obtain ⟨d, e, a1, a2, a3, a4, rfl⟩ := eqB_ok R r1 r2 q
  exact ⟨d, e, a1, a2, a3, a4, p⟩
theorem neg?_some {o : Option Bool} {c : Bool} (q : neg? o = some c) : ∃ d, o = some d ∧ c = !d := by
  cases o with
  | none => cases q
  | some d => cases q; exact ⟨d, rfl, rfl⟩
theorem v_ne : VCm S vNe (rNeD S.K) := by
  intro Q ρ H h x y x' y' c R r1 r2 q p
  obtain ⟨k, q1, rfl⟩ := neg?_some q
  obtain ⟨d, e, a1, a2, a3, a4, rfl⟩ := eqB_ok R r1 r2 q1
  exact ⟨d, e, a1, a2, a3, a4, p⟩
theorem v_isn : VCm S vIsn (fun x y H Q => y = .non ∧ Q (.bl (!decide (x = .non))) H) := by
  intro Q ρ H h x y x' y' c R r1 r2 q p
  obtain ⟨k, q1, rfl⟩ := neg?_some q
  exact v_is (fun v H' => match v with | .bl b => Q (.bl (!b)) H' | _ => False) ρ H h x y x' y' k R r1 r2 q1 p
end
end RT
end
section
set_option Elab.async false
set_option linter.all false
set_option maxRecDepth 100000
set_option maxHeartbeats 1000000
namespace RT
open PySem PySem.Spec PyProof.Rows L2
theorem VRs.get {S ρ H} : ∀ {es : List EV} {vs : List V} {j : Nat} {e : EV}, VRs S ρ H es vs → es[j]? = some e → ∃ v, vs[j]? = some v ∧ VR S ρ H e v
  | _, _, _, _, .nil, q => by simp at q
  | _, _, 0, _, .cons h _, q => by
    simp at q; subst q
    exact ⟨_, rfl, h⟩
  | _, _, j + 1, _, .cons _ r, q => by
    obtain ⟨v, h1, h2⟩ := VRs.get (j := j) r (by simpa using q)
    exact ⟨v, by simpa using h1, h2⟩
theorem atI_is {es : List EV} {vs : List V} {S ρ H} {i : Int} {e : EV} (r : VRs S ρ H es vs) (q : RT.atI es i = some e) : ∃ v, L2.atI vs i = some v ∧ VR S ρ H e v := by
  have hl := r.length
  cases i with
  | ofNat n =>
    have q' : es[n]? = some e := (nth_eq es n).symm.trans q
    obtain ⟨v, h1, h2⟩ := r.get q'
    exact ⟨v, atI_nat h1, h2⟩
  | negSucc n =>
    obtain ⟨c, q'⟩ := ifN (x := none) (show (Bool.rec (motive := fun _ => Option EV) none (nth es (es.length - (n + 1))) (Nat.ble (n + 1) es.length)) = some e from q)
    have c' := Nat.le_of_ble_eq_true c
    rw [nth_eq] at q'
    obtain ⟨v, h1, h2⟩ := r.get q'
    refine ⟨v, ?_, h2⟩
    unfold L2.atI L2.ixN
    rw [if_neg (by rw [Int.negSucc_eq]; omega), if_pos (by rw [Int.negSucc_eq]; omega)]
    show vs[(Int.negSucc n + (vs.length : Int)).toNat]? = some v
    rw [show (Int.negSucc n + (vs.length : Int)).toNat = es.length - (n + 1) by rw [Int.negSucc_eq]; omega]
    exact h1
theorem PoE.opt {S : Kit} {U : XW} {Q : VK} {ρ : List Addr} {H : Hp} {h : EH} {o : Option EV} (p : PoE S U Q ρ H (opt o h)) : ∃ v, o = some v ∧ PoE S U Q ρ H (.val v h) := by
  cases o with
  | none => exact False.elim p
  | some v => exact ⟨v, rfl, p⟩
def rIx' (K : PySem.W.Frag) : R2 := fun x y H Q => rIxL K x y H Q ∨ rIxT K x y H Q
theorem ix_all {X : Cx} : IxR X (rIx' X.K) := ix_list.or ix_tup
theorem v_ix {S : Kit} : VOp S vIx (rIx' S.K) := by
  intro U Q ρ H h x y x' y' R r1 r2 p
  cases r1 with
  | tup ha hv =>
    cases r2 <;> try exact False.elim p
    obtain ⟨e, q, p⟩ := PoE.opt p
    obtain ⟨v, q1, q2⟩ := atI_is hv q
    exact .inr ⟨_, _, _, v, rfl, rfl, ha, q1, PoE.val R q2 p⟩
  | ref ha =>
    rename_i i a
    have p' : PoE S U Q ρ H (match h.get i with
      | some (.lst es) => ixL es y h
      | some (.dic kvs) => ixD kvs y h
      | _ => .bad) := p
    split at p'
    · rename_i es e
      cases r2 <;> try exact False.elim p'
      obtain ⟨vs, hvs, rv⟩ := R.lst ha e
      obtain ⟨e, q, p⟩ := PoE.opt p'
      obtain ⟨v, q1, q2⟩ := atI_is rv q
      exact .inl ⟨_, _, _, v, rfl, rfl, SqL.of hvs, q1, PoE.val R q2 p⟩
    · rename_i kvs e
      obtain ⟨b, o, _, _, r⟩ := R.obj i _ e
      cases r
    · exact False.elim p'
  | _ => exact False.elim p
/-! truth -/
theorem intEq_eq (i j : Int) : intEq i j = decide (i = j) := by
  cases i with
  | ofNat m =>
    cases j with
    | ofNat n =>
      show Nat.beq m n = _
      by_cases c : m = n
      · rw [beqT c, decide_eq_true (by rw [c])]
      · rw [beqF c, decide_eq_false (fun e => c (Int.ofNat.inj e))]
    | negSucc n =>
      show false = _
      rw [decide_eq_false (fun e => nomatch e)]
  | negSucc m =>
    cases j with
    | ofNat n =>
      show false = _
      rw [decide_eq_false (fun e => nomatch e)]
    | negSucc n =>
      show Nat.beq m n = _
      by_cases c : m = n
      · rw [beqT c, decide_eq_true (by rw [c])]
      · rw [beqF c, decide_eq_false (fun e => c (Int.negSucc.inj e))]
theorem nonEmpty_vs {S ρ H} {es : List EV} {vs : List V} (r : VRs S ρ H es vs) : nonEmpty es = !vs.isEmpty := by
  cases r <;> rfl
theorem truth_ok {S : Kit} {ρ : List Addr} {H : Hp} {h : EH} {e : EV} {v : V} {c : Bool} (R : Rep S ρ h H) (r : VR S ρ H e v) (q : truth h e = some c) : TruV S.K v H c := by
  cases r with
  | non => cases q; rfl
  | bl b => cases q; rfl
  | int i =>
    cases q
    show (!intEq i 0) = (i != 0)
    rw [intEq_eq]
    by_cases z : i = 0
    · subst z; rfl
    · rw [decide_eq_false z]
      exact (bne_iff_ne.mpr z).symm
  | str l =>
    obtain ⟨a, q'⟩ := ifN (x := none) (show (Bool.rec (motive := fun _ => Option Bool) none (some (nonEmpty l)) (Nat.ble l.length 16777216)) = some c from q)
    cases q'
    have a := Nat.le_of_ble_eq_true a
    refine ⟨?_, ?_⟩
    · show l.toArray.size ≤ sizeLine
      rw [← sz]; simpa using a
    · show nonEmpty l = (((⟨l.toArray⟩ : Str).length : Int) != 0)
      show nonEmpty l = (((l.toArray.size : Nat) : Int) != 0)
      cases l with
      | nil => rfl
      | cons x r =>
        show true = _
        symm
        rw [bne_iff_ne]
        simp only [List.size_toArray, List.length_cons]
        omega
  | tup ha hv => cases q; exact .inr (.inl ⟨_, ha, nonEmpty_vs hv⟩)
  | ref ha =>
    rename_i i a
    have q' : (match h.get i with | some (.lst es) => some (nonEmpty es) | _ => none) = some c := q
    split at q'
    · rename_i es e
      obtain ⟨vs, hvs, rv⟩ := R.lst ha e
      cases q'
      exact .inl ⟨_, SqL.of hvs, nonEmpty_vs rv⟩
    · cases q'
  | _ => cases q
section
variable {X : Cx} {S : Kit} {W : WX} {pos : Pos} {a b c : Expr} {ma mb mc : M} {es : List Expr} {ml : ML}
theorem x_ix (hK : S.K = X.K) (hs : PlainIx b) (ha : PE X a (TM S W ma)) (hb : PE X b (TM S W mb)) : PE X (.Subscript a b pos) (TM S W (xBin vIx ma mb)) := PE.imp (pe_ix ix_all ha hb hs) fun _ _ _ t => two (hK ▸ v_ix) t
theorem x_neg (ha : PE X a (TM S W ma)) : PE X (.UnaryOp .USub a pos) (TM S W (xNeg ma)) := by
  refine PE.imp (pe_un un_neg ha) fun σ H Q ⟨ρ, τ, h, R, s, p⟩ => ⟨ρ, τ, h, R, s, PoE.imp (PoE.then (o := ma τ h) p) ?_⟩
  rintro x' H1 ⟨ρ1, h1, x, e1, R1, r1, p1⟩
  exact v_neg _ _ _ _ _ _ _ R1 r1 p1
theorem x_add (hK : S.K = X.K) (ha : PE X a (TM S W ma)) (hb : PE X b (TM S W mb)) : PE X (.BinOp a .Add b pos) (TM S W (xBin vAdd ma mb)) := x_bin op_add' (hK ▸ v_add) ha hb
theorem x_sub (ha : PE X a (TM S W ma)) (hb : PE X b (TM S W mb)) : PE X (.BinOp a .Sub b pos) (TM S W (xBin vSub ma mb)) := x_bin op_sub v_sub ha hb
theorem x_mul (hK : S.K = X.K) (ha : PE X a (TM S W ma)) (hb : PE X b (TM S W mb)) : PE X (.BinOp a .Mult b pos) (TM S W (xBin vMul ma mb)) := x_bin op_mul' (hK ▸ v_mul) ha hb
theorem x_fdiv (ha : PE X a (TM S W ma)) (hb : PE X b (TM S W mb)) : PE X (.BinOp a .FloorDiv b pos) (TM S W (xBin vFdiv ma mb)) := x_bin op_fdivN v_fdiv ha hb
theorem x_mod (ha : PE X a (TM S W ma)) (hb : PE X b (TM S W mb)) : PE X (.BinOp a .Mod b pos) (TM S W (xBin vMod ma mb)) := x_bin op_modN v_mod ha hb
theorem x_pow (ha : PE X a (TM S W ma)) (hb : PE X b (TM S W mb)) : PE X (.BinOp a .Pow b pos) (TM S W (xBin vPow ma mb)) := x_bin op_pow v_pow ha hb
/-! tests -/
/-- a test of any plain expression -/
theorem t_gen (hK : S.K = X.K) (he : ∀ whole, isTrue a X.env whole = (do let v ← whole; standAt a.pos; holding [v] (truthy v))) (ha : PE X a (TM S W ma)) : PT X a (TT' S W ma) := by
  refine PT.imp (pt_truth ha he) fun σ H Q ⟨ρ, τ, h, R, s, p⟩ => ⟨ρ, τ, h, R, s, ?_⟩
  cases q : ma τ h with
  | val v h1 =>
    rw [q] at p
    obtain ⟨k, e, p⟩ := p
    exact fun ρ' H' v' x R' r => ⟨k, hK ▸ truth_ok R' r e, p ρ' H' x R'⟩
  | exc v h1 => rw [q] at p; exact p
  | bad => rw [q] at p; exact p
theorem truthB {h : EH} {x : EV} {o1 o2 : Out} {Z : Out → Prop} (p : Z ((truth h x).rec .bad fun c => c.rec o1 o2)) (nb : ¬ Z .bad) : ∃ c, truth h x = some c ∧ Z (match c with | true => o2 | false => o1) := by
  cases q : truth h x with
  | none => rw [q] at p; exact absurd p nb
  | some c =>
    rw [q] at p
    cases c with
    | true => exact ⟨true, rfl, p⟩
    | false => exact ⟨false, rfl, p⟩
theorem t_and1 (ha : PT X a (TT' S W ma)) : PW X (.BoolOp .And [a] pos) (TT' S W ma) := pw_and1 ha
theorem t_or1 (ha : PT X a (TT' S W ma)) : PW X (.BoolOp .Or [a] pos) (TT' S W ma) := pw_or1 ha
theorem t_and {rest : List Expr} (ha : PT X a (TT' S W ma)) (hb : PW X (.BoolOp .And (b :: rest) pos) (TT' S W mb)) : PW X (.BoolOp .And (a :: b :: rest) pos) (TT' S W (xAnd ma mb)) := by
  refine PW.imp (pw_and ha hb) fun σ H Q ⟨ρ, τ, h, R, s, p⟩ => ⟨ρ, τ, h, R, s, ?_⟩
  have p0 : PoT S (at0 W σ) Q ρ H ((ma τ h).then fun x h1 => (truth h1 x).rec .bad fun c => c.rec (.val x h1) (mb τ h1)) := p
  cases q : ma τ h with
  | val v h1 =>
    rw [q] at p0
    obtain ⟨k, e, p1⟩ := truthB (Z := PoT S (at0 W σ) Q ρ H) p0 (fun z => z)
    refine ⟨k, e, fun ρ' H' x R' => ?_⟩
    cases k with
    | true => exact iteT ⟨ρ', τ, h1, R', s.mono x, PoT.from x p1⟩
    | false =>
      obtain ⟨k2, e2, p2⟩ := p1
      rw [e] at e2; cases e2
      exact iteF (p2 ρ' H' x R')
  | exc v h1 => rw [q] at p0; exact p0
  | bad => rw [q] at p0; exact p0
theorem t_or {rest : List Expr} (ha : PT X a (TT' S W ma)) (hb : PW X (.BoolOp .Or (b :: rest) pos) (TT' S W mb)) : PW X (.BoolOp .Or (a :: b :: rest) pos) (TT' S W (xOr ma mb)) := by
  refine PW.imp (pw_or ha hb) fun σ H Q ⟨ρ, τ, h, R, s, p⟩ => ⟨ρ, τ, h, R, s, ?_⟩
  have p0 : PoT S (at0 W σ) Q ρ H ((ma τ h).then fun x h1 => (truth h1 x).rec .bad fun c => c.rec (mb τ h1) (.val x h1)) := p
  cases q : ma τ h with
  | val v h1 =>
    rw [q] at p0
    obtain ⟨k, e, p1⟩ := truthB (Z := PoT S (at0 W σ) Q ρ H) p0 (fun z => z)
    refine ⟨k, e, fun ρ' H' x R' => ?_⟩
    cases k with
    | false => exact iteF ⟨ρ', τ, h1, R', s.mono x, PoT.from x p1⟩
    | true =>
      obtain ⟨k2, e2, p2⟩ := p1
      rw [e] at e2; cases e2
      exact iteT (p2 ρ' H' x R')
  | exc v h1 => rw [q] at p0; exact p0
  | bad => rw [q] at p0; exact p0
theorem t_not (ha : PT X a (TT' S W ma)) : PT X (.UnaryOp .Not a pos) (TT' S W (xNot ma)) := by
  refine PT.imp (pt_not ha) fun σ H Q ⟨ρ, τ, h, R, s, p⟩ => ⟨ρ, τ, h, R, s, ?_⟩
  have p0 : PoT S (at0 W σ) Q ρ H ((ma τ h).then fun x h1 => (truth h1 x).rec .bad fun c => .val (.bl (!c)) h1) := p
  cases q : ma τ h with
  | val v h1 =>
    rw [q] at p0
    have p1 : PoT S (at0 W σ) Q ρ H ((truth h1 v).rec .bad fun c => .val (.bl (!c)) h1) := p0
    cases e : truth h1 v with
    | none => rw [e] at p1; exact False.elim p1
    | some c =>
      rw [e] at p1
      obtain ⟨d, ed, p2⟩ := p1
      cases ed
      exact ⟨c, e, p2⟩
  | exc v h1 => rw [q] at p0; exact p0
  | bad => rw [q] at p0; exact p0
/-! values by truth -/
theorem x_one {op : BoolOp} (ha : PE X a (TM S W ma)) : PE X (.BoolOp op [a] pos) (TM S W ma) := pe_one ha
theorem truthE {h : EH} {x : EV} {o1 o2 : Out} {U : XW} {Q : VK} {ρ : List Addr} {H : Hp} (p : PoE S U Q ρ H ((truth h x).rec .bad fun c => c.rec o1 o2)) : ∃ c, truth h x = some c ∧ PoE S U Q ρ H (match c with | true => o2 | false => o1) := truthB (Z := PoE S U Q ρ H) p (fun z => z)
theorem x_and (hK : S.K = X.K) {rest : List Expr} (ha : PE X a (TM S W ma)) (hb : PE X (.BoolOp .And (b :: rest) pos) (TM S W mb)) : PE X (.BoolOp .And (a :: b :: rest) pos) (TM S W (xAnd ma mb)) := by
  refine PE.imp (pe_andT ha hb) fun σ H Q ⟨ρ, τ, h, R, s, p⟩ => ⟨ρ, τ, h, R, s, PoE.imp (PoE.then (o := ma τ h) p) ?_⟩
  rintro x' H1 ⟨ρ1, h1, x, e1, R1, r1, p1⟩
  obtain ⟨k, e, p2⟩ := truthE p1
  refine ⟨k, hK ▸ truth_ok R1 r1 e, ?_⟩
  cases k with
  | true => exact iteT ⟨ρ1, τ, h1, R1, s.mono e1, p2⟩
  | false => exact iteF (PoE.val R1 r1 p2)
theorem x_or (hK : S.K = X.K) {rest : List Expr} (ha : PE X a (TM S W ma)) (hb : PE X (.BoolOp .Or (b :: rest) pos) (TM S W mb)) : PE X (.BoolOp .Or (a :: b :: rest) pos) (TM S W (xOr ma mb)) := by
  refine PE.imp (pe_orT ha hb) fun σ H Q ⟨ρ, τ, h, R, s, p⟩ => ⟨ρ, τ, h, R, s, PoE.imp (PoE.then (o := ma τ h) p) ?_⟩
  rintro x' H1 ⟨ρ1, h1, x, e1, R1, r1, p1⟩
  obtain ⟨k, e, p2⟩ := truthE p1
  refine ⟨k, hK ▸ truth_ok R1 r1 e, ?_⟩
  cases k with
  | false => exact iteF ⟨ρ1, τ, h1, R1, s.mono e1, p2⟩
  | true => exact iteT (PoE.val R1 r1 p2)
theorem x_not (hK : S.K = X.K) (ha : PE X a (TM S W ma)) : PE X (.UnaryOp .Not a pos) (TM S W (xNot ma)) := by
  refine PE.imp (pe_notT ha) fun σ H Q ⟨ρ, τ, h, R, s, p⟩ => ⟨ρ, τ, h, R, s, PoE.imp (PoE.then (o := ma τ h) p) ?_⟩
  rintro x' H1 ⟨ρ1, h1, x, e1, R1, r1, p1⟩
  have p2 : PoE S (at0 W σ) Q ρ1 H1 ((truth h1 x).rec .bad fun c => .val (.bl (!c)) h1) := p1
  cases e : truth h1 x with
  | none => rw [e] at p2; exact False.elim p2
  | some k =>
    rw [e] at p2
    exact ⟨k, hK ▸ truth_ok R1 r1 e, PoE.val R1 (.bl _) p2⟩
theorem x_ite (hc : PT X c (TT' S W mc)) (ha : PE X a (TM S W ma)) (hb : PE X b (TM S W mb)) : PE X (.IfExp c a b pos) (TM S W (xIte mc ma mb)) := by
  refine PE.imp (pe_ifExp hc ha hb) fun σ H Q ⟨ρ, τ, h, R, s, p⟩ => ⟨ρ, τ, h, R, s, ?_⟩
  have p0 : PoE S (at0 W σ) Q ρ H ((mc τ h).then fun x h1 => (truth h1 x).rec .bad fun k => k.rec (mb τ h1) (ma τ h1)) := p
  cases q : mc τ h with
  | val v h1 =>
    rw [q] at p0
    obtain ⟨k, e, p1⟩ := truthE p0
    refine ⟨k, e, fun ρ' H' x R' => ?_⟩
    cases k with
    | true => exact iteT ⟨ρ', τ, h1, R', s.mono x, PoE.from x p1⟩
    | false => exact iteF ⟨ρ', τ, h1, R', s.mono x, PoE.from x p1⟩
  | exc v h1 => rw [q] at p0; exact p0
  | bad => rw [q] at p0; exact p0
end
end RT
end
section
set_option Elab.async false
set_option linter.all false
set_option maxRecDepth 100000
set_option maxHeartbeats 1000000
namespace RT
open PySem PySem.Spec PyProof.Rows L2
def PoS (S : Kit) (W : WX) (D : Ends) (ρ : List Addr) (H : Hp) : OutS → Prop
  | .nx τ h => ∀ ρ' H' σ', Ext S ρ H ρ' H' → Rep S ρ' h H' → SR S ρ' H' τ σ' → D.nx σ' H'
  | .bk τ h => ∀ ρ' H' σ', Ext S ρ H ρ' H' → Rep S ρ' h H' → SR S ρ' H' τ σ' → D.bk σ' H'
  | .ct τ h => ∀ ρ' H' σ', Ext S ρ H ρ' H' → Rep S ρ' h H' → SR S ρ' H' τ σ' → D.ct σ' H'
  | .rt v h => ∀ ρ' H' v', Ext S ρ H ρ' H' → Rep S ρ' h H' → VR S ρ' H' v v' → D.rt v' H'
  | .exc e τ h => ∀ ρ' H' σ' c d, Ext S ρ H ρ' H' → Rep S ρ' h H' → SR S ρ' H' τ σ' → ER S ρ' H' e c d → W c d σ' H'
  | .bad => False
def TS' (S : Kit) (W : WX) (m : MS) : TS := fun D σ H => ∃ ρ τ h, Rep S ρ h H ∧ SR S ρ H τ σ ∧ PoS S W D ρ H (m τ h)
/-- a target -/
def TG' (S : Kit) (W : WX) (g : MG) : TG := fun v' σ H Q => ∃ ρ τ h v, Rep S ρ h H ∧ SR S ρ H τ σ ∧ VR S ρ H v v' ∧ PoS S W { nx := Q, rt := fun _ _ => False } ρ H (g v τ h)
section
variable {S : Kit} {W : WX} {D : Ends} {ρ ρ1 : List Addr} {H H1 : Hp}
theorem PoS.from {o : OutS} (x : Ext S ρ H ρ1 H1) (p : PoS S W D ρ H o) : PoS S W D ρ1 H1 o := by
  cases o with
  | nx v h => exact fun a b c e r q => p a b c (x.trans e) r q
  | bk v h => exact fun a b c e r q => p a b c (x.trans e) r q
  | ct v h => exact fun a b c e r q => p a b c (x.trans e) r q
  | rt v h => exact fun a b c e r q => p a b c (x.trans e) r q
  | exc v τ h => exact fun a b c d f e r q => p a b c d f (x.trans e) r q
  | bad => exact p
theorem PoS.thenS {τ : ES} {σ : St} {o : Out} {k : EV → EH → OutS} (s : SR S ρ H τ σ) (p : PoS S W D ρ H (o.thenS τ k)) :
    PoE S (at0 W σ) (fun x' H1 => ∃ ρ1 h1 x, Ext S ρ H ρ1 H1 ∧ Rep S ρ1 h1 H1 ∧ VR S ρ1 H1 x x' ∧ PoS S W D ρ1 H1 (k x h1)) ρ H o := by
  cases o with
  | val v h => exact fun a b c e r q => ⟨a, h, v, e, r, q, PoS.from e p⟩
  | exc v h => exact fun a b c d e r q => p a b σ c d e r (s.mono e) q
  | bad => exact p
theorem PoS.thenL {τ : ES} {σ : St} {o : OutL} {k : List EV → EH → OutS} (s : SR S ρ H τ σ) (p : PoS S W D ρ H (o.thenS τ k)) :
    PoL S (at0 W σ) (fun x' H1 => ∃ ρ1 h1 x, Ext S ρ H ρ1 H1 ∧ Rep S ρ1 h1 H1 ∧ VRs S ρ1 H1 x x' ∧ PoS S W D ρ1 H1 (k x h1)) ρ H o := by
  cases o with
  | vals v h => exact fun a b c e r q => ⟨a, h, v, e, r, q, PoS.from e p⟩
  | exc v h => exact fun a b c d e r q => p a b σ c d e r (s.mono e) q
  | bad => exact p
theorem PoS.go {o : OutS} {k : ES → EH → OutS} (p : PoS S W D ρ H (o.go k)) : PoS S W { D with nx := fun σ' H' => ∃ ρ1 τ1 h1, Rep S ρ1 h1 H' ∧ SR S ρ1 H' τ1 σ' ∧ PoS S W D ρ1 H' (k τ1 h1) } ρ H o := by
  cases o with
  | nx τ h => exact fun a b c e r q => ⟨a, τ, h, r, q, PoS.from e p⟩
  | bk v h => exact p
  | ct v h => exact p
  | rt v h => exact p
  | exc v τ h => exact p
  | bad => exact p
theorem PoS.imp {D' : Ends} {o : OutS} (p : PoS S W D ρ H o) (n : ∀ σ H, D.nx σ H → D'.nx σ H) (r : ∀ v H, D.rt v H → D'.rt v H) (b : ∀ σ H, D.bk σ H → D'.bk σ H) (c : ∀ σ H, D.ct σ H → D'.ct σ H) : PoS S W D' ρ H o := by
  cases o with
  | nx v h => exact fun a b c e r q => n _ _ (p a b c e r q)
  | bk v h => exact fun a b' c e r q => b _ _ (p a b' c e r q)
  | ct v h => exact fun a b c' e r q => c _ _ (p a b c' e r q)
  | rt v h => exact fun a b c e r' q => r _ _ (p a b c e r' q)
  | exc v τ h => exact p
  | bad => exact p
theorem truthS {h : EH} {x : EV} {o1 o2 : OutS} (p : PoS S W D ρ H ((truth h x).rec .bad fun c => c.rec o1 o2)) : ∃ c, truth h x = some c ∧ PoS S W D ρ H (match c with | true => o2 | false => o1) := by
  cases q : truth h x with
  | none => rw [q] at p; exact False.elim p
  | some c =>
    rw [q] at p
    cases c with
    | true => exact ⟨true, rfl, p⟩
    | false => exact ⟨false, rfl, p⟩
end
section
variable {X : Cx} {S : Kit} {W : WX} {pos : Pos} {a b c e : Expr} {ma mb mc m : M} {es : List Expr} {ml : ML} {st : Stmt} {rest body : List Stmt} {s1 s2 : MS}
theorem s_nil : PSs X [] (TS' S W sNil) := PSs.imp pss_nil fun D σ H ⟨ρ, τ, h, R, s, p⟩ => p ρ H σ .refl R s
theorem s_pass : PS X (.Pass pos) (TS' S W sNil) := PS.imp ps_pass fun D σ H ⟨ρ, τ, h, R, s, p⟩ => p ρ H σ .refl R s
theorem s_brk : PS X (.Break pos) (TS' S W sBrk) := PS.imp ps_break fun D σ H ⟨ρ, τ, h, R, s, p⟩ => p ρ H σ .refl R s
theorem s_cont : PS X (.Continue pos) (TS' S W sCont) := PS.imp ps_continue fun D σ H ⟨ρ, τ, h, R, s, p⟩ => p ρ H σ .refl R s
theorem s_one (h1 : PS X st (TS' S W s1)) : PSs X [st] (TS' S W s1) := pss_one h1
theorem s_cons (h1 : PS X st (TS' S W s1)) (h2 : PSs X rest (TS' S W s2)) : PSs X (st :: rest) (TS' S W (sSeq s1 s2)) :=
  PSs.imp (pss_cons h1 h2) fun D σ H ⟨ρ, τ, h, R, s, p⟩ => ⟨ρ, τ, h, R, s, PoS.go (o := s1 τ h) p⟩
theorem s_expr (he : PE X e (TM S W m)) (hs : swapsWith e none pos.line X.env = pure false := by rfl) : PS X (.Expr e pos) (TS' S W (sExp m)) :=
  PS.imp (ps_expr he hs) fun D σ H ⟨ρ, τ, h, R, s, p⟩ => ⟨ρ, τ, h, R, s, PoE.imp (PoS.thenS s (o := m τ h) p) fun x' H1 ⟨ρ1, h1, x, e1, R1, r1, p1⟩ => p1 ρ1 H1 σ .refl R1 (s.mono e1)⟩
theorem s_ret (he : PE X e (TM S W m)) : PS X (.Return (some e) pos) (TS' S W (sRet m)) :=
  PS.imp (ps_ret he) fun D σ H ⟨ρ, τ, h, R, s, p⟩ => ⟨ρ, τ, h, R, s, PoE.imp (PoS.thenS s (o := m τ h) p) fun x' H1 ⟨ρ1, h1, x, e1, R1, r1, p1⟩ => p1 ρ1 H1 x' .refl R1 r1⟩
theorem s_retN : PS X (.Return none pos) (TS' S W (sRet (xCst .non))) := PS.imp ps_retN fun D σ H ⟨ρ, τ, h, R, s, p⟩ => p ρ H .non .refl R .non
theorem s_if {b1 b2 : List Stmt} (hc : PT X c (TT' S W mc)) (h1 : PSs X b1 (TS' S W s1)) (h2 : PSs X b2 (TS' S W s2)) : PS X (.If c b1 b2 pos) (TS' S W (sIf mc s1 s2)) := by
  refine PS.imp (ps_if hc h1 h2) fun D σ H ⟨ρ, τ, h, R, s, p⟩ => ⟨ρ, τ, h, R, s, ?_⟩
  have p0 : PoS S W D ρ H ((mc τ h).thenS τ fun x h1 => (truth h1 x).rec .bad fun k => k.rec (s2 τ h1) (s1 τ h1)) := p
  cases q : mc τ h with
  | val v h1 =>
    rw [q] at p0
    obtain ⟨k, e, p1⟩ := truthS p0
    refine ⟨k, e, fun ρ' H' x R' => ?_⟩
    cases k with
    | true => exact iteT ⟨ρ', τ, h1, R', s.mono x, PoS.from x p1⟩
    | false => exact iteF ⟨ρ', τ, h1, R', s.mono x, PoS.from x p1⟩
  | exc v h1 =>
    rw [q] at p0
    exact fun a b c d e r q => p0 a b σ c d e r (s.mono e) q
  | bad => rw [q] at p0; exact p0
/-! targets -/
theorem g_var (i : Nat) {x : Str} (hN : X.N.Nodup) (hi : X.N[i]? = some x) (hx : Loc X.env.scope x) (hf : X.fn x = true ∨ X.env.scope.names.lookup x = some .local := by first | exact .inl rfl | exact .inr rfl | assumption) (hfr : S.fr i = true := by rfl) : PG X (.Name x pos) (TG' S W (gVar i)) := by
  refine ⟨fun pins s σ H v u Q I r ⟨ρ, τ, h, e, R, sr, er, p⟩ => ?_⟩
  exact (pg_name hN hi hx hf).run pins s σ H v u Q I r (p ρ H _ .refl R (sr.set i hfr er))
theorem s_asg {tg : Expr} {g : MG} (he : PE X e (TM S W m)) (hg : PG X tg (TG' S W g)) (hs : swapsWithSole [tg] e pos.line X.env = pure false := by rfl) (hw : swappedStores [tg] e X.env = pure none := by rfl)
    (h1 : (assignEach [tg] X.env).map (·.2) = [assign tg X.env] := by rfl) (hg0 : ∀ v τ h, (∀ w k, g v τ h ≠ .rt w k) ∧ (∀ w k, g v τ h ≠ .bk w k) ∧ (∀ w k, g v τ h ≠ .ct w k)) : PS X (.Assign [tg] e pos) (TS' S W (sAsg g m)) := by
  refine PS.imp (ps_asg he hg hs hw h1) fun D σ H ⟨ρ, τ, h, R, s, p⟩ => ⟨ρ, τ, h, R, s, PoE.imp (PoS.thenS s (o := m τ h) p) fun x' H1 ⟨ρ1, h1, x, e1, R1, r1, p1⟩ => ⟨ρ1, τ, h1, x, R1, s.mono e1, r1, ?_⟩⟩
  cases q : g x τ h1 with
  | nx t k => rw [q] at p1; exact p1
  | exc v t k => rw [q] at p1; exact p1
  | bad => rw [q] at p1; exact p1
  | rt w k => exact absurd q ((hg0 _ _ _).1 _ _)
  | bk w k => exact absurd q ((hg0 _ _ _).2.1 _ _)
  | ct w k => exact absurd q ((hg0 _ _ _).2.2 _ _)
/-- name = e -/
theorem s_set (i : Nat) {x : Str} {pos' : Pos} (hN : X.N.Nodup) (hi : X.N[i]? = some x) (hx : Loc X.env.scope x) (he : PE X e (TM S W m)) (hs : swapsWith e (some (.Name x pos')) pos.line X.env = pure false := by rfl)
    (hf : X.fn x = true ∨ X.env.scope.names.lookup x = some .local := by first | exact .inl rfl | exact .inr rfl | assumption) (hfr : S.fr i = true := by rfl) : PS X (.Assign [.Name x pos'] e pos) (TS' S W (sAsg (gVar i) m)) :=
  PS.imp (ps_set hN hi hx he hs hf) fun D σ H ⟨ρ, τ, h, R, s, p⟩ => ⟨ρ, τ, h, R, s, PoE.imp (PoS.thenS s (o := m τ h) p) fun x' H1 ⟨ρ1, h1, x, e1, R1, r1, p1⟩ => p1 ρ1 H1 _ .refl R1 ((s.mono e1).set i hfr r1)⟩
/-! while -/
theorem s_whl {N : Nat} (hp : PassesOwn (model X.prog X.w) X.A X.env X.xe) (hc : PT X c (TT' S W mc)) (hb : PSs X body (TS' S W s1)) : PS X (.While c body [] pos) (TS' S W (sWhl N mc s1)) := by
  refine PS.imp (ps_while hp hc hb) fun D σ H ⟨ρ, τ, h, R, s, p⟩ => ?_
  refine ⟨fun m σ H => ∃ ρ τ h, Rep S ρ h H ∧ SR S ρ H τ σ ∧ PoS S W D ρ H (sWhl m mc s1 τ h), ⟨N, ρ, τ, h, R, s, p⟩, ?_⟩
  rintro m σ H ⟨ρ, τ, h, R, s, p⟩
  cases m with
  | zero => exact False.elim p
  | succ m =>
    refine ⟨ρ, τ, h, R, s, ?_⟩
    have p0 : PoS S W D ρ H ((mc τ h).thenS τ fun x h1 => (truth h1 x).rec .bad fun k => k.rec (.nx τ h1) (loopS (s1 τ h1) (sWhl m mc s1))) := p
    cases q : mc τ h with
    | val v h1 =>
      rw [q] at p0
      obtain ⟨k, e, p1⟩ := truthS p0
      refine ⟨k, e, fun ρ' H' x R' => ?_⟩
      cases k with
      | false => exact iteF (p1 ρ' H' σ x R' (s.mono x))
      | true =>
        refine iteT ⟨fun σ' H' => ∃ ρ τ h, Rep S ρ h H' ∧ SR S ρ H' τ σ' ∧ PoS S W D ρ H' (sWhl m mc s1 τ h), fun σ' H' z => ⟨m, Nat.lt_succ_self m, z⟩, ρ', τ, h1, R', s.mono x, ?_⟩
        have p2 : PoS S W D ρ H (loopS (s1 τ h1) (sWhl m mc s1)) := p1
        cases q2 : s1 τ h1 with
        | nx t k => rw [q2] at p2; exact fun a b c e r z => ⟨a, t, k, r, z, PoS.from (x.trans e) p2⟩
        | ct t k => rw [q2] at p2; exact fun a b c e r z => ⟨a, t, k, r, z, PoS.from (x.trans e) p2⟩
        | bk t k => rw [q2] at p2; exact fun a b c e r z => p2 a b c (x.trans e) r z
        | rt t k => rw [q2] at p2; exact fun a b c e r z => p2 a b c (x.trans e) r z
        | exc v t k => rw [q2] at p2; exact fun a b c d f e r z y => p2 a b c d f (x.trans e) r z y
        | bad => rw [q2] at p2; exact p2
    | exc v h1 =>
      rw [q] at p0
      exact fun a b c d e r q => p0 a b σ c d e r (s.mono e) q
    | bad => rw [q] at p0; exact p0
end
end RT
end
section
set_option Elab.async false
set_option linter.all false
set_option maxRecDepth 100000
set_option maxHeartbeats 1000000
namespace RT
open PySem PySem.Spec PyProof.Rows L2
/-! what is walked -/
structure Wk (S : Kit) (J : It) (src : EV) (ok : List Addr → Hp → Prop) : Prop where
  mono : ∀ ρ H ρ' H', ok ρ H → Le S ρ H ρ' H' → ok ρ' H'
  go : ∀ ρ H h i e, ok ρ H → Rep S ρ h H → srcAt h src i = some (some e) → J.go i H ∧ ∀ x H', J.yld i H x H' → Ext S ρ H ρ H' ∧ Rep S ρ h H' ∧ VR S ρ H' e x
  stop : ∀ ρ H h i, ok ρ H → Rep S ρ h H → srcAt h src i = some none → J.stop i H
theorem wk_tup {S : Kit} {es : List EV} {a : Addr} : Wk S (Itt S.K a) (.tup es) (fun ρ H => ∃ vs, SqT S.K H a vs ∧ VRs S ρ H es vs) where
  mono := fun ρ H ρ' H' ⟨vs, h1, h2⟩ x => ⟨vs, x.tup _ _ h1, h2.monoL x⟩
  go := fun ρ H h i e ⟨vs, h1, h2⟩ R q => by
    have q' : nth es i = some e := Option.some.inj q
    rw [nth_eq] at q'
    obtain ⟨v, g1, g2⟩ := h2.get q'
    refine ⟨⟨vs, v, h1, g1⟩, fun x H' ⟨e1, e2⟩ => ?_⟩
    subst e1
    have := e2 vs h1
    rw [g1] at this; cases this
    exact ⟨.refl, R, g2⟩
  stop := fun ρ H h i ⟨vs, h1, h2⟩ R q => by
    have q' : nth es i = none := Option.some.inj q
    rw [nth_eq] at q'
    refine ⟨vs, h1, ?_⟩
    rw [← h2.length]
    exact List.getElem?_eq_none_iff.mp q'
theorem wk_lst {S : Kit} {r : Nat} {a : Addr} : Wk S (Itl S.K a) (.ref r) (fun ρ H => ρ[r]? = some a) where
  mono := fun ρ H ρ' H' h x => x.at h
  go := fun ρ H h i e ha R q => by
    have q0 : (match h.get r with | some (.lst es) => some (nth es i) | _ => none) = some (some e) := q
    split at q0
    · rename_i es eg
      have q' : nth es i = some e := Option.some.inj q0
      rw [nth_eq] at q'
      obtain ⟨vs, hvs, rv⟩ := R.lst ha eg
      obtain ⟨v, g1, g2⟩ := rv.get q'
      refine ⟨⟨vs, v, SqL.of hvs, g1⟩, fun x H' ⟨e1, e2⟩ => ?_⟩
      subst e1
      have := e2 vs (SqL.of hvs)
      rw [g1] at this; cases this
      exact ⟨.refl, R, g2⟩
    · cases q0
  stop := fun ρ H h i ha R q => by
    have q0 : (match h.get r with | some (.lst es) => some (nth es i) | _ => none) = some none := q
    split at q0
    · rename_i es eg
      have q' : nth es i = none := Option.some.inj q0
      rw [nth_eq] at q'
      obtain ⟨vs, hvs, rv⟩ := R.lst ha eg
      refine ⟨vs, SqL.of hvs, ?_⟩
      rw [← rv.length]
      exact List.getElem?_eq_none_iff.mp q'
    · cases q0
/-- behind the walked thing's expression -/
def PoI (S : Kit) (W : XW) (R : It → Hp → Prop) (ρ : List Addr) (H : Hp) : Out → Prop
  | .val v h => (∃ o, srcAt h v 0 = some o) ∧ ∀ ρ' H' J ok, Ext S ρ H ρ' H' → Rep S ρ' h H' → Wk S J v ok → ok ρ' H' → R J H'
  | .exc e h => ∀ ρ' H' c d, Ext S ρ H ρ' H' → Rep S ρ' h H' → ER S ρ' H' e c d → W c d H'
  | .bad => False
def TI' (S : Kit) (W : WX) (m : M) : TI := fun σ H R => ∃ ρ τ h, Rep S ρ h H ∧ SR S ρ H τ σ ∧ PoI S (at0 W σ) R ρ H (m τ h)
/-- a list or a tuple: which, is seen as it runs -/
def iSeq (K : PySem.W.Frag) (tl : TE) : TI := fun σ H R => tl σ H fun x H1 => ∃ a, x = .ref a ∧ (((∃ xs, SqL K H1 a xs) ∧ R (Itl K a) H1) ∨ ((∃ xs, SqT K H1 a xs) ∧ R (Itt K a) H1))
theorem pi_seq {X : Cx} {tg l : Expr} {tl : TE} (hl : PE X l tl) : PI X tg l (iSeq X.K tl) := by
  refine ⟨fun pins s σ H R I hq => ?_⟩
  refine thn (hl.run pins s σ H _ I hq) ?_
  rintro v s1 ⟨x, H1, I1, r1, a, rfl, q1⟩
  have ev : v = Value.ref a := r1
  subst ev
  -- a walk of the very value, by the layer's own rules for a name's value
  rcases q1 with ⟨⟨xs, hs⟩, q⟩ | ⟨⟨xs, hs⟩, q⟩
  · obtain ⟨its, rv, pl, _⟩ := I1.list hs
    refine wpAny_pyIter_list pl.isList ⟨_, [s1.heap.objs.size], _, _, H1, rfl, ?_, turn_list a _, ⟨_, Heap.get?_push_size _ rfl, rfl, rfl⟩, ?_, q⟩
    · exact I1.kept (t' := s1.toks) fun _ _ z => Heap.get?_push_of_some _ z
    · intro b hb
      rw [List.mem_singleton.mp hb]
      exact I1.fpOk (Nat.le_refl _) (I1.hok.fresh (Nat.le_refl _))
  · obtain ⟨its, rv, pl, _⟩ := I1.tuple hs
    refine wpAny_pyIter_tuple pl ⟨_, [s1.heap.objs.size], _, _, H1, rfl, ?_, turn_tuple a _, ⟨_, Heap.get?_push_size _ rfl, rfl, rfl⟩, ?_, q⟩
    · exact I1.kept (t' := s1.toks) fun _ _ z => Heap.get?_push_of_some _ z
    · intro b hb
      rw [List.mem_singleton.mp hb]
      exact I1.fpOk (Nat.le_refl _) (I1.hok.fresh (Nat.le_refl _))
section
variable {X : Cx} {S : Kit} {W : WX} {pos : Pos} {tg e : Expr} {m me : M} {body : List Stmt} {sb : MS} {g : MG}
theorem i_seq (hK : S.K = X.K) (he : PE X e (TM S W m)) : PI X tg e (TI' S W m) := by
  have base := pi_seq (tg := tg) he
  refine ⟨fun pins s σ H R I ⟨ρ, τ, h, R0, sr, p⟩ => base.run pins s σ H R I ?_⟩
  refine ⟨ρ, τ, h, R0, sr, ?_⟩
  cases q : m τ h with
  | val v h1 =>
    rw [q] at p
    obtain ⟨⟨o, eo⟩, p⟩ := p
    intro ρ' H' v' x R' r
    cases r with
    | tup ha hv =>
      refine ⟨_, rfl, .inr ⟨⟨_, hK ▸ ha⟩, ?_⟩⟩
      rw [← hK]
      exact p ρ' H' _ _ x R' wk_tup ⟨_, ha, hv⟩
    | ref ha =>
      rename_i i a
      have q0 : (match h1.get i with | some (.lst es) => some (nth es 0) | _ => none) = some o := eo
      split at q0
      · rename_i es eg
        obtain ⟨vs, hvs, rv⟩ := R'.lst ha eg
        refine ⟨_, rfl, .inl ⟨⟨_, SqL.of hvs⟩, ?_⟩⟩
        rw [← hK]
        exact p ρ' H' _ _ x R' wk_lst ha
      · cases q0
    | _ => cases eo
  | exc v h1 => rw [q] at p; exact p
  | bad => rw [q] at p; exact p
/-- what a target's store may come to -/
structure Plain (g : MG) : Prop where
  rt : ∀ v τ h w k, g v τ h ≠ .rt w k
  bk : ∀ v τ h w k, g v τ h ≠ .bk w k
  ct : ∀ v τ h w k, g v τ h ≠ .ct w k
theorem plain_var (i : Nat) : Plain (gVar i) := ⟨(by intro _ _ _ _ _ z; cases z), (by intro _ _ _ _ _ z; cases z), (by intro _ _ _ _ _ z; cases z)⟩
theorem s_for {N : Nat} (hp : PassesOwn (model X.prog X.w) X.A X.env X.xe) (hc : X.calm = true) (hi : PI X tg e (TI' S W me)) (hg : PG X tg (TG' S W g)) (pg : Plain g) (hb : PSs X body (TS' S W sb))
    (hs : ∀ x, foldedSetIterable e X.env x = pure x := by intro _; rfl) : PS X (.For tg e body [] pos) (TS' S W (sFor N g me sb)) := by
  refine PS.imp (ps_for hp hc hi hg hb hs) fun D σ H ⟨ρ, τ, h, R, s, p⟩ => ⟨ρ, τ, h, R, s, ?_⟩
  have p0 : PoS S W D ρ H ((me τ h).thenS τ fun x h1 => forL N g x sb 0 τ h1) := p
  cases q : me τ h with
  | exc v h1 =>
    rw [q] at p0
    exact fun a b c d e r q => p0 a b σ c d e r (s.mono e) q
  | bad => rw [q] at p0; exact p0
  | val src h1 =>
    rw [q] at p0
    have p1 : PoS S W D ρ H (forL N g src sb 0 τ h1) := p0
    refine ⟨?_, fun ρ' H' J ok x R' wk hok => ?_⟩
    · cases N with
      | zero => exact False.elim p1
      | succ N =>
        cases q2 : srcAt h1 src 0 with
        | some o => exact ⟨o, rfl⟩
        | none =>
          have p2 : PoS S W D ρ H ((srcAt h1 src 0).rec .bad fun o => o.rec (.nx τ h1) fun v => (g v τ h1).go fun σ1 h1 => loopS (sb σ1 h1) (forL N g src sb 1)) := p1
          rw [q2] at p2; exact False.elim p2
    · refine ⟨fun i m σ H => ∃ ρ τ h, Rep S ρ h H ∧ SR S ρ H τ σ ∧ ok ρ H ∧ PoS S W D ρ H (forL m g src sb i τ h), ⟨N, ρ', τ, h1, R', s.mono x, hok, PoS.from x p1⟩, ?_⟩
      rintro i m σ2 H2 ⟨ρ2, τ2, h2, R2, s2, ok2, p2⟩
      cases m with
      | zero => exact False.elim p2
      | succ m =>
        have p3 : PoS S W D ρ2 H2 ((srcAt h2 src i).rec .bad fun o => o.rec (.nx τ2 h2) fun v => (g v τ2 h2).go fun σ1 h1 => loopS (sb σ1 h1) (forL m g src sb (i + 1))) := p2
        cases q2 : srcAt h2 src i with
        | none => rw [q2] at p3; exact False.elim p3
        | some o =>
          rw [q2] at p3
          cases o with
          | none => exact .inl ⟨wk.stop _ _ _ _ ok2 R2 q2, p3 ρ2 H2 σ2 .refl R2 s2⟩
          | some v =>
            obtain ⟨go, yl⟩ := wk.go _ _ _ _ _ ok2 R2 q2
            refine .inr ⟨go, fun σ' H' => ∃ ρ τ h, Rep S ρ h H' ∧ SR S ρ H' τ σ' ∧ ok ρ H' ∧ PoS S W D ρ H' (forL m g src sb (i + 1) τ h), fun σ' H' z => ⟨m, Nat.lt_succ_self m, z⟩, fun xv H3 y => ?_⟩
            obtain ⟨x3, R3, r3⟩ := yl xv H3 y
            refine ⟨ρ2, τ2, h2, v, R3, s2.mono x3, r3, ?_⟩
            have p4 : PoS S W D ρ2 H3 ((g v τ2 h2).go fun σ1 h1 => loopS (sb σ1 h1) (forL m g src sb (i + 1))) := PoS.from x3 p3
            have ok3 := wk.mono _ _ _ _ ok2 x3.toLe
            cases q4 : g v τ2 h2 with
            | rt w k => exact absurd q4 (pg.rt _ _ _ _ _)
            | bk w k => exact absurd q4 (pg.bk _ _ _ _ _)
            | ct w k => exact absurd q4 (pg.ct _ _ _ _ _)
            | bad => rw [q4] at p4; exact p4
            | exc w t k => rw [q4] at p4; exact p4
            | nx t k =>
              rw [q4] at p4
              have p5 : PoS S W D ρ2 H3 (loopS (sb t k) (forL m g src sb (i + 1))) := p4
              intro ρ5 H5 σ5 x5 R5 s5
              refine ⟨ρ5, t, k, R5, s5, ?_⟩
              have ok5 := wk.mono _ _ _ _ ok3 x5.toLe
              cases q6 : sb t k with
              | nx t k => rw [q6] at p5; exact fun a b c e r z => ⟨a, t, k, r, z, wk.mono _ _ _ _ ok5 e.toLe, PoS.from (x5.trans e) p5⟩
              | ct t k => rw [q6] at p5; exact fun a b c e r z => ⟨a, t, k, r, z, wk.mono _ _ _ _ ok5 e.toLe, PoS.from (x5.trans e) p5⟩
              | bk t k => rw [q6] at p5; exact fun a b c e r z => p5 a b c (x5.trans e) r z
              | rt t k => rw [q6] at p5; exact fun a b c e r z => p5 a b c (x5.trans e) r z
              | exc v t k => rw [q6] at p5; exact fun a b c d f e r z y => p5 a b c d f (x5.trans e) r z y
              | bad => rw [q6] at p5; exact p5
end
end RT
end
section
set_option Elab.async false
set_option linter.all false
set_option maxRecDepth 100000
set_option maxHeartbeats 1000000
namespace RT
open PySem PySem.Spec PyProof.Rows L2
/-- nothing is raised -/
abbrev W0 : WX := fun _ _ _ _ => False
theorem wipeE_len (τ : ES) : ∀ vs : List Nat, (wipeE τ vs).length = τ.length
  | [] => rfl
  | v :: vs => by
    show (setN (wipeE τ vs) none v).length = _
    rw [setN_eq, List.length_set, wipeE_len τ vs]
theorem SR.wipe {S ρ H τ σ} (s : SR S ρ H τ σ) : ∀ vs : List Nat, (∀ v ∈ vs, S.fr v = true) → SR S ρ H (wipeE τ vs) (L2.wipe σ vs)
  | [], _ => s
  | v :: vs, hfr => by
    have ih := SR.wipe s vs fun v m => hfr v (List.mem_cons_of_mem _ m)
    refine ⟨by rw [wipeE_len, L2.wipe_length]; exact s.len, S.cl _ v none (hfr v List.mem_cons_self) ih.sl, fun i e q => ?_⟩
    have q' : ((wipeE τ vs).set v none)[i]? = some (some e) := by
      rw [← setN_eq]; exact q
    show ∃ w, ((L2.wipe σ vs).set v none)[i]? = some (some w) ∧ _
    by_cases z : v = i
    · subst z
      by_cases l : v < (wipeE τ vs).length
      · rw [List.getElem?_set_self l] at q'; cases q'
      · rw [List.getElem?_eq_none (by simpa using l)] at q'; cases q'
    · rw [List.getElem?_set_ne z] at q' ⊢
      exact ih.at' i e q'
/-- what a comprehension's target does: it stores into its own places alone -/
structure Own (S : Kit) (g : MG) (tg : TG) (vs : List Nat) : Prop where
  run : ∀ (ρ : List Addr) (H : Hp) (h : EH) (τ : ES) (σ : St) (e : EV) (v : V) (τ1 : ES) (h1 : EH) (Q : St → Hp → Prop), Rep S ρ h H → SR S ρ H τ σ → VR S ρ H e v → g e τ h = .nx τ1 h1 →
    (∀ ρ' σ' H', Ext S ρ H ρ' H' → Rep S ρ' h1 H' → SR S ρ' H' τ1 σ' → wipe σ' vs = wipe σ vs → Q σ' H') → tg v σ H Q
theorem wipe_set (σ : St) (i : Nat) (v : V) : ∀ vs : List Nat, i ∈ vs → wipe (σ.set i (some v)) vs = wipe σ vs
  | [], h => by cases h
  | a :: vs, h => by
    show (wipe (σ.set i (some v)) vs).set a none = (wipe σ vs).set a none
    by_cases m : i ∈ vs
    · rw [wipe_set σ i v vs m]
    · have : i = a := by
        rcases List.mem_cons.mp h with q | q
        · exact q
        · exact absurd q m
      subst this
      have key : ∀ vs : List Nat, i ∉ vs → wipe (σ.set i (some v)) vs = (wipe σ vs).set i (some v) := by
        intro vs
        induction vs with
        | nil => intro _; rfl
        | cons b r ih =>
          intro hm
          rw [List.mem_cons, not_or] at hm
          show (wipe (σ.set i (some v)) r).set b none = ((wipe σ r).set b none).set i (some v)
          rw [ih hm.2, List.set_comm _ _ hm.1]
      rw [key vs m, List.set_set]
theorem wipe_at (σ : St) : ∀ (vs : List Nat) (i : Nat), (L2.wipe σ vs)[i]? = if i ∈ vs ∧ i < σ.length then some none else σ[i]?
  | [], i => by
    rw [if_neg (by simp)]; rfl
  | v :: vs, i => by
    show ((L2.wipe σ vs).set v none)[i]? = _
    have hl := L2.wipe_length σ vs
    by_cases z : v = i
    · subst z
      by_cases l : v < σ.length
      · rw [List.getElem?_set_self (by omega), if_pos ⟨List.mem_cons_self, l⟩]
      · rw [List.getElem?_eq_none (by rw [List.length_set]; omega), if_neg (fun q => l q.2), List.getElem?_eq_none (by omega)]
    · rw [List.getElem?_set_ne z, wipe_at σ vs i]
      by_cases q : i ∈ vs ∧ i < σ.length
      · rw [if_pos q, if_pos ⟨List.mem_cons_of_mem _ q.1, q.2⟩]
      · rw [if_neg q, if_neg (fun w => q ⟨(List.mem_cons.mp w.1).elim (fun y => absurd y.symm z) id, w.2⟩)]
theorem wipe_wipe (σ : St) (vs : List Nat) : L2.wipe (L2.wipe σ vs) vs = L2.wipe σ vs := by
  apply List.ext_getElem?
  intro i
  rw [wipe_at (L2.wipe σ vs) vs i, L2.wipe_length, wipe_at σ vs i]
  by_cases q : i ∈ vs ∧ i < σ.length
  · rw [if_pos q, if_pos q]
  · rw [if_neg q, if_neg q]
theorem own_var {S : Kit} (i : Nat) (vs : List Nat) (hi : i ∈ vs) (hfr : S.fr i = true := by rfl) : Own S (gVar i) (gName i) vs where
  run := fun ρ H h τ σ e v τ1 h1 Q R s r q k => by
    cases q
    exact k ρ _ H .refl R (s.set i hfr r) (wipe_set σ i v vs hi)
section
variable {X : Cx} {S : Kit} {W : WX} {pos : Pos} {tg elt it c : Expr} {me mi mc : M} {g : MG} {tt : TG}
/-- the tests of a comprehension: none or one -/
def TTs (S : Kit) (t : Option M) : TT := match t with
  | none => tYes
  | some m => TT' S W0 m
theorem PoE.noexc {U : XW} {Q : VK} {ρ : List Addr} {H : Hp} {o : Out} {k : EV → EH → OutL} {f : List EV → EH → Out} (p : PoE S U Q ρ H ((o.toL k).then f)) : ∃ v h, o = .val v h ∧ PoE S U Q ρ H ((k v h).then f) := by
  cases o with
  | val v h => exact ⟨v, h, rfl, p⟩
  | exc v h => exact False.elim p
  | bad => exact False.elim p
theorem PoE.noexcS {U : XW} {Q : VK} {ρ : List Addr} {H : Hp} {o : OutS} {k : ES → EH → OutL} {f : List EV → EH → Out} (p : PoE S U Q ρ H ((o.toL k).then f)) : ∃ v h, o = .nx v h ∧ PoE S U Q ρ H ((k v h).then f) := by
  cases o with
  | nx v h => exact ⟨v, h, rfl, p⟩
  | _ => exact False.elim p
noncomputable def finL (vs : List EV) (h : EH) : Out := .val (.ref h.n) (h.new (.lst vs))
/-- the state of the list that is made, at a turn -/
structure LcAt (S : Kit) (ok : List Addr → Hp → Prop) (ρ1 : List Addr) (H1 : Hp) (D : Addr) (τ : ES) (σ : St) (N m : Nat) (ρ : List Addr) (h : EH) (acc : List EV) (vs : List V) (H : Hp) : Prop where
  rep : Rep S ρ h H
  sr : SR S ρ H τ σ
  ok : ok ρ H
  here : H D = some (.lst vs)
  non : D ∉ ρ
  vrs : VRs S ρ H acc.reverse vs
  few : acc.length + m ≤ N
  ext : Ext S ρ1 H1 ρ H
theorem x_lc {N : Nat} {scope : Scope} {own : List (Str × Nat)} {ifs : List Expr} {t : Option M} (hNs : N ≤ 16777216) (hfr : ∀ v ∈ own.map (·.2), S.fr v = true) (hc : X.calm = true) (hN : X.N.Nodup) (hi : PI X tg it (TI' S W mi)) (ok : BlkOk X.N X.env.scope scope own)
    (hg : ∀ (s : Shared) (H : Hp) (C : Addr) (cl : List (Str × Addr)) (fp : List Addr), PG (X.blk s H scope (compEnvC scope cl C X.env) fp) tg tt) (og : Own S g tt (own.map (·.2)))
    (ht : ∀ (s : Shared) (H : Hp) (C : Addr) (cl : List (Str × Addr)) (fp : List Addr), PTs (X.blk s H scope (compEnvC scope cl C X.env) fp) ifs (TTs S t))
    (he : ∀ (s : Shared) (H : Hp) (C : Addr) (cl : List (Str × Addr)) (fp : List Addr), PE (X.blk s H scope (compEnvC scope cl C X.env) fp) elt (TM S W0 me)) (hs : ∀ x, foldedSetIterable it X.env x = pure x := by intro _; rfl) :
    PE X (.ListComp elt [⟨tg, it, ifs, 0⟩] scope pos) (TM S W (xLc N (own.map (·.2)) me g mi t)) := by
  refine PE.imp (pe_lc hc hN hi ok hg ht he hs) fun σ H Q ⟨ρ, τ, h, R, s, p⟩ => ⟨ρ, τ, h, R, s, ?_⟩
  have p0 : PoE S (at0 W σ) Q ρ H ((mi τ h).then fun x h1 => (lcL N me g x t (wipeE τ (own.map (·.2))) 0 [] h1).then finL) := p
  cases q : mi τ h with
  | exc v h1 => rw [q] at p0; exact p0
  | bad => rw [q] at p0; exact p0
  | val src h1 =>
    rw [q] at p0
    have p1 : PoE S (at0 W σ) Q ρ H ((lcL N me g src t (wipeE τ (own.map (·.2))) 0 [] h1).then finL) := p0
    refine ⟨?_, fun ρ1 H1 J okk x R1 wk hok D hD => ?_⟩
    · cases N with
      | zero => exact False.elim p1
      | succ N =>
        cases q2 : srcAt h1 src 0 with
        | some o => exact ⟨o, rfl⟩
        | none =>
          have p2 : PoE S (at0 W σ) Q ρ H (Out.bad) := by
            have p3 : PoE S (at0 W σ) Q ρ H ((((srcAt h1 src 0).rec .bad fun o => o.rec (.vals [].reverse h1) fun v => (g v (wipeE τ (own.map (·.2))) h1).toL fun σ1 h2 => t.rec ((me σ1 h2).toL fun y h3 => lcL N me g src t (wipeE τ (own.map (·.2))) 1 [y] h3) fun c => (c σ1 h2).toL fun b h4 => (truth h4 b).rec .bad fun k => k.rec (lcL N me g src t (wipeE τ (own.map (·.2))) 1 [] h4) ((me σ1 h4).toL fun y h3 => lcL N me g src t (wipeE τ (own.map (·.2))) 1 [y] h3) : OutL)).then finL) := p1
            rw [q2] at p3; exact p3
          exact False.elim p2
    · -- the loop
      have s1 := (s.mono x).wipe (own.map (·.2)) hfr
      have pA : PoE S (at0 W σ) Q ρ1 H1 ((lcL N me g src t (wipeE τ (own.map (·.2))) 0 [] h1).then finL) := PoE.from x p1
      have x0 : Ext S ρ1 H1 ρ1 (upd H1 D (.lst [])) := Ext.new0 hD
      refine ⟨fun i m H => ∃ ρ h acc vs, LcAt S okk ρ1 H1 D (wipeE τ (own.map (·.2))) (wipe σ (own.map (·.2))) N m ρ h acc vs H ∧ PoE S (at0 W σ) Q ρ1 H1 ((lcL m me g src t (wipeE τ (own.map (·.2))) i acc h).then finL),
        ⟨N, ρ1, h1, [], [], ⟨R1.laid hD, s1.mono x0, wk.mono _ _ _ _ hok x0.toLe, upd_same, fun hm => R1.no hm hD, .nil, by simp, x0⟩, pA⟩, ?_⟩
      rintro i m H2 ⟨ρ2, h2, acc, vs, A, p2⟩
      cases m with
      | zero => exact False.elim p2
      | succ m =>
        have p3 : PoE S (at0 W σ) Q ρ1 H1 ((((srcAt h2 src i).rec .bad fun o => o.rec (.vals acc.reverse h2) fun v => (g v (wipeE τ (own.map (·.2))) h2).toL fun σ1 h2 => t.rec ((me σ1 h2).toL fun y h3 => lcL m me g src t (wipeE τ (own.map (·.2))) (i + 1) (y :: acc) h3) fun c => (c σ1 h2).toL fun b h4 => (truth h4 b).rec .bad fun k => k.rec (lcL m me g src t (wipeE τ (own.map (·.2))) (i + 1) acc h4) ((me σ1 h4).toL fun y h3 => lcL m me g src t (wipeE τ (own.map (·.2))) (i + 1) (y :: acc) h3) : OutL)).then finL) := p2
        -- the next turn, or the end
        have grow : ∀ ρ3 H3 h3 y y', Ext S ρ2 H2 ρ3 H3 → Rep S ρ3 h3 H3 → VR S ρ3 H3 y y' → PoE S (at0 W σ) Q ρ1 H1 ((lcL m me g src t (wipeE τ (own.map (·.2))) (i + 1) (y :: acc) h3).then finL) →
            ∃ ac, H3 D = some (.lst ac) ∧ ac.length < sizeLine ∧ (fun H' => ∃ m', m' < m + 1 ∧ ∃ ρ h acc vs, LcAt S okk ρ1 H1 D (wipeE τ (own.map (·.2))) (wipe σ (own.map (·.2))) N m' ρ h acc vs H' ∧ PoE S (at0 W σ) Q ρ1 H1 ((lcL m' me g src t (wipeE τ (own.map (·.2))) (i + 1) acc h).then finL)) (upd H3 D (.lst (ac ++ [y']))) := by
          intro ρ3 H3 h3 y y' x3 R3 r3 p4
          obtain ⟨d3, n3⟩ := x3.keep D _ A.here A.non (fun ps z => by cases z)
          have few := A.few
          have hl := A.vrs.length
          rw [List.length_reverse] at hl
          refine ⟨vs, d3, by rw [sizeLine_eq]; omega, m, Nat.lt_succ_self m, ρ3, h3, y :: acc, vs ++ [y'], ⟨R3.updU n3 (nolst d3) (nolst' d3) (nolst2 d3), ?_, ?_, upd_same, n3, ?_, by simp only [List.length_cons]; omega, (A.ext.trans x3).updD hD (nolst d3)⟩, p4⟩
          · exact ⟨A.sr.len, A.sr.sl, fun i e z => by
              obtain ⟨w, w1, w2⟩ := A.sr.at' i e z
              exact ⟨w, w1, (w2.mono x3).monoL (by simpa using Le.upd (S := S) (ρ := ρ3) (o := .lst (vs ++ [y'])) (nolst d3) [])⟩⟩
          · exact wk.mono _ _ _ _ A.ok (x3.toLe.trans (by simpa using Le.upd (S := S) (ρ := ρ3) (o := .lst (vs ++ [y'])) (nolst d3) []))
          · rw [List.reverse_cons]
            exact ((A.vrs.mono x3).append (.cons r3 .nil)).monoL (by simpa using Le.upd (S := S) (ρ := ρ3) (o := .lst (vs ++ [y'])) (nolst d3) [])
        cases q2 : srcAt h2 src i with
        | none => rw [q2] at p3; exact False.elim p3
        | some o =>
          rw [q2] at p3
          cases o with
          | none =>
            refine .inl ⟨wk.stop _ _ _ _ A.ok A.rep q2, ?_⟩
            have p4 : PoE S (at0 W σ) Q ρ1 H1 (finL acc.reverse h2) := p3
            have nd : ∀ a u, H1 a = some u → a ≠ D := fun a u e => ne_of_none e hD
            refine p4 (ρ2 ++ [D]) H2 _ ⟨⟨A.ext.tup, ?_⟩, fun a u e n t => ?_⟩ (A.rep.num A.here A.non (.lst A.vrs)) (.ref ?_)
            · obtain ⟨z, rfl⟩ := A.ext.pre
              exact ⟨z ++ [D], by simp⟩
            · obtain ⟨e1, n1⟩ := A.ext.keep a u e n t
              exact ⟨e1, fun m => (List.mem_append.mp m).elim n1 fun z => nd a u e (List.mem_singleton.mp z)⟩
            · rw [List.getElem?_append_right (by rw [A.rep.len]; exact Nat.le_refl _), A.rep.len]; simp
          | some v =>
            obtain ⟨go, yl⟩ := wk.go _ _ _ _ _ A.ok A.rep q2
            refine .inr ⟨go, fun H' => ∃ m', m' < m + 1 ∧ ∃ ρ h acc vs, LcAt S okk ρ1 H1 D (wipeE τ (own.map (·.2))) (wipe σ (own.map (·.2))) N m' ρ h acc vs H' ∧ PoE S (at0 W σ) Q ρ1 H1 ((lcL m' me g src t (wipeE τ (own.map (·.2))) (i + 1) acc h).then finL), fun H' z => z, fun xv H3 y => ?_⟩
            obtain ⟨x3, R3, r3⟩ := yl xv H3 y
            obtain ⟨τ4, h4, q4, p4⟩ := PoE.noexcS (o := g v (wipeE τ (own.map (·.2))) h2) p3
            refine og.run ρ2 H3 h2 _ _ v xv τ4 h4 _ R3 (A.sr.mono x3) r3 q4 fun ρ5 σ5 H5 x5 R5 s5 w5 => ⟨w5.trans (wipe_wipe σ _), ?_⟩
            have x35 := x3.trans x5
            cases t with
            | none =>
              have yes : ∀ Qb : Bool → Hp → Prop, Qb true H5 → TTs S none σ5 H5 Qb := fun _ z => z
              refine yes _ ?_
              refine iteT ⟨ρ5, τ4, h4, R5, s5, ?_⟩
              obtain ⟨yv, h6, q6, p6⟩ := PoE.noexc (o := me τ4 h4) p4
              rw [q6]
              exact fun ρ7 H7 y7 x7 R7 r7 => grow ρ7 H7 h6 yv y7 (x35.trans x7) R7 r7 p6
            | some c =>
              show TT' S W0 c σ5 H5 _
              refine ⟨ρ5, τ4, h4, R5, s5, ?_⟩
              obtain ⟨bv, h6, q6, p6⟩ := PoE.noexc (o := c τ4 h4) p4
              rw [q6]
              have p7 : PoE S (at0 W σ) Q ρ1 H1 ((((truth h6 bv).rec .bad fun k => k.rec (lcL m me g src (some c) (wipeE τ (own.map (·.2))) (i + 1) acc h6) ((me τ4 h6).toL fun y h3 => lcL m me g src (some c) (wipeE τ (own.map (·.2))) (i + 1) (y :: acc) h3) : OutL)).then finL) := p6
              cases q8 : truth h6 bv with
              | none => rw [q8] at p7; exact False.elim p7
              | some k =>
                rw [q8] at p7
                refine ⟨k, q8, fun ρ9 H9 x9 R9 => ?_⟩
                have x39 := x35.trans x9
                cases k with
                | true =>
                  refine iteT ⟨ρ9, τ4, h6, R9, s5.mono x9, ?_⟩
                  obtain ⟨yv, h10, q10, p10⟩ := PoE.noexc (o := me τ4 h6) p7
                  rw [q10]
                  exact fun ρ11 H11 y11 x11 R11 r11 => grow ρ11 H11 h10 yv y11 (x39.trans x11) R11 r11 p10
                | false =>
                  have kD := x39.keep D (.lst vs) A.here A.non (fun ps z => by cases z)
                  refine iteF ⟨m, Nat.lt_succ_self m, ρ9, h6, acc, vs, ⟨R9, A.sr.mono x39, wk.mono _ _ _ _ A.ok x39.toLe, kD.1, kD.2, A.vrs.mono x39, by have := A.few; omega, A.ext.trans x39⟩, p7⟩
end
end RT
end
section
set_option Elab.async false
set_option linter.all false
set_option maxRecDepth 100000
set_option maxHeartbeats 1000000
namespace RT
open PySem PySem.Spec PyProof.Rows L2
/-- what a def promises: what the small machine's function does -/
def spF (S : Kit) (c : List EV → EH → Out) : Sp := fun vs H Q E => ∃ ρ h es, Rep S ρ h H ∧ VRs S ρ H es vs ∧ PoE S E Q ρ H (c es h)
theorem pad_at (vs : List EV) (k i : Nat) (e : EV) (q : (pad vs k)[i]? = some (some e)) : vs[i]? = some e := by
  induction vs generalizing i with
  | nil =>
    have rp : ∀ k : Nat, ∀ i : Nat, (pad [] k)[i]? ≠ some (some e) := by
      intro k
      induction k with
      | zero =>
        intro i z
        have z' : ([] : ES)[i]? = some (some e) := z
        simp at z'
      | succ k ih =>
        intro i z
        cases i with
        | zero => simp [pad] at z
        | succ i => exact ih i (by simpa [pad] using z)
    exact absurd q (rp k i)
  | cons v r ih =>
    cases i with
    | zero =>
      have q' : some (some v) = some (some e) := by simpa [pad] using q
      cases q'; rfl
    | succ i => simpa using ih i (by simpa [pad] using q)
theorem pad_len (vs : List EV) (k : Nat) : (pad vs k).length = vs.length + k := by
  induction vs with
  | nil =>
    induction k with
    | zero => rfl
    | succ k ih =>
      show (pad [] k).length + 1 = _
      rw [ih]; simp
  | cons v r ih =>
    show (pad r k).length + 1 = _
    rw [ih, List.length_cons]; omega
theorem sr_start {S : Kit} {ρ : List Addr} {H : Hp} {es : List EV} {vs : List V} {N : List Str} {k : Nat} (r : VRs S ρ H es vs) (hN : N.length = es.length + k) (hs : ∀ σ, S.sl σ) : SR S ρ H (pad es k) (L2.start N vs) := by
  have hl := r.length
  refine ⟨?_, hs _, fun i e q => ?_⟩
  · rw [pad_len]
    unfold L2.start
    rw [List.length_append, List.length_map, List.length_replicate]
    omega
  · obtain ⟨v, h1, h2⟩ := r.get (pad_at es k i e q)
    refine ⟨v, ?_, h2⟩
    unfold L2.start
    have hi := (List.getElem?_eq_some_iff.mp h1).1
    rw [List.getElem?_append_left (by simpa using hi), List.getElem?_map, h1]; rfl
section
variable {S : Kit} {P : Program} {w : World} {mg : Str → Option Value} {base : Heap}
theorem ifL {b : Bool} {o : Out} {U : XW} {Q : VK} {ρ : List Addr} {H : Hp} (p : PoE S U Q ρ H (Bool.rec (motive := fun _ => Out) .bad o b)) : b = true ∧ PoE S U Q ρ H o := ifB p
/-- a def keeps it, by its body -/
theorem def_ok {x qual : Str} {st : Stmt} {f : Addr} {fd : FuncData} {N ps : List Str} {k kk np : Nat} {mb : MS} (F : Fun S.K x qual st f fd) (Sc : FnScope N ps (defScope st)) (hsl : ∀ σ, S.sl σ) (hp : ps.length = np) (hN : N.length = np + kk)
    (hb : ∀ (cdv : Value) (A : Around) (outer : List Env) (s : Shared) (H : Hp) (E : XK), Room k (A.deeper (envOfC qual (defScope st) s.heap.objs.size f cdv)) →
      PSs (cxOf (L2.CX P w) P w S.K mg base N qual (defScope st) f cdv A outer s H E) (defBody st) (TS' S (fun c d _ H => E c d H) mb)) :
    FnOk P w S.K mg base (L2.CX P w) (k + 1) f fd ps (spF S (mkF np kk mb)) := by
  have arity : ∀ vs H Q E, spF S (mkF np kk mb) vs H Q E → vs.length = ps.length := by
    rintro vs H Q E ⟨ρ, h, es, R, r, p⟩
    obtain ⟨c, _⟩ := ifB p
    have := Nat.eq_of_beq_eq_true c
    rw [hp, ← r.length]; exact this
  refine F.okX Sc arity fun cdv A outer s H vs Q E hr hsp => ?_
  have ar := arity _ _ _ _ hsp
  obtain ⟨ρ, h, es, R, r, p⟩ := hsp
  obtain ⟨c, p⟩ := ifB p
  refine ⟨_, hb cdv A outer s H E hr, ρ, pad es kk, h, R, sr_start r ?_ hsl, ?_⟩
  · rw [hN, r.length, ar, hp]
  · have p1 : PoE S E Q ρ H (mb (pad es kk) h).ret := p
    cases q : mb (pad es kk) h with
    | nx τ h1 => rw [q] at p1; exact fun a b c e r z => p1 a b .non e r .non
    | rt v h1 => rw [q] at p1; exact p1
    | exc v τ h1 => rw [q] at p1; exact fun a b c d f e r z y => p1 a b d f e r y
    | bk τ h1 => rw [q] at p1; exact False.elim p1
    | ct τ h1 => rw [q] at p1; exact False.elim p1
    | bad => rw [q] at p1; exact False.elim p1
end
section
variable {X : Cx} {S : Kit} {W : WX} {p pos : Pos} {e : Expr} {es : List Expr} {ml : ML} {x : Str} {f : Addr} {fd : FuncData} {ps : List Str} {k : Nat}
/-- a call of a def by its name -/
theorem x_call {cf : CF} {i : Nat} (hK : S.K = X.K) (F : FnOk X.prog X.w X.K X.mg X.base (L2.CX X.prog X.w) k f fd ps (spF S (cf i))) (hr : Room k X.A) (hg : Gl X x) (hm : X.mg x = some (.ref f)) (hk : PySem.W.keepIn X.K (.ref f) = true) (hb : Binds X.K fd ps [])
    (tk : Takes X W) (ha : PA X (e :: es) (TL S W ml)) (hdb : (x == ("__debug__" : Str)) = false := by decide) (he : starEach (e :: es) X.env = (false, eval e X.env) :: starEach es X.env := by rfl) (hpl : (backTo pos (starEach es X.env)).any (·.1) = false := by rfl) :
    PE X (.Call (.Name x p) (e :: es) [] pos) (TM S W (xCall0 cf i ml)) := by
  refine PE.imp (pe_callS F hr hg hm hk hb (passAt tk) ha hdb he hpl) fun σ H Q ⟨ρ, τ, h, R, s, p⟩ => ⟨ρ, τ, h, R, s, PoL.imp (PoL.then (o := ml τ h) p) ?_⟩
  rintro x' H1 ⟨ρ1, h1, x, e1, R1, r1, p1⟩
  exact ⟨ρ1, h1, x, R1, r1, p1⟩
/-- a built-in's function -/
def VCall (S : Kit) (f : EH → List EV → Out) (r : List V → Hp → VK → Prop) : Prop := ∀ (U : XW) (Q : VK) (ρ : List Addr) (H : Hp) (h : EH) (as : List EV) (vs : List V), Rep S ρ h H → VRs S ρ H as vs → PoE S U Q ρ H (f h as) → r vs H Q
theorem x_blt {id : String} {r : List V → Hp → VK → Prop} {g : EH → List EV → Out} (hc : CallR X (.builtin id) r) (hg : Gl X x) (hm : X.mg x = none) (hv : bootBuiltins x = some (.builtin id)) (vc : VCall S g r) (ha : PA X (e :: es) (TL S W ml)) (hn : x ≠ "__name__" := by decide) (hdb : (x == ("__debug__" : Str)) = false := by decide)
    (he : starEach (e :: es) X.env = (false, eval e X.env) :: starEach es X.env := by rfl) (hpl : (backTo pos (starEach es X.env)).any (·.1) = false := by rfl) : PE X (.Call (.Name x p) (e :: es) [] pos) (TM S W (xB g ml)) := by
  refine PE.imp (pe_callB hc hg hm hv ha hn hdb he hpl) fun σ H Q ⟨ρ, τ, h, R, s, p⟩ => ⟨ρ, τ, h, R, s, PoL.imp (PoL.then (o := ml τ h) p) ?_⟩
  rintro x' H1 ⟨ρ1, h1, x, e1, R1, r1, p1⟩
  exact vc _ _ _ _ _ _ _ R1 r1 p1
theorem x_typ {id : String} {r : List V → Hp → VK → Prop} {g : EH → List EV → Out} (hc : CallR X (.type id) r) (hg : Gl X x) (hm : X.mg x = none) (hv : bootBuiltins x = some (.type id)) (vc : VCall S g r) (ha : PA X (e :: es) (TL S W ml)) (hn : x ≠ "__name__" := by decide) (hdb : (x == ("__debug__" : Str)) = false := by decide)
    (he : starEach (e :: es) X.env = (false, eval e X.env) :: starEach es X.env := by rfl) (hpl : (backTo pos (starEach es X.env)).any (·.1) = false := by rfl) : PE X (.Call (.Name x p) (e :: es) [] pos) (TM S W (xB g ml)) := by
  refine PE.imp (pe_callTy hc hg hm hv ha hn hdb he hpl) fun σ H Q ⟨ρ, τ, h, R, s, p⟩ => ⟨ρ, τ, h, R, s, PoL.imp (PoL.then (o := ml τ h) p) ?_⟩
  rintro x' H1 ⟨ρ1, h1, x, e1, R1, r1, p1⟩
  exact vc _ _ _ _ _ _ _ R1 r1 p1
end
/-- len of a list, a tuple -/
theorem v_len {S : Kit} : VCall S bLen (fun xs H Q => ∃ p ys, xs = [.ref p] ∧ (SqL S.K H p ys ∨ SqT S.K H p ys) ∧ Q (.int ys.length) H) := by
  intro U Q ρ H h as vs R r p
  cases r with
  | nil => exact False.elim p
  | cons r rr =>
    cases rr with
    | cons _ _ => exact False.elim p
    | nil =>
      rename_i x v
      have p' : PoE S U Q ρ H ((seqOf h x).rec .bad fun l => RT.mkI (.ofNat l.length) h) := p
      cases r with
      | tup ha hv =>
        have := PoE.mkI R p'
        rw [hv.length] at this
        exact ⟨_, _, rfl, .inr ha, this⟩
      | ref ha =>
        rename_i i a
        have e0 : seqOf h (.ref i) = (match h.get i with | some (.lst es) => some es | _ => none) := rfl
        rw [e0] at p'
        split at p'
        · rename_i es eg
          obtain ⟨vs, hvs, rv⟩ := R.lst ha eg
          have := PoE.mkI R p'
          rw [rv.length] at this
          exact ⟨_, _, rfl, .inl (SqL.of hvs), this⟩
        · exact False.elim p'
      | _ => exact False.elim p'
end RT
end
section
set_option Elab.async false
set_option linter.all false
set_option maxRecDepth 100000
set_option maxHeartbeats 1000000
namespace RT
open PySem PySem.Spec PyProof.Rows L2 GenW
/-! a generator expression's frame -/
abbrev gxX (X : Cx) (s : Shared) (H : Hp) (cenv : Env) (A : Around) (fp : List Addr) : Cx :=
  { X with A := A, s_0 := s, H_0 := H, env := cenv, outer := X.stack, stack := cenv :: X.stack, ex := fp, fn := fun x => cenv.scope.names.lookup x == some .cell, calm := true, pn := [], xe := fun _ _ => False }
structure GxOk (N : List Str) (sc scope : Scope) (own : List (Str × Nat)) : Prop where
  kind : scope.kind = .function
  co : scope.isCoroutine = false
  cell : ∀ y ∈ scope.names, y.2 ≠ .cell
  dot : scope.names.lookup (".0" : Str) = some NameKind.local
  uniq : ∀ y ∈ scope.names, scope.names.lookup y.1 = some y.2
  ix : ∀ p ∈ own, N[p.2]? = some p.1
  free : ∀ y ∈ scope.names, y.2 = .free → sc.names.lookup y.1 = some .cell ∨ sc.names.lookup y.1 = some .free
  own : ∀ y ∈ scope.names, y.2 = .local → y.1 ∈ own.map (·.1) ∨ y.1 ∉ N
def gxC (N : List Str) (sc scope : Scope) (own : List (Str × Nat)) : Bool :=
  (match scope.kind with | .function => true | _ => false) && !scope.isCoroutine && decide (scope.names.lookup (".0" : Str) = some NameKind.local) && (scope.names.all fun y => decide (scope.names.lookup y.1 = some y.2)) && (own.all fun p => decide (N[p.2]? = some p.1)) &&
    (scope.names.all fun y => match y.2 with
      | .free => (match sc.names.lookup y.1 with | some .cell => true | some .free => true | _ => false)
      | .local => decide (y.1 ∈ own.map (·.1)) || decide (y.1 ∉ N)
      | .cell => false
      | _ => true)
theorem gxOk_by {N : List Str} {sc scope : Scope} {own : List (Str × Nat)} (h : gxC N sc scope own = true) : GxOk N sc scope own := by
  unfold gxC at h
  simp only [Bool.and_eq_true, List.all_eq_true, decide_eq_true_eq] at h
  obtain ⟨⟨⟨⟨⟨h1, h2⟩, h3⟩, h4⟩, h5⟩, h6⟩ := h
  refine ⟨?_, by simpa using h2, fun y hy e => ?_, h3, h4, h5, fun y hy e => ?_, fun y hy e => ?_⟩
  · split at h1
    · assumption
    · cases h1
  · have z := h6 y hy
    rw [e] at z; cases z
  · have z := h6 y hy
    rw [e] at z
    dsimp only at z
    split at z
    · rename_i q; exact .inl q
    · rename_i q; exact .inr q
    · cases z
  · have z := h6 y hy
    rw [e] at z
    dsimp only at z
    rw [Bool.or_eq_true] at z
    rcases z with z | z
    · exact .inl (of_decide_eq_true z)
    · exact .inr (of_decide_eq_true z)
section
variable {X : Cx} {pins : List (Addr × Obj)} {σ : St} {H : Hp} {s s5 : Shared}
theorem gx_start {scope : Scope} {own : List (Str × Nat)} {fp : List Addr} {code : Value} {A : Around} {m : Str → Option Value} (I : Inv X pins σ H s) (ok : GxOk X.N X.env.scope scope own) (hN : X.N.Nodup) (hfp : ∀ b ∈ fp, FpOk X pins H b ∧ b < s.heap.objs.size)
    (hA : A.handled = none) (hAf : A.frames = some (genEnv scope (cloFrom X.env.cells scope.names []) s.heap.objs.size code builtinsNs X.env :: X.stack)) (ns : s5.heap.Ns s.heap.objs.size m) (kp : ∀ b o, s.heap.get? b = some o → s5.heap.get? b = some o) (os : s5.os = s.os) (hb : AllBare s5.gens) :
    Inv (gxX X s H (genEnv scope (cloFrom X.env.cells scope.names []) s.heap.objs.size code builtinsNs X.env) A fp) [] (wipe σ (own.map (·.2))) H s5 := by
  have hfree : ∀ y ∈ scope.names, y.2 = .free → ∃ c, X.env.cells.lookup y.1 = some c := fun y hy e => by
    rcases ok.free y hy e with k | k
    · exact I.ok.has _ (.inl k)
    · exact I.ok.has _ (.inr k)
  generalize hcenv : genEnv scope (cloFrom X.env.cells scope.names []) s.heap.objs.size code builtinsNs X.env = cenv at hAf ⊢
  have hL : cenv.locals = s.heap.objs.size := by rw [← hcenv]; rfl
  have hcl : cenv.cells = cloFrom X.env.cells scope.names [] := by rw [← hcenv]; rfl
  have hsc : cenv.scope = scope := by rw [← hcenv]; rfl
  have hfr : cenv.frame = some cenv.locals := by rw [← hcenv]; rfl
  have cm : ∀ {y c}, (y, c) ∈ cloFrom X.env.cells scope.names [] → X.env.cells.lookup y = some c ∧ c < s.heap.objs.size := fun {y c} hm => by
    rcases cloFrom_mem hm with hm | ⟨h1, rfl⟩
    · cases hm
    · obtain ⟨c, hc⟩ := hfree _ h1 rfl
      rw [hc]
      obtain ⟨w, z⟩ := I.cell _ _ hc
      exact ⟨rfl, z.lt⟩
  have mem : ∀ {y c}, cenv.cells.lookup y = some c → X.env.cells.lookup y = some c ∧ c < s.heap.objs.size := fun {y c} e => by
    rw [hcl] at e
    exact cm (PySem.mem_of_lookup e)
  have look : ∀ {y}, scope.names.lookup y = some .free → ∃ c, cenv.cells.lookup y = some c ∧ X.env.cells.lookup y = some c := fun {y} hl => by
    have hy : (y, NameKind.free) ∈ scope.names := PySem.mem_of_lookup hl
    obtain ⟨c', e'⟩ := mem_lookup (cloFrom_has (cells := X.env.cells) (acc := []) hy)
    rw [← hcl] at e'
    exact ⟨c', e', (mem e').1⟩
  have nocell : ∀ y, scope.names.lookup y ≠ some .cell := fun y e => ok.cell _ (PySem.mem_of_lookup e) rfl
  have okB : (gxX X s H cenv A fp).Ok := by
    refine ⟨I.ok.mod, by show cenv.scope.kind = _; rw [hsc]; exact ok.kind, by show cenv.globals = _; rw [← hcenv]; exact I.ok.glob, by show cenv.builtins = _; rw [← hcenv]; rfl, by show s.heap.objs.size ≤ cenv.locals; rw [hL]; exact Nat.le_refl _,
      fun y z c e1 e2 => I.ok.inj y z c (mem e1).1 (mem e2).1, fun y hy => ?_, fun y c z e => ?_, fun _ => hA, hAf, .inr ⟨rfl, hfr⟩, fun b hb => ⟨?_, fun y c e z => ?_⟩, I.bs, Nat.le_trans I.ok.bsz I.sz, fun b o e hb => ?_, fun b hb z => ?_, I.stack, I.stkFree⟩
    · rcases hy with hy | hy
      · have hy : cenv.scope.names.lookup y = some .cell := hy
        rw [hsc] at hy
        exact absurd hy (nocell y)
      · have hy : cenv.scope.names.lookup y = some .free := hy
        rw [hsc] at hy
        obtain ⟨c, h1, _⟩ := look hy
        exact ⟨c, h1⟩
    · have z : (cenv.scope.names.lookup y == some NameKind.cell) = true := z
      rw [hsc] at z
      exact absurd (by simpa using z) (nocell y)
    · show b ≠ cenv.locals
      rw [hL]; exact Nat.ne_of_lt (hfp b hb).2
    · exact (hfp b hb).1.2.2.2.2.1 y c (mem e).1 z
    · rcases (hfp b hb).1.2.2.2.1 with z | z
      · exact I.ok.noex b o e z
      · exact absurd (Nat.lt_of_lt_of_le (Heap.lt_size e) (Nat.le_trans I.ok.bsz z)) (Nat.lt_irrefl _)
    · rcases List.mem_cons.mp (I.stkSub b z) with z | z
      · exact (hfp b hb).1.2.1 z
      · exact (hfp b hb).1.2.2.1 z
  refine ⟨okB, os, hb, Un.kept kp, ⟨m, ?_, fun i y av e1 e2 e3 => ?_⟩, fun y c e => ?_, ?_, fun y c e => ?_, fun p hp => ?_, I.hok.kept kp, by rw [wipe_length]; exact I.len⟩
  · show Heap.Ns _ cenv.locals _
    rw [hL]; exact ns
  · obtain ⟨e2, hne⟩ := wipe_some e2
    have e3 : Vis cenv.scope y := e3
    rw [hsc] at e3
    have hf : scope.names.lookup y = some .free := by
      rcases e3 with k | k | k
      · exfalso
        rcases ok.own _ (PySem.mem_of_lookup k) rfl with e' | e'
        · obtain ⟨p, hp, hpy⟩ := List.mem_map.mp e'
          have e3 := ok.ix p hp
          have : p.1 = y := hpy
          rw [this] at e3
          exact hne (List.mem_map.mpr ⟨p, hp, nodup_ix hN e3 e1⟩)
        · exact e' (List.mem_of_getElem? e1)
      · exact absurd k (nocell y)
      · exact k
    obtain ⟨m0, hn, hl⟩ := I.loc
    have hvis : Vis X.env.scope y := (ok.free _ (PySem.mem_of_lookup hf) rfl).elim (fun k => .inr (.inl k)) (fun k => .inr (.inr k))
    obtain ⟨w, r, q⟩ := hl i y av e1 e2 hvis
    refine ⟨w, r, .inr ⟨.inr (by show cenv.scope.names.lookup y = _; rw [hsc]; exact hf), ?_⟩⟩
    obtain ⟨c, h1, h2⟩ := look hf
    rcases q with ⟨k, _⟩ | ⟨_, c', e', z⟩
    · have k : X.env.scope.names.lookup y = some .local := k
      rcases ok.free _ (PySem.mem_of_lookup hf) rfl with k' | k' <;> rw [show X.env.scope.names.lookup y = _ from k'] at k <;> cases k
    · rw [h2] at e'; cases e'
      exact ⟨c, h1, z.keeps kp⟩
  · obtain ⟨w, z⟩ := I.cell y c (mem e).1
    exact ⟨w, z.keeps kp⟩
  · show H cenv.locals = none
    rw [hL]; exact I.hok.fresh (Nat.le_refl _)
  · exact I.freeC y c (mem e).1
  · exact absurd (show p ∈ ([] : List (Addr × Obj)) ++ [] from hp) (by simp)
/-- where a generator expression's code runs -/
theorem over_gx {A : Around} {elt target iter : Expr} {ifs : List Expr} {scope : Scope} {pos : Pos} {it acc : Value} {env : Env} : A.over (.compLoop (.GeneratorExp elt [⟨target, iter, ifs, 0⟩] scope pos) 0 it acc env) [] = A.deeper env := by
  first
    | rfl
    | (obtain ⟨hd, d, fr, gs, u⟩ := A; simp [Around.over, Around.deeper, marksOver, frameCount, unitsOf, envsOf, guardsOf, pushEnvs, pushGuards, Code.envs, Code.env?, Code.isFrame, Code.guards, Code.isGuard, Code.weight, Code.frames, Code.isCreation, Code.isCaller, Code.cUnits])
theorem over_gxS {A : Around} {elt target iter : Expr} {ifs : List Expr} {scope : Scope} {pos : Pos} {it acc : Value} {env : Env} : A.over (.compStart (.GeneratorExp elt [⟨target, iter, ifs, 0⟩] scope pos) 0 it acc env) [] = A.deeper env := by
  first
    | rfl
    | (obtain ⟨hd, d, fr, gs, u⟩ := A; simp [Around.over, Around.deeper, marksOver, frameCount, unitsOf, envsOf, guardsOf, pushEnvs, pushGuards, Code.envs, Code.env?, Code.isFrame, Code.guards, Code.isGuard, Code.weight, Code.frames, Code.isCreation, Code.isCaller, Code.cUnits])
end
end RT
end
section
set_option Elab.async false
set_option linter.all false
set_option maxRecDepth 100000
set_option maxHeartbeats 1000000
namespace RT
open PySem PySem.Spec PyProof.Rows L2 GenW
/-! the loop of a generator expression -/
/-- while it sleeps: all is kept, or the list at S gets v -/
def Slp (S : Option Addr) (v : Value) (s s' : Shared) : Prop := match S with
  | none => s'.os = s.os ∧ AllBare s'.gens ∧ ∀ b o, s.heap.get? b = some o → s'.heap.get? b = some o
  | some S => Slept S v s s'
def GIo (X : Cx) (S : Option Addr) (ip : List (Addr × Obj)) (ys : List V) (σ : St) (H : Hp) (s : Shared) : Prop := match S with
  | none => Inv X ip σ H s
  | some S => GI X S ip ys σ H s
theorem keptS {X : Cx} {pins : List (Addr × Obj)} {σ : St} {H : Hp} {s s' : Shared} (I : Inv X pins σ H s) (os : s'.os = s.os) (hb : AllBare s'.gens) (k : ∀ b o, s.heap.get? b = some o → s'.heap.get? b = some o) : Inv X pins σ H s' := by
  obtain ⟨hh, g, d, t, o⟩ := s'
  have ho : o = s.os := os
  subst ho
  exact I.step (g' := g) (t' := t) (d' := d) (ch := []) (fun _ z => nomatch z) (fun b o _ _ _ e _ => k b o e) (fun b o _ _ _ e _ => ⟨o.slots, k b o e⟩) (fun _ _ _ _ n => n) (fun b o _ e => ⟨o, k b o e⟩)
    (fun _ _ e => e) (fun _ _ _ e => e) (fun b ps e => ⟨#[], by rw [e]; simp⟩) (fun m hm => by
      obtain ⟨o, es, ep, ho, r⟩ := hm
      exact ⟨o, es, ep, k _ o ho, r⟩) (I.hok.kept k) hb
theorem GIo.out {X : Cx} {S : Option Addr} {ip : List (Addr × Obj)} {ys : List V} {σ : St} {H : Hp} {s : Shared} (h : GIo X S ip ys σ H s) :
    ∃ pS : List (Addr × Obj), (∀ p ∈ pS, S = some p.1) ∧ Inv X (pS ++ ip) σ H s ∧ ∀ ip' σ' H' s', Inv X (pS ++ ip') σ' H' s' → GIo X S ip' ys σ' H' s' := by
  cases S with
  | none => exact ⟨[], (fun p hp => nomatch hp), h, fun _ _ _ _ I => I⟩
  | some S =>
    obtain ⟨acc, c, r, I⟩ := h
    exact ⟨[(S, lstObj acc c)], fun p hp => by rw [List.mem_singleton.mp hp], I, fun _ _ _ _ I' => ⟨acc, c, r, I'⟩⟩
theorem GIo.woken {X : Cx} {S : Option Addr} {ip : List (Addr × Obj)} {ys : List V} {x : V} {v : Value} {σ : St} {H : Hp} {s s' : Shared} (hpn : X.pn = []) (hip : ∀ p ∈ ip, S ≠ some p.1) (hA : ∀ T, S = some T → Apart X T) (h : GIo X S ip ys σ H s) (rv : RelV x v) (z : Slp S v s s') :
    GIo X S ip (ys ++ [x]) σ H s' := by
  cases S with
  | none => exact keptS h z.1 z.2.1 z.2.2
  | some S => exact GI.woken (fun p hp => by rw [hpn] at hp; cases hp) (fun p hp e => hip p hp (by rw [e])) (hA S rfl) h rv z
/-- the protocol: y is handed out -/
def YP (X : Cx) (S : Option Addr) (go : Addr × Obj) (Yd : List V → V → Hp → (List V → Hp → Prop) → Prop) : Protocol := fun n s₀ v s kap =>
  ∃ ys y ip σ H Nx, RelV y v ∧ GIo X S ip ys σ H s ∧ go ∈ ip ∧ Yd ys y H Nx ∧ ∀ s', Slp S v s s' → Nx (ys ++ [y]) H → kap (.send .none) s'
def RP (X : Cx) (S : Option Addr) (go : Addr × Obj) (Dn : List V → Hp → Prop) : GenEnd := fun n s₀ r s => r = .ok .next ∧ ∃ ys ip σ H, GIo X S ip ys σ H s ∧ go ∈ ip ∧ Dn ys H
/-- the turns -/
def Trn (J : It) (W : Nat → Nat → List V → Hp → Prop) (Yd : List V → V → Hp → (List V → Hp → Prop) → Prop) (Dn : List V → Hp → Prop) (gg : TG) (tt : TT) (te : TE) (vs : List Nat) (σ : St) : Prop :=
  ∀ i m ys H, W i m ys H → (J.stop i H ∧ Dn ys H) ∨ (J.go i H ∧ ∃ Nx : List V → Hp → Prop, (∀ ys' H', Nx ys' H' → ∃ m', m' < m ∧ W (i + 1) m' ys' H') ∧ ∀ x H', J.yld i H x H' →
    gg x (wipe σ vs) H' fun σ2 H2 => wipe σ2 vs = wipe σ vs ∧ tt σ2 H2 fun b H3 => if b = true then te σ2 H3 fun y H4 => Yd ys y H4 Nx else Nx ys H3)
theorem gx_loop {X : Cx} {sc : Shared} {Hc : Hp} {cenv : Env} {A : Around} {fp : List Addr} {S : Option Addr} {go : Addr × Obj} {J : It} {W : Nat → Nat → List V → Hp → Prop} {Yd : List V → V → Hp → (List V → Hp → Prop) → Prop} {Dn : List V → Hp → Prop} {gg : TG} {tt : TT} {te : TE} {vs : List Nat} {σ : St}
    {elt tg iter : Expr} {ifs : List Expr} {scope : Scope} {pos : Pos} {it : Addr} {tn : Nat → Heap → Prop}
    (pg : PG (gxX X sc Hc cenv (A.deeper cenv) fp) tg gg) (pt : PTs (gxX X sc Hc cenv (A.deeper cenv) fp) ifs tt) (pe : PE (gxX X sc Hc cenv (A.deeper cenv) fp) elt te) (T : Turn X.prog X.w X.K tg J fp it tn) (hco : cenv.scope.isCoroutine = false)
    (hfp : ∀ b ∈ fp, b < sc.heap.objs.size) (hgo : sc.heap.objs.size ≤ go.1) (hSg : S ≠ some go.1) (hA : ∀ T, S = some T → Apart (gxX X sc Hc cenv (A.deeper cenv) fp) T) (turn : Trn J W Yd Dn gg tt te vs σ) :
    ∀ (m n i : Nat) (ys : List V) (s₀ s : Shared) (H : Hp), m < n → W i m ys H → GIo (gxX X sc Hc cenv (A.deeper cenv) fp) S [go] ys (wipe σ vs) H s → tn i s.heap → (∀ b ∈ fp, H b = none) →
      Seg (model X.prog X.w) A (RP (gxX X sc Hc cenv (A.deeper cenv) fp) S go Dn) (YP (gxX X sc Hc cenv (A.deeper cenv) fp) S go Yd) n s₀ (.compLoop (.GeneratorExp elt [⟨tg, iter, ifs, 0⟩] scope pos) 0 (.ref it) .none cenv)
        ((model X.prog X.w).den (.compLoop (.GeneratorExp elt [⟨tg, iter, ifs, 0⟩] scope pos) 0 (.ref it) .none cenv)) [] s := by
  generalize hXg : gxX X sc Hc cenv (A.deeper cenv) fp = Xg at pg pt pe hA ⊢
  have eP : Xg.prog = X.prog := by rw [← hXg]
  have eW : Xg.w = X.w := by rw [← hXg]
  have eK : Xg.K = X.K := by rw [← hXg]
  have eC : Xg.calm = true := by rw [← hXg]
  have eE : Xg.env = cenv := by rw [← hXg]
  have eA : Xg.A = A.deeper cenv := by rw [← hXg]
  have eX : ∀ e s, Xg.xe e s → False := by rw [← hXg]; exact fun _ _ z => z
  have ePn : Xg.pn = [] := by rw [← hXg]
  have eEx : Xg.ex = fp := by rw [← hXg]
  have eS : Xg.s_0 = sc := by rw [← hXg]
  have stat : ∀ {pins : List (Addr × Obj)} {σ' : St} {H' : Hp} {s' : Shared}, (∀ p ∈ pins, sc.heap.objs.size ≤ p.1) → Inv Xg pins σ' H' s' → (∀ b ∈ fp, H' b = none) → ∀ b ∈ fp, FpOk Xg pins H' b := fun {pins σ' H' s'} hp I' hn b hb =>
    ⟨hn b hb, (I'.ok.exf b (eEx ▸ hb)).1, I'.ok.exfs b (eEx ▸ hb), .inl (eEx ▸ hb), fun x c e => (I'.ok.exf b (eEx ▸ hb)).2 x c e, fun p hpp => by
      rw [ePn] at hpp
      exact Nat.ne_of_gt (Nat.lt_of_lt_of_le (hfp b hb) (hp p hpp))⟩
  intro m
  induction m using Nat.strongRecOn with
  | ind m ih =>
    intro n i ys s₀ s H hmn w hI st hn
    obtain ⟨pS, hpS, I, back⟩ := hI.out
    have hpl : ∀ p ∈ pS ++ [go], sc.heap.objs.size ≤ p.1 := fun p hp => by
      rcases List.mem_append.mp hp with hp | hp
      · have := (hA p.1 (hpS p hp)).1
        rw [eS] at this; exact this
      · rw [List.mem_singleton.mp hp]; exact hgo
    show Seg _ A _ _ _ s₀ _ ((compTurn (.GeneratorExp elt [⟨tg, iter, ifs, 0⟩] scope pos) 0 (.ref it) .none cenv).onRaise (leaving cenv)) [] s
    rw [compTurn_gen, Sem.onRaise_eq_wrap]
    refine seg_bind_wrap (wpAny_standAt ?_)
    refine seg_bind_wrap ?_
    rw [over_gx]
    rcases turn i m ys H w with ⟨stop, dn⟩ | ⟨hgoT, Nx, hNx, step⟩
    · have td := T.done Xg eP eW eK eC i _ s _ H (fun _ _ => False) I (stat hpl I hn) st stop
      rw [eA] at td
      refine thnF td fun r s6 ⟨hr, I6⟩ => ?_
      subst hr
      exact seg_end (.ok .next) ⟨rfl, ys, [go], _, H, back _ _ _ _ I6, List.mem_singleton.mpr rfl, dn⟩
    · have ti := T.item Xg eP eW eK eC i _ s _ H (fun _ _ => False) I (stat hpl I hn) st hgoT
      rw [eA] at ti
      refine thnF ti fun r s6 ⟨u, hr, h6⟩ => ?_
      subst hr
      refine seg_bind_wrap ?_
      rw [over_gx]
      refine thnF h6 fun _ s7 ⟨x, H7, I7, r7, y7, st7, n7⟩ => ?_
      have I7' := I7.pinned (stat hpl I7 n7) (T.obj _ _ st7)
      have pgr := pg.run _ s7 _ H7 x u _ I7' r7 (step x H7 y7)
      rw [eP, eW, eA, eE] at pgr
      refine seg_bind_wrap ?_
      rw [over_gx]
      refine wpAny_mono pgr (fun _ s8 ⟨σ8, H8, I8, hw8, q8⟩ => ?_) fun _ _ z => (eX _ _ z).elim
      have ptr := pt.run _ s8 σ8 H8 _ I8 q8
      rw [eP, eW, eA, eE] at ptr
      refine seg_bind_wrap ?_
      rw [over_gx]
      refine wpAny_mono ptr (fun b s9 ⟨H9, I9, q9⟩ => ?_) fun _ _ z => (eX _ _ z).elim
      -- behind a turn
      have hl : (wipe σ vs).length = σ8.length := by rw [← hw8, wipe_length]
      have fin : ∀ {s' : Shared} {H' : Hp}, Inv Xg ((pS ++ [go]) ++ pinsAt fp s7.heap) σ8 H' s' → Inv Xg (pS ++ [go]) (wipe σ vs) H' s' ∧ tn (i + 1) s'.heap ∧ ∀ b ∈ fp, H' b = none := fun {s' H'} I' => by
        have pin' : ∀ b ∈ fp, ∀ o, s7.heap.get? b = some o → s'.heap.get? b = some o ∧ H' b = none := fun b hb o e =>
          let z := I'.pin (b, o) (List.mem_append_right _ (List.mem_append_right _ (mem_pinsAt hb e)))
          ⟨z.1, z.2.1⟩
        refine ⟨(I'.unpinned).weak hl (fun j v e => ?_), T.keep _ _ _ st7 fun b hb o e => (pin' b hb o e).1, fun b hb => ?_⟩
        · rw [← hw8] at e
          exact (wipe_some e).1
        · obtain ⟨o, e, _⟩ := T.obj _ _ st7 b hb
          exact (pin' b hb o e).2
      cases b with
      | false =>
        simp only [Bool.false_eq_true, if_false] at q9 ⊢
        obtain ⟨m', hm, w'⟩ := hNx _ _ q9
        obtain ⟨J1, J2, J3⟩ := fin I9
        exact seg_again rfl (ih m' hm n (i + 1) ys s₀ s9 H9 (by omega) w' (back _ _ _ _ J1) J2 J3)
      | true =>
        simp only [if_true] at q9 ⊢
        obtain ⟨n, rfl⟩ : ∃ k, n = k + 1 := ⟨n - 1, by omega⟩
        have per := pe.run _ s9 σ8 H9 _ I9 q9
        rw [eP, eW, eA, eE] at per
        have hy : ∀ v, yieldOut cenv v = yieldValue v := fun v => by simp only [yieldOut, hco, Bool.false_eq_true, if_false]
        simp only [hy]
        rw [Sem.bind_eq_wrap', Sem.bind_eq_wrap', Sem.wrap_wrap, Sem.wrap_wrap]
        refine seg_wrap ?_
        rw [over_gx]
        refine wpAny_mono per (fun z s10 ⟨yv, H10, I10, r10, yd⟩ => ?_) fun _ _ z => (eX _ _ z).elim
        obtain ⟨J1, J2, J3⟩ := fin I10
        have hG := back _ _ _ _ J1
        refine seg_at (seg_yield rfl rfl rfl ⟨ys, yv, [go], _, H10, Nx, r10, hG, List.mem_singleton.mpr rfl, yd, fun s'' hs nx => ?_⟩)
        obtain ⟨m', hm, w'⟩ := hNx _ _ nx
        have hG2 := hG.woken ePn (fun p hp => by rw [List.mem_singleton.mp hp]; exact hSg) hA r10 hs
        have keep : ∀ b ∈ fp, ∀ o, s10.heap.get? b = some o → s''.heap.get? b = some o := fun b hb o e => by
          cases S with
          | none => exact hs.2.2 b o e
          | some T =>
            refine hs.keep b o (fun z => ?_) e
            have := (hA T rfl).1
            rw [eS, ← z] at this
            exact absurd (Nat.lt_of_lt_of_le (hfp b hb) this) (Nat.lt_irrefl _)
        exact seg_again rfl (ih m' hm n (i + 1) (ys ++ [yv]) s'' s'' H10 (by omega) w' hG2 (T.keep _ _ _ J2 keep) J3)
end RT
end
section
set_option Elab.async false
set_option linter.all false
set_option maxRecDepth 100000
set_option maxHeartbeats 1000000
namespace RT
open PySem PySem.Spec PyProof.Rows L2 GenW
/-! a generator expression is made -/
abbrev gxCode (elt tg iter : Expr) (ifs : List Expr) (scope : Scope) (pos : Pos) (it : Addr) (cenv : Env) : Code := .compStart (.GeneratorExp elt [⟨tg, iter, ifs, 0⟩] scope pos) 0 (.ref it) .none cenv
/-- the generator at a has been made and not begun -/
structure GRdy (X : Cx) (pins : List (Addr × Obj)) (σ : St) (H : Hp) (J : It) (elt tg iter : Expr) (ifs : List Expr) (scope : Scope) (pos : Pos) (vs : List Nat) (a : Addr) (s5 : Shared) (sc : Shared) (cenv : Env) (fp : List Addr) (it : Addr) (tn : Nat → Heap → Prop) (g : Nat) (go : Obj) : Prop where
  inv : Inv X pins σ H sc
  gen : s5.heap.IsGen a g
  obj : s5.heap.get? a = some go
  gens : s5.gens[g]? = some (.fresh (gxCode elt tg iter ifs scope pos it cenv))
  os : s5.os = sc.os
  bare : AllBare s5.gens
  lim : s5.heap.NoLimit
  kept : ∀ b o, sc.heap.get? b = some o → s5.heap.get? b = some o
  lo : sc.heap.objs.size ≤ a
  hi : a < s5.heap.objs.size
  fpo : ∀ b ∈ fp, FpOk X pins H b ∧ b < sc.heap.objs.size
  turn : Turn X.prog X.w X.K tg J fp it tn
  at0 : tn 0 sc.heap
  co : cenv.scope.isCoroutine = false
  sco : cenv.scope = scope
  ce : ∃ cl C code bi, cenv = genEnv scope cl C code bi X.env
  loc : cenv.locals = sc.heap.objs.size
  cells : ∀ x c, cenv.cells.lookup x = some c → c < sc.heap.objs.size
  wake : ∀ (A : Around) (s2 : Shared), A.handled = none → A.frames = some X.stack → (∀ b o, s5.heap.get? b = some o → s2.heap.get? b = some o) → s2.os = sc.os → AllBare s2.gens →
    Inv (gxX X sc H cenv (A.deeper cenv) fp) [(a, go)] (wipe σ vs) H s2
section
variable {X : Cx} {pins : List (Addr × Obj)} {σ : St} {H : Hp} {s : Shared}
theorem gx_make {c P : Addr} {elt tg iter : Expr} {ifs : List Expr} {pos : Pos} {scope : Scope} {own : List (Str × Nat)} {wi : TI} {Q' : Value → Shared → Prop} {RR : It → Hp → Prop} (hr : Room 1 X.A) (TB : GxR.TabB X.base X.mg c P) (hcode : X.env.code = .ref c) (ok : GxOk X.N X.env.scope scope own) (hN : X.N.Nodup)
    (hi : PI X tg iter wi) (hs : ∀ v, genFold iter X.env v = pure v) (I : Inv X pins σ H s) (h : wi σ H fun J H1 => GxR.TabG H1 P ∧ ∀ H2, GxR.Tabbed P H1 H2 → RR J H2)
    (hQ : ∀ J H2 a s5 sc cenv fp it tn g go, RR J H2 → GRdy X pins σ H2 J elt tg iter ifs scope pos (own.map (·.2)) a s5 sc cenv fp it tn g go → (∃ ps, H2 P = some (.tbl ps)) → Q' (.ref a) s5) :
    wpAny (model X.prog X.w) X.A (eval (.GeneratorExp elt [⟨tg, iter, ifs, 0⟩] scope pos) X.env) Q' X.xe s := by
  have hfree : ∀ y ∈ scope.names, y.2 = .free → ∃ c, X.env.cells.lookup y.1 = some c := fun y hy e => by
    rcases ok.free y hy e with k | k
    · exact I.ok.has _ (.inl k)
    · exact I.ok.has _ (.inr k)
  refine wpAny_GeneratorExp_make ok.co (closure_ok hfree) ok.cell ok.dot ok.kind (by have := hr.dp; omega) ?_ hs
  refine thn (hi.run pins s σ H _ I h) fun xv s1 hx => thn hx fun itv s2 h2 => ?_
  obtain ⟨it, fp, tn, J, H1, rfl, I2, T, st2, f2, ⟨ps, hP, ht⟩, q⟩ := h2
  refine ⟨I2.nolimit, ?_⟩
  have hPs : s2.heap.get? P = some { cls := .none, data := .fields ps } := I2.hok P _ hP
  have cd : PySem.W.CodeHd s2.heap c P := TB.code.keeps I2.bk
  have cont : ∀ (code : Value) (h3 : Heap) (tk : Nat) (ps' : Array Value), Heap.ExtBut P s2.heap h3 → h3.get? P = some { cls := .none, data := .fields ps' } → (∃ more, ps' = ps ++ more) → TriplesOk ps'.toList →
      wpAny (model X.prog X.w) X.A (builtinsFor X.env.globals X.env.builtins) (fun bi s₄ =>
        ∀ h', h'.Ns s₄.heap.objs.size (fun y => if y = (".0" : Str) then some (.ref it) else none) → Heap.SameBut s₄.heap.objs.size (s₄.heap.push { cls := .type "frame", data := .dict #[] }) h' →
          Q' (.ref h'.objs.size) { s₄ with
            gens := s₄.gens.push (.fresh (.compStart (.GeneratorExp elt [⟨tg, iter, ifs, 0⟩] scope pos) 0 (.ref it) .none (genEnv scope (cloFrom X.env.cells scope.names []) s₄.heap.objs.size code bi X.env))),
            toks := s₄.toks + 1 + 1 + 1,
            heap := h'.push { cls := .type "generator", data := .fields #[.int s₄.gens.size 0, .str "<genexpr>" (s₄.toks + 1), .str (X.env.qual ++ "<genexpr>") (s₄.toks + 1 + 1)] } }) X.xe { s2 with heap := h3, toks := tk } := by
    intro code h3 tk ps' hx hP3 hmore ht3
    obtain ⟨bm, ob, e1, e2, e3, e4, e5, e6, e7, e8⟩ := TB.bm
    obtain ⟨more, rfl⟩ := hmore
    refine wpAny_builtinsFor (m := X.mg) (by rw [I2.ok.glob]; exact (I2.mod.glob.keeps I2.bk).extBut hx TB.gP) e1 e2 (hx _ _ e4 (I2.bk _ _ e5)) e6 e7 e8 ?_
    have I4 : Inv X pins σ (upd H1 P (.tbl (ps ++ more))) { s2 with heap := h3, toks := tk } := GxR.inv_tab (more := more) (h' := h3) (g' := s2.gens) (d' := s2.drawn) (t' := tk) I2 hP (fun b u hb e => hx b u hb e) hP3 I2.bare
    generalize hH2 : upd H1 P (.tbl (ps ++ more)) = H2 at I4
    have nP : ∀ b ∈ fp, b ≠ P := fun b hb z => by
      have := (f2 b hb).1
      rw [z, hP] at this; cases this
    have H2n : ∀ b ∈ fp, H2 b = none := fun b hb => by rw [← hH2, upd_ne (nP b hb)]; exact (f2 b hb).1
    have fsz : ∀ b ∈ fp, b < h3.objs.size := fun b hb => by
      obtain ⟨o, e, _⟩ := T.obj _ _ st2 b hb
      exact Heap.lt_size (hx b o (nP b hb) e)
    have st4 : tn 0 h3 := T.keep _ _ _ st2 fun b hb o e => hx b o (nP b hb) e
    have f4 : ∀ b ∈ fp, FpOk X pins H2 b ∧ b < h3.objs.size := fun b hb => ⟨⟨H2n b hb, (f2 b hb).2⟩, fsz b hb⟩
    intro h' hn' hs'
    have hsz : h'.objs.size = h3.objs.size + 1 := by rw [hs'.1, Heap.size_push]
    have keep' : ∀ b o, h3.get? b = some o → h'.get? b = some o := fun b o e => hs'.extBut b o (Nat.ne_of_lt (Heap.lt_size e)) (Heap.get?_push_of_some _ e)
    have cm : ∀ {y c}, (y, c) ∈ cloFrom X.env.cells scope.names [] → c < h3.objs.size := fun {y c} hm => by
      rcases cloFrom_mem hm with hm | ⟨h1, rfl⟩
      · cases hm
      · obtain ⟨c, hc⟩ := hfree _ h1 rfl
        rw [hc]
        obtain ⟨w, z⟩ := I4.cell _ _ hc
        exact z.lt
    have rr : RR J H2 := q H2 ⟨⟨ps ++ more, by rw [← hH2]; exact upd_same, ht3⟩, fun b hb => by rw [← hH2]; exact upd_ne hb⟩
    refine hQ J H2 _ _ { s2 with heap := h3, toks := tk } (genEnv scope (cloFrom X.env.cells scope.names []) h3.objs.size code builtinsNs X.env) fp it tn s2.gens.size _ rr
      { inv := I4, gen := ⟨_, _, _, Heap.get?_push_size _ rfl, rfl, rfl, rfl⟩, obj := Heap.get?_push_size _ rfl, gens := Array.getElem?_push_size .., os := rfl, bare := AllBare.push I4.bare rfl, lim := ?_, kept := fun b o e => Heap.get?_push_of_some _ (keep' b o e), lo := ?_, hi := ?_,
        fpo := f4, turn := T, at0 := st4, co := ok.co, sco := rfl, ce := ⟨_, _, _, _, rfl⟩, loc := rfl, cells := fun x c e => cm (PySem.mem_of_lookup e), wake := fun A s6 hA hAf k6 os6 b6 => ?_ } ⟨ps ++ more, by rw [← hH2]; exact upd_same⟩
    · exact (I4.nolimit.keeps keep').push _
    · show h3.objs.size ≤ h'.objs.size
      omega
    · show h'.objs.size < (h'.push _).objs.size
      rw [Heap.size_push]; exact Nat.lt_succ_self _
    · have hAf2 : (A.deeper (genEnv scope (cloFrom X.env.cells scope.names []) h3.objs.size code builtinsNs X.env)).frames = some (genEnv scope (cloFrom X.env.cells scope.names []) h3.objs.size code builtinsNs X.env :: X.stack) := Around.frames_deeper hAf
      have kA : ∀ b o, h3.get? b = some o → s6.heap.get? b = some o := fun b o e => k6 b o (Heap.get?_push_of_some _ (keep' b o e))
      have B := gx_start (A := A.deeper (genEnv scope (cloFrom X.env.cells scope.names []) h3.objs.size code builtinsNs X.env)) (s5 := s6) (code := code) (fp := fp) I4 ok hN f4 hA hAf2 ((hn'.push _).keeps k6) kA os6 b6
      refine B.pins_of fun p hp => ?_
      rw [List.mem_singleton.mp hp]
      refine ⟨k6 _ _ (Heap.get?_push_size _ rfl), I4.hok.fresh (show h3.objs.size ≤ h'.objs.size by omega), ?_, ?_, fun v z => by cases z⟩
      · show h'.objs.size ≠ h3.objs.size
        omega
      · exact fun hm => by
          obtain ⟨_, o, ho, _⟩ := I4.stack.mem hm
          have := Heap.lt_size ho
          show False
          have h2 : h'.objs.size < h3.objs.size := this
          omega
  cases hf : codeAmong pos ps.toList with
  | none =>
    refine wpAny_genexprCodeX hcode (cd.code hPs ht) (cd.tab hPs) hf fun c' h' tk hx hge hlt hco' _ htab' _ => ?_
    obtain ⟨o1, vs, f1, tf, fl, tg, inF, tx, tt, op, _, _, _, _, _, _, _, _, _, htr, _⟩ := hco'
    exact cont _ h' tk _ hx htab'.2 ⟨_, rfl⟩ htr
  | some cv =>
    refine wpAny_genexprCode_hit hcode (cd.code hPs ht) hf ?_
    exact cont cv s2.heap s2.toks ps (Heap.ExtBut.refl _ _) hPs ⟨#[], by simp⟩ ht
end
end RT
end
section
set_option Elab.async false
set_option linter.all false
set_option maxRecDepth 100000
set_option maxHeartbeats 1000000
namespace RT
open PySem PySem.Spec PyProof.Rows L2 GenW
/-! who draws from it -/
section
variable {X : Cx} {pins : List (Addr × Obj)} {σ : St} {H : Hp} {J : It} {elt tg iter : Expr} {ifs : List Expr} {scope : Scope} {pos : Pos} {vs : List Nat} {a : Addr} {s5 sc : Shared} {cenv : Env} {fp : List Addr} {it : Addr} {tn : Nat → Heap → Prop} {g : Nat} {go : Obj}
  {A : Around} {S : Option Addr} {W : Nat → Nat → List V → Hp → Prop} {Yd : List V → V → Hp → (List V → Hp → Prop) → Prop} {Dn : List V → Hp → Prop} {gg : TG} {tt : TT} {te : TE}
theorem gx_back {σ' : St} {H' : Hp} {s1 : Shared} {ys : List V} {ip : List (Addr × Obj)} (G : GRdy X pins σ H J elt tg iter ifs scope pos vs a s5 sc cenv fp it tn g go) (h : GIo (gxX X sc H cenv (A.deeper cenv) fp) S ip ys σ' H' s1) : Inv X pins σ H' s1 := by
  obtain ⟨pS, _, I, _⟩ := h.out
  exact G.inv.call' (ch := fp) I.os I.base I.hok I.bare fun b hb => ⟨(G.fpo b hb).1.2.2.2.1, (G.fpo b hb).1.2.1, (G.fpo b hb).1.2.2.2.2.1, (G.fpo b hb).1.2.2.2.2.2⟩
theorem gx_begin (G : GRdy X pins σ H J elt tg iter ifs scope pos vs a s5 sc cenv fp it tn g go) (hA : A.handled = none) (hAf : A.frames = some X.stack) (pg : PG (gxX X sc H cenv (A.deeper cenv) fp) tg gg) (pt : PTs (gxX X sc H cenv (A.deeper cenv) fp) ifs tt)
    (pe : PE (gxX X sc H cenv (A.deeper cenv) fp) elt te) (turn : Trn J W Yd Dn gg tt te vs σ) (hS : ∀ T, S = some T → s5.heap.objs.size ≤ T) {m n : Nat} (hmn : m < n) (w : W 0 m [] H) {s₀ s2 : Shared} (k : ∀ b o, s5.heap.get? b = some o → s2.heap.get? b = some o)
    (hSo : ∀ T, S = some T → ∃ c, s2.heap.get? T = some (lstObj #[] c)) (os : s2.os = sc.os) (hb : AllBare s2.gens) :
    Seg (model X.prog X.w) A (RP (gxX X sc H cenv (A.deeper cenv) fp) S (a, go) Dn) (YP (gxX X sc H cenv (A.deeper cenv) fp) S (a, go) Yd) n s₀ (gxCode elt tg iter ifs scope pos it cenv) ((model X.prog X.w).den (gxCode elt tg iter ifs scope pos it cenv)) [] s2 := by
  have I := G.wake A s2 hA hAf k os hb
  have sz : sc.heap.objs.size < s5.heap.objs.size := Nat.lt_of_le_of_lt G.lo G.hi
  have hAp : ∀ T, S = some T → Apart (gxX X sc H cenv (A.deeper cenv) fp) T := fun T e => by
    have hT : sc.heap.objs.size < T := Nat.lt_of_lt_of_le sz (hS T e)
    refine ⟨Nat.le_of_lt hT, ?_, fun x c q z => ?_⟩
    · show T ≠ cenv.locals
      rw [G.loc]; exact Nat.ne_of_gt hT
    · exact absurd (Nat.lt_trans (G.cells x c q) hT) (by rw [z]; exact Nat.lt_irrefl _)
  have hSg : S ≠ some a := fun e => absurd (Nat.lt_of_lt_of_le G.hi (hS a e)) (Nat.lt_irrefl _)
  have st : tn 0 s2.heap := G.turn.keep _ _ _ G.at0 fun b _ o e => k b o (G.kept b o e)
  have hn : ∀ b ∈ fp, H b = none := fun b hb => (G.fpo b hb).1.1
  have hG : GIo (gxX X sc H cenv (A.deeper cenv) fp) S [(a, go)] [] (wipe σ vs) H s2 := by
    cases S with
    | none => exact I
    | some T =>
      obtain ⟨c, e⟩ := hSo T rfl
      have hT := hS T rfl
      refine ⟨#[], c, .nil, I.pins_of fun p hp => ?_⟩
      rcases List.mem_cons.mp hp with hp | hp
      · rw [hp]
        refine ⟨e, G.inv.hok.fresh (Nat.le_of_lt (Nat.lt_of_lt_of_le sz hT)), (hAp T rfl).2.1, fun hm => ?_, fun v z => by cases z⟩
        obtain ⟨_, o, ho, _⟩ := G.inv.stack.mem (show T ∈ frs X.stack from hm)
        exact absurd (Nat.lt_trans (Heap.lt_size ho) (Nat.lt_of_lt_of_le sz hT)) (Nat.lt_irrefl _)
      · exact I.pin p (List.mem_append_right _ hp)
  have loop := gx_loop (scope := scope) (pos := pos) (iter := iter) pg pt pe G.turn G.co (fun b hb => (G.fpo b hb).2) (show sc.heap.objs.size ≤ (a, go).1 from G.lo) hSg hAp turn m n 0 [] s₀ s2 H hmn w hG st hn
  show Seg _ A _ _ _ s₀ _ ((compStart (.GeneratorExp elt [⟨tg, iter, ifs, 0⟩] scope pos) 0 (.ref it) .none cenv).onRaise (leaving cenv)) [] s2
  unfold compStart
  rw [Sem.onRaise_eq_wrap]
  show Seg _ A _ _ _ s₀ _ ((ask >>= _).wrap _ _ _ _) [] s2
  refine seg_bind_wrap (wpAny_askSetting ?_)
  split
  · exact seg_again rfl loop
  · first
      | exact seg_bind_wrap (wpAny_rule (seg_bind_wrap (wpAny_standAt (seg_bind_wrap (G.turn.self _ 0 s2 _ _ st (seg_again rfl loop))))))
      | (refine seg_bind_wrap (wpAny_rule ?_); show Seg _ A _ _ _ s₀ _ ((standAt iter.pos >>= _).wrap _ _ _ _) [] s2; exact seg_bind_wrap (wpAny_standAt (seg_bind_wrap (G.turn.self _ 0 s2 _ _ st (seg_again rfl loop)))))
/-- list.extend's loop -/
def YdL (ys : List V) (y : V) (H : Hp) (Nx : List V → Hp → Prop) : Prop := ys.length < sizeLine ∧ Nx (ys ++ [y]) H
theorem gx_drain {Xg : Cx} {P : Program} {w : World} {R : Result → Shared → Prop} {T : Addr} {res : Value} (eP : Xg.prog = P) (eW : Xg.w = w) (hh : A.handled = none) (hd : A.depth < recursionLimit) (hTa : T ≠ a) (hTc : T ≠ cStatics) (hgen : ∀ h : Heap, h.get? a = some go → h.IsGen a g)
    (hend : ∀ s' ys ip σ' H', GIo Xg (some T) ip ys σ' H' s' → Dn ys H' → R (.ok (.ret res)) s') :
    ∀ (m : Nat) (s : Shared), s.heap.IsGen a g → s.heap.NoLimit →
      (∃ gs, s.gens[g]? = some gs ∧ gs.Goes (model P w) A.in1.in1 (RP Xg (some T) (a, go) Dn) (YP Xg (some T) (a, go) YdL) m (.send .none) (s.setGen g .running)) →
      codeAny (model P w) A (.builtin "list.extend.loop" ⟨[.ref T, .ref a, res], []⟩) R s := by
  have goes : ∀ {gs : GenState} {B : Around} {n : Nat} {r : Resume} {s : Shared}, gs.Goes (model P w) B (RP Xg (some T) (a, go) Dn) (YP Xg (some T) (a, go) YdL) n r s →
      gs.Goes (model P w) B (fun n s₀ r s => r = .ok .next ∧ (fun (_ : Nat) (_ : Shared) s => ∃ ys ip σ H, GIo Xg (some T) ip ys σ H s ∧ (a, go) ∈ ip ∧ Dn ys H) n s₀ s) (YP Xg (some T) (a, go) YdL) n r s := fun h => h
  have fin : ∀ (s₁ : Shared), (∃ ys ip σ H, GIo Xg (some T) ip ys σ H s₁ ∧ (a, go) ∈ ip ∧ Dn ys H) → ∀ h', (∀ b o, s₁.heap.get? b = some o → h'.get? b = some o) → R (.ok (.ret res)) { s₁.setGen g .finished with heap := h' } := fun s₁ ⟨ys, ip, σ, H, hG, _, dn⟩ h' hk => by
    obtain ⟨pS, _, I, back⟩ := hG.out
    refine hend _ ys ip σ H (back _ _ _ _ (keptS I rfl (allBare_setGen I.bare rfl) hk)) dn
  intro m
  induction m with
  | zero =>
    intro s hg hl ⟨gs, hgs, hgo⟩
    refine codeAny_builtin F.entry_extend_loop ?_
    rw [Around.under_plainId F.plain_extend_loop _]
    show wpAny _ A.in1 (pyNext (.ref a) >>= _) _ _ s
    refine wpAny_bind (wpAny_pyNext_genexpQ (A := A.in1) hh hl hd hg hgs (goes hgo) (fun v s₁ gs' hbare hv => ?_) (fun s₁ hp h' hk => wpAny_pure (fin s₁ hp h' hk)))
    obtain ⟨ys, y, ip, σ, H, Nx, rv, hG, hm, ⟨hlt, nx⟩, kap⟩ := hv
    obtain ⟨_, _, _, acc, c, hv2, hS⟩ := GI.at hG
    exact (kap _ (Slept.push hS (let ⟨_, _, I, _⟩ := hG.out; I.bare)) nx).elim
  | succ m ih =>
    intro s hg hl ⟨gs, hgs, hgo⟩
    have hgl : g < s.gens.size := (Array.getElem?_eq_some_iff.mp hgs).1
    refine codeAny_builtin F.entry_extend_loop ?_
    rw [Around.under_plainId F.plain_extend_loop _]
    show wpAny _ A.in1 (pyNext (.ref a) >>= _) _ _ s
    refine wpAny_bind (wpAny_gsz (n := g + 1) hgl (wpAny_pyNext_genexpQ (A := A.in1) hh hl hd hg hgs (goes hgo) (fun v s₁ gs' hbare hv => ?_) (fun s₁ hp h' hk => ?_)))
    · intro hsz
      obtain ⟨ys, y, ip, σ, H, Nx, rv, hG, hm, ⟨hlt, nx⟩, kap⟩ := hv
      obtain ⟨hS0, _, _, acc, c, hv2, hS1⟩ := GI.at hG
      obtain ⟨pS, hpS, I, _⟩ := hG.out
      have hb1 := I.bare
      have hasz : acc.size < sizeLine := by
        have := hv2.length
        rw [← Array.length_toList, ← this]; exact hlt
      have ha1 : s₁.heap.get? a = some go := (I.pin (a, go) (List.mem_append_right _ (List.mem_append_right _ hm))).1
      show wpAny _ A.in1 (updateSeq T (·.push v) >>= _) _ _ _
      refine wpAny_bind ?_
      refine wpAny_updateSeq hS1 rfl (wpAny_pure ⟨plainId_quiet F.plain_extend_loop _, ?_⟩) (Nat.le_of_lt hasz) (by show (acc.push v).size ≤ sizeLine + 1; rw [Array.size_push]; omega)
      have keep3 : ∀ b o, b ≠ T → s₁.heap.get? b = some o → (s₁.heap.update T (Obj.mapSeq (·.push v))).get? b = some o := fun b o hbS e => (Heap.get?_update_other _ _ (Ne.symm hbS)).trans e
      have hsz1 : g < s₁.gens.size := by
        have q : (s₁.setGen g gs').gens.size = s₁.gens.size := setGen_size _ _ _
        have hsz' : g + 1 ≤ (s₁.setGen g gs').gens.size := hsz
        omega
      refine ih { s₁.setGen g gs' with heap := s₁.heap.update T (Obj.mapSeq (·.push v)) } (hgen _ (keep3 a go (Ne.symm hTa) ha1)) ?_ ⟨gs', setGen_at hsz1, ?_⟩
      · obtain ⟨mc, hns, hnn⟩ := I.nolimit
        exact ⟨mc, hns.at' fun o e => keep3 _ o (Ne.symm hTc) e, hnn⟩
      · exact kap _ (Slept.push hS1 (allBare_setGen (s := s₁.setGen g gs') (allBare_setGen hb1 hbare) rfl)) nx
    · intro _
      exact wpAny_pure (fin s₁ hp h' hk)
/-- collect(g) -/
theorem gx_collect {Q : List Value → Shared → Prop} {E : Value → Shared → Prop} (G : GRdy X pins σ H J elt tg iter ifs scope pos vs a s5 sc cenv fp it tn g go) (hA : A.handled = none) (hAf : A.frames = some X.stack) (hd : A.depth < recursionLimit)
    (pg : PG (gxX X sc H cenv (A.in1.in1.deeper cenv) fp) tg gg) (pt : PTs (gxX X sc H cenv (A.in1.in1.deeper cenv) fp) ifs tt) (pe : PE (gxX X sc H cenv (A.in1.in1.deeper cenv) fp) elt te) (turn : Trn J W YdL Dn gg tt te vs σ) (hw : ∃ m, W 0 m [] H)
    (hQ : ∀ (s' : Shared) (acc : Array Value) (ys : List V) (H' : Hp), Inv X pins σ H' s' → Vals ys acc.toList → Dn ys H' → Q acc.toList s') : wpAny (model X.prog X.w) A (collect (.ref a)) Q E s5 := by
  obtain ⟨m0, w0⟩ := hw
  have hSa : s5.heap.objs.size ≠ a := Nat.ne_of_gt G.hi
  have hSc : s5.heap.objs.size ≠ cStatics := Nat.ne_of_gt (let ⟨_, hn, _⟩ := G.lim; hn.lt)
  have gof : ∀ {h : Heap}, (∀ b o, s5.heap.get? b = some o → h.get? b = some o) → h.IsGen a g := fun {h} k => G.gen.keeps k
  have hgen : ∀ h : Heap, h.get? a = some go → h.IsGen a g := fun h e => by
    obtain ⟨o, nm, qn, ho, r⟩ := G.gen
    rw [G.obj] at ho
    cases ho
    exact ⟨go, nm, qn, e, r⟩
  unfold collect
  refine wpAny_bind (wpAny_runValue (codeAny_builtin F.entry_proto_collect ?_))
  rw [Around.under_plainId F.plain_proto_collect _]
  show wpAny _ A.in1 (newList [] >>= fun l => again (.builtin "list.__iadd__" ⟨[l, .ref a], []⟩)) _ _ s5
  refine wpAny_bind (wpAny_newObj_type ?_)
  refine wpAny_pure ⟨plainId_quiet F.plain_list_iadd _, codeAny_builtin F.entry_list_iadd ?_⟩
  rw [Around.under_plainId F.plain_list_iadd _]
  have k1 : ∀ b o, s5.heap.get? b = some o → (s5.heap.push { cls := .type "list", data := .seq ([] : List Value).toArray }).get? b = some o := fun b o e => Heap.get?_push_of_some _ e
  show wpAny _ A.in1 (Builtin.List.listExtendWith (.ref s5.heap.objs.size) (.ref a) (.ref s5.heap.objs.size)) _ _ _
  unfold Builtin.List.listExtendWith
  refine wpAny_bind (wpAny_typeOf (Heap.IsGen.typeIs (s := { s5 with heap := _ }) (gof k1)) ?_)
  have h1 : Builtin.List.listSameRef (.ref s5.heap.objs.size) (.ref a) = false := by simp [Builtin.List.listSameRef, hSa]
  have h2 : (Value.type "generator" == Value.type "list") = false := by decide
  have h3 : (Value.type "generator" == Value.type "tuple") = false := by decide
  simp only [h1, h2, h3, Bool.or_false, Bool.false_eq_true, if_false]
  refine wpAny_bind (wpAny_pyIter_gen (s := { s5 with heap := _ }) (gof k1) ?_)
  refine wpAny_bind (wpAny_holding ?_)
  unfold Builtin.List.listLengthHint
  refine wpAny_bind (wpAny_specialOf (Heap.IsGen.typeIs (s := { s5 with heap := _ }) (gof k1)) F.gen_no_len ?_)
  show wpAny _ A.in1 (specialOf (Value.ref a) (Str.ofString "__length_hint__") >>= _) _ _ _
  refine wpAny_bind (wpAny_specialOf (Heap.IsGen.typeIs (s := { s5 with heap := _ }) (gof k1)) F.gen_no_hint ?_)
  refine wpAny_pure ?_
  show wpAny _ A.in1 (rule "list.extend.makes-room" >>= fun _ => Builtin.List.listTouch (.ref s5.heap.objs.size) >>= fun _ =>
    again (.builtin "list.extend.loop" ⟨[.ref s5.heap.objs.size, .ref a, .ref s5.heap.objs.size], []⟩)) _ _ _
  refine wpAny_bind (wpAny_rule ?_)
  have hS₁ : (s5.heap.push { cls := .type "list", data := .seq ([] : List Value).toArray }).get? s5.heap.objs.size = some { cls := .type "list", data := .seq ([] : List Value).toArray } := Heap.get?_push_size _ rfl
  refine wpAny_bind ?_
  show wpAny _ A.in1 (updateSeq s5.heap.objs.size (·.push .none) >>= fun _ => updateSeq s5.heap.objs.size (·.pop)) _ _ _
  refine wpAny_bind (wpAny_updateSeq hS₁ rfl ?_)
  have hS₂ := Heap.get?_update_self (Obj.mapSeq (·.push Value.none)) hS₁ rfl
  refine wpAny_updateSeq hS₂ rfl ?_
  have hS₃ := Heap.get?_update_self (Obj.mapSeq (·.pop)) hS₂ rfl
  have up : ∀ (h : Heap) (f : Obj → Obj), (∀ b o, s5.heap.get? b = some o → h.get? b = some o) → ∀ b o, s5.heap.get? b = some o → (h.update s5.heap.objs.size f).get? b = some o := fun h f q b o e =>
    (Heap.get?_update_other _ _ (Ne.symm (Nat.ne_of_lt (Heap.lt_size e)))).trans (q b o e)
  have k3 := up _ (Obj.mapSeq (·.pop)) (up _ (Obj.mapSeq (·.push Value.none)) k1)
  refine wpAny_pure ⟨plainId_quiet F.plain_extend_loop _, ?_⟩
  refine gx_drain (Xg := gxX X sc H cenv (A.in1.in1.deeper cenv) fp) (A := A) (go := go) (Dn := Dn) rfl rfl hA hd hSa hSc hgen (fun s' ys ip σ' H' hG dn => ?_) (m0 + 1) _ (gof k3) (G.lim.keeps k3) ⟨_, G.gens, rfl, ?_⟩
  · obtain ⟨_, _, _, acc, c, hv, hS'⟩ := GI.at hG
    show wpAny _ A (load s5.heap.objs.size >>= _) _ _ s'
    refine wpAny_bind (wpAny_load hS' ?_)
    exact wpAny_pure (hQ s' acc ys H' (gx_back G hG) hv dn)
  · exact gx_begin (A := A.in1.in1) (S := some s5.heap.objs.size) G hA hAf pg pt pe turn (fun T e => by cases e; exact Nat.le_refl _) (Nat.lt_succ_self m0) w0 k3 (fun T e => by cases e; exact ⟨_, hS₃⟩) G.os (allBare_setGen (s := { s5 with heap := _ }) (x := .running) G.bare rfl)
end
end RT
end
section
set_option Elab.async false
set_option linter.all false
set_option maxRecDepth 100000
set_option maxHeartbeats 1000000
namespace RT
open PySem PySem.Spec PyProof.Rows L2 GenW
theorem truthy_keep {X : Cx} {pins : List (Addr × Obj)} {σ : St} {H : Hp} {s : Shared} {B : Around} {E : Value → Shared → Prop} {x : V} {v : Value} {k : Bool} {Q : Bool → Shared → Prop} (I : Inv X pins σ H s) (rx : RelV x v) (e : TruV X.K x H k) (h : ∀ t, Q k { s with toks := t }) :
    wpAny (model X.prog X.w) B (truthy v) Q E s := by
  have hl := line63
  have hs : sizeLine = 16777216 := sizeLine_eq
  cases x with
  | non =>
    cases rx
    have e' : k = false := e
    subst e'
    exact truthy_none (h s.toks)
  | bl b =>
    cases rx
    have e' : k = b := e
    subst e'
    exact wpAny_truthy_bool (h s.toks)
  | int i =>
    obtain ⟨t, rfl⟩ := rx
    have e' : k = (i != 0) := e
    subst e'
    exact PySem.P.truthy_int (h s.toks)
  | str y =>
    obtain ⟨t, rfl⟩ := rx
    obtain ⟨hy, e'⟩ : y.length ≤ sizeLine ∧ k = ((y.length : Int) != 0) := e
    subst e'
    exact PySem.P.truthy_str (by omega) (h _)
  | byt y =>
    obtain ⟨t, rfl⟩ := rx
    obtain ⟨hy, e'⟩ : y.size ≤ sizeLine ∧ k = ((y.size : Int) != 0) := e
    subst e'
    exact PySem.W.truthy_bytes (by omega) (h _)
  | ref p =>
    cases rx
    have e' : (∃ xs, SqL X.K H p xs ∧ k = !xs.isEmpty) ∨ (∃ xs, SqT X.K H p xs ∧ k = !xs.isEmpty) ∨ ∃ kvs, H p = some (.dK kvs) ∧ k = !kvs.isEmpty := e
    rcases e' with ⟨xs, hx, e'⟩ | ⟨xs, hx, e'⟩ | ⟨kvs, hx, e'⟩
    · subst e'
      obtain ⟨its, r, pl, hz⟩ := I.list hx
      have hlen := r.length
      exact wpAny_truthy_list pl.isList (by simp only [List.size_toArray]; omega) (by rw [isEmpty_of r]; exact h _)
    · subst e'
      obtain ⟨its, r, pl, hz⟩ := I.tuple hx
      have hlen := r.length
      exact truthy_tuple pl (by simp only [List.size_toArray]; omega) (by rw [isEmpty_of r]; exact h _)
    · subst e'
      obtain ⟨hz, hS, vs, r, m⟩ : kvs.length ≤ sizeLine ∧ (p == sysModules) = false ∧ ∃ vs, KV kvs vs ∧ s.heap.DictOf (mixKind X.prog X.w) p vs := I.hok p _ hx
      have hlen : kvs.length = vs.length := Paired.length r
      exact wpAny_truthy_dict hS m (by omega) (by rw [isEmpty_kv r]; exact h _)
  | _ => exact (show False from e).elim
section
variable {X : Cx} {pins : List (Addr × Obj)} {σ : St} {H : Hp} {J : It} {elt tg iter : Expr} {ifs : List Expr} {scope : Scope} {pos : Pos} {vs : List Nat} {a : Addr} {s5 sc : Shared} {cenv : Env} {fp : List Addr} {it : Addr} {tn : Nat → Heap → Prop} {g : Nat} {go : Obj}
  {A : Around} {W : Nat → Nat → List V → Hp → Prop} {Dn : List V → Hp → Prop} {gg : TG} {tt : TT} {te : TE} {E : Value → Shared → Prop}
/-- tuple(g) -/
theorem call_tuple_gx {Q : Value → Shared → Prop} (G : GRdy X pins σ H J elt tg iter ifs scope pos vs a s5 sc cenv fp it tn g go) (hA : A.handled = none) (hAf : A.frames = some X.stack) (hd : A.depth < recursionLimit)
    (pg : PG (gxX X sc H cenv (A.in4.deeper cenv) fp) tg gg) (pt : PTs (gxX X sc H cenv (A.in4.deeper cenv) fp) ifs tt) (pe : PE (gxX X sc H cenv (A.in4.deeper cenv) fp) elt te) (turn : Trn J W YdL Dn gg tt te vs σ) (hw : ∃ m, W 0 m [] H)
    (hQ : ∀ (s' : Shared) (acc : Array Value) (ys : List V) (H' : Hp), Inv X pins σ H' s' → Vals ys acc.toList → Dn ys H' → ys.length ≤ sizeLine ∧ Q (.ref s'.heap.objs.size) { s' with heap := s'.heap.push { cls := .type "tuple", data := .seq acc } }) : wpAny (model X.prog X.w) A (call (.type "tuple") [.ref a]) Q E s5 := by
  refine callType_codes (Q₁ := fun obj s₁ => s₁.TypeIs obj "tuple" ∧ Q obj s₁) F.called_tuple (F.typeCall_tuple_1 _) F.entry_object_init (codeAny_of_tree ?_) fun obj s₁ h₁ => ?_
  · show wpAny _ A.in1.in1 (do checkBuiltinCall "tuple.__new__" ⟨[.type "tuple", .ref a], []⟩; again (.builtin "tuple.__new__" ⟨[.type "tuple", .ref a], []⟩)) _ _ s5
    refine wpAny_bind (wpAny_of_eq (F.newCall_tuple_1 _) (wpAny_pure ⟨plainId_quiet F.plain_tuple_new _, codeAny_builtin F.entry_tuple_new ?_⟩))
    rw [Around.under_plainId F.plain_tuple_new _]
    have hsub := sub_tuple_self
    have hinit := init_tuple_lookup
    have hmh := madeHere_tuple
    have hTI : s5.TypeIs (.ref a) "generator" := G.gen.typeIs
    wp_walk using wpAny_typeOf hTI, gx_collect (A := A.in1.in1) G hA hAf hd pg pt pe turn hw
    intro s' acc ys H' I' hv dn
    obtain ⟨hle, hq⟩ := hQ s' acc ys H' I' hv dn
    show wpAny _ _ (Builtin.Tuple.tupleExact acc.toList.toArray >>= fun v => ret v) _ _ _
    unfold Builtin.Tuple.tupleExact
    have e : acc.toList.toArray = acc := by simp
    rw [e]
    refine wpAny_bind (wpAny_newObj_type ?_ (by show acc.size ≤ sizeLine; rw [← Array.length_toList, ← hv.length]; exact hle))
    exact wpAny_pure ⟨⟨_, Heap.get?_push_size _ rfl, rfl⟩, hq⟩
  · exact ⟨h₁.1, F.args_object_init_2 obj _, object_init_meets F.called_tuple.init.lookup F.called_tuple.made (by decide) X.prog X.w A.in1 _ s₁ ⟨h₁.1, rfl, h₁.2⟩⟩
/-- all, any: till one decides -/
def YdB (all : Bool) (K : PySem.W.Frag) (Qf : Hp → Prop) (ys : List V) (y : V) (H : Hp) (Nx : List V → Hp → Prop) : Prop := ∃ c, TruV K y H c ∧ if c = all then Nx (ys ++ [y]) H else Qf H
theorem gx_next {all : Bool} {Q : Option Value → Shared → Prop} {Qf : Hp → Prop} {n : Nat} {s : Shared} {B : Around} (G : GRdy X pins σ H J elt tg iter ifs scope pos vs a s5 sc cenv fp it tn g go) (hh : A.handled = none) (hd : A.depth < recursionLimit) (hg : s.heap.IsGen a g) (hl : s.heap.NoLimit)
    (hgs : ∃ gs, s.gens[g]? = some gs ∧ gs.Goes (model X.prog X.w) A.in1 (RP (gxX X sc H cenv (B.deeper cenv) fp) none (a, go) Dn) (YP (gxX X sc H cenv (B.deeper cenv) fp) none (a, go) (YdB all X.K Qf)) n (.send .none) (s.setGen g .running))
    (hY : ∀ v s1 y H' c, Inv X pins σ H' s1 → RelV y v → TruV X.K y H' c → (if c = all then ∃ n', n = n' + 1 ∧ ∀ t, ({ s1 with toks := t } : Shared).heap.IsGen a g ∧ ({ s1 with toks := t } : Shared).heap.NoLimit ∧
      ∃ gs, ({ s1 with toks := t } : Shared).gens[g]? = some gs ∧ gs.Goes (model X.prog X.w) A.in1 (RP (gxX X sc H cenv (B.deeper cenv) fp) none (a, go) Dn) (YP (gxX X sc H cenv (B.deeper cenv) fp) none (a, go) (YdB all X.K Qf)) n' (.send .none) (({ s1 with toks := t } : Shared).setGen g .running) else Qf H') → Q (some v) s1)
    (hD : ∀ s1 ys H', Inv X pins σ H' s1 → Dn ys H' → Q none s1) : wpAny (model X.prog X.w) A (pyNext (.ref a)) Q E s := by
  obtain ⟨gs, hgs, hgo⟩ := hgs
  have hgl : g < s.gens.size := (Array.getElem?_eq_some_iff.mp hgs).1
  have hgen : ∀ h : Heap, h.get? a = some go → h.IsGen a g := fun h e => by
    obtain ⟨o, nm, qn, ho, r⟩ := G.gen
    rw [G.obj] at ho
    cases ho
    exact ⟨go, nm, qn, e, r⟩
  have hgo' : gs.Goes (model X.prog X.w) A.in1 (fun n s₀ r s => r = .ok .next ∧ (fun (_ : Nat) (_ : Shared) s => ∃ ys ip σ' H', GIo (gxX X sc H cenv (B.deeper cenv) fp) none ip ys σ' H' s ∧ (a, go) ∈ ip ∧ Dn ys H') n s₀ s) (YP (gxX X sc H cenv (B.deeper cenv) fp) none (a, go) (YdB all X.K Qf)) n (.send .none) (s.setGen g .running) := hgo
  refine wpAny_gsz (n := g + 1) hgl (wpAny_pyNext_genexpQ hh hl hd hg hgs hgo' (fun v s₁ gs' hbare hv => ?_) (fun s₁ hp h' hk => ?_))
  · intro hsz
    obtain ⟨ys, y, ip, σ', H', Nx, rv, hG, hm, ⟨c, htr, hc⟩, kap⟩ := hv
    have I1 := gx_back G hG
    have Ig : Inv (gxX X sc H cenv (B.deeper cenv) fp) ip σ' H' s₁ := hG
    have hb2 : AllBare (s₁.setGen g gs').gens := allBare_setGen I1.bare hbare
    refine hY v (s₁.setGen g gs') y H' c (keptS I1 rfl hb2 fun _ _ e => e) rv htr ?_
    by_cases hca : c = all
    · rw [if_pos hca] at hc ⊢
      have k2 : ∀ s', Slp none v s₁ s' → _ := fun s' z => kap s' z hc
      have hsz1 : g < s₁.gens.size := by
        have q : (s₁.setGen g gs').gens.size = s₁.gens.size := setGen_size _ _ _
        have hsz' : g + 1 ≤ (s₁.setGen g gs').gens.size := hsz
        omega
      cases n with
      | zero => exact (k2 s₁ ⟨rfl, I1.bare, fun _ _ e => e⟩).elim
      | succ n' =>
        refine ⟨n', rfl, fun t => ⟨hgen _ (Ig.pin (a, go) (List.mem_append_right _ hm)).1, I1.nolimit, gs', ?_, ?_⟩⟩
        · exact setGen_at hsz1
        · exact k2 _ ⟨rfl, allBare_setGen (s := { s₁.setGen g gs' with toks := t }) hb2 rfl, fun _ _ e => e⟩
    · rw [if_neg hca] at hc ⊢
      exact hc
  · intro _
    obtain ⟨ys, ip, σ', H', hG, hm, dn⟩ := hp
    have I1 := gx_back G hG
    exact hD _ ys H' (keptS I1 rfl (allBare_setGen I1.bare rfl) hk) dn
theorem gx_allLoop {R : Result → Shared → Prop} {Qf : Hp → Prop} {B : Around} (G : GRdy X pins σ H J elt tg iter ifs scope pos vs a s5 sc cenv fp it tn g go) (hh : A.handled = none) (hd : A.depth < recursionLimit)
    (hF : ∀ s1 H', Inv X pins σ H' s1 → Qf H' → R (.ok (.ret (.bool false))) s1) (hD : ∀ s1 ys H', Inv X pins σ H' s1 → Dn ys H' → R (.ok (.ret (.bool true))) s1) : ∀ (n : Nat) (s : Shared), s.heap.IsGen a g → s.heap.NoLimit →
    (∃ gs, s.gens[g]? = some gs ∧ gs.Goes (model X.prog X.w) A.in1.in1 (RP (gxX X sc H cenv (B.deeper cenv) fp) none (a, go) Dn) (YP (gxX X sc H cenv (B.deeper cenv) fp) none (a, go) (YdB true X.K Qf)) n (.send .none) (s.setGen g .running)) →
    codeAny (model X.prog X.w) A (.builtin "all.loop" ⟨[.ref a], []⟩) R s := by
  intro n
  induction n using Nat.strongRecOn with
  | ind n ih =>
    intro s hg hl hgs
    refine codeAny_builtin F.entry_all_loop ?_
    rw [Around.under_plainId F.plain_all_loop _]
    show wpAny _ A.in1 (pyNext (.ref a) >>= _) _ _ s
    refine wpAny_bind (gx_next (A := A.in1) G hh hd hg hl hgs (fun v s1 y H' c I1 rv htr hc => ?_) (fun s1 ys H' I1 dn => ?_))
    · refine wpAny_bind (wpAny_holding (truthy_keep I1 rv htr fun t => ?_))
      refine wpAny_bind (wpAny_letGo ?_)
      cases c with
      | true =>
        simp only [if_true] at hc ⊢
        obtain ⟨n', rfl, hc⟩ := hc
        obtain ⟨h1, h2, h3⟩ := hc t
        exact wpAny_pure ⟨plainId_quiet F.plain_all_loop _, ih n' (Nat.lt_succ_self n') _ h1 h2 h3⟩
      | false =>
        simp only [Bool.false_eq_true, if_false] at hc ⊢
        refine wpAny_bind (wpAny_rule (wpAny_pure ?_))
        exact hF _ H' (I1.tok t) hc
    · exact wpAny_bind (wpAny_rule (wpAny_pure (hD s1 ys H' I1 dn)))
theorem gx_anyLoop {R : Result → Shared → Prop} {Qf : Hp → Prop} {B : Around} (G : GRdy X pins σ H J elt tg iter ifs scope pos vs a s5 sc cenv fp it tn g go) (hh : A.handled = none) (hd : A.depth < recursionLimit)
    (hF : ∀ s1 H', Inv X pins σ H' s1 → Qf H' → R (.ok (.ret (.bool true))) s1) (hD : ∀ s1 ys H', Inv X pins σ H' s1 → Dn ys H' → R (.ok (.ret (.bool false))) s1) : ∀ (n : Nat) (s : Shared), s.heap.IsGen a g → s.heap.NoLimit →
    (∃ gs, s.gens[g]? = some gs ∧ gs.Goes (model X.prog X.w) A.in1.in1 (RP (gxX X sc H cenv (B.deeper cenv) fp) none (a, go) Dn) (YP (gxX X sc H cenv (B.deeper cenv) fp) none (a, go) (YdB false X.K Qf)) n (.send .none) (s.setGen g .running)) →
    codeAny (model X.prog X.w) A (.builtin "any.loop" ⟨[.ref a], []⟩) R s := by
  intro n
  induction n using Nat.strongRecOn with
  | ind n ih =>
    intro s hg hl hgs
    refine codeAny_builtin F.entry_any_loop ?_
    rw [Around.under_plainId F.plain_any_loop _]
    show wpAny _ A.in1 (pyNext (.ref a) >>= _) _ _ s
    refine wpAny_bind (gx_next (A := A.in1) G hh hd hg hl hgs (fun v s1 y H' c I1 rv htr hc => ?_) (fun s1 ys H' I1 dn => ?_))
    · refine wpAny_bind (wpAny_holding (truthy_keep I1 rv htr fun t => ?_))
      refine wpAny_bind (wpAny_letGo ?_)
      cases c with
      | false =>
        simp only [if_true, Bool.false_eq_true, if_false] at hc ⊢
        obtain ⟨n', rfl, hc⟩ := hc
        obtain ⟨h1, h2, h3⟩ := hc t
        exact wpAny_pure ⟨plainId_quiet F.plain_any_loop _, ih n' (Nat.lt_succ_self n') _ h1 h2 h3⟩
      | true =>
        simp only [Bool.true_eq_false, if_false, if_true] at hc ⊢
        refine wpAny_bind (wpAny_rule (wpAny_pure ?_))
        exact hF _ H' (I1.tok t) hc
    · exact wpAny_bind (wpAny_rule (wpAny_pure (hD s1 ys H' I1 dn)))
theorem call_all_gx {Q : Value → Shared → Prop} {Qf : Hp → Prop} (G : GRdy X pins σ H J elt tg iter ifs scope pos vs a s5 sc cenv fp it tn g go) (hA : A.handled = none) (hAf : A.frames = some X.stack) (hd : A.depth < recursionLimit)
    (pg : PG (gxX X sc H cenv (A.in1.in1.deeper cenv) fp) tg gg) (pt : PTs (gxX X sc H cenv (A.in1.in1.deeper cenv) fp) ifs tt) (pe : PE (gxX X sc H cenv (A.in1.in1.deeper cenv) fp) elt te) (turn : Trn J W (YdB true X.K Qf) Dn gg tt te vs σ) (hw : ∃ m, W 0 m [] H)
    (hF : ∀ s1 H', Inv X pins σ H' s1 → Qf H' → Q (.bool false) s1) (hD : ∀ s1 ys H', Inv X pins σ H' s1 → Dn ys H' → Q (.bool true) s1) : wpAny (model X.prog X.w) A (call (.builtin "all") [.ref a]) Q E s5 := by
  obtain ⟨m0, w0⟩ := hw
  refine call_function_tree F.kind_all F.plain_all F.entry_all (F.args_all1 _) ?_
  unfold Builtin.«all»
  refine wpAny_bind (m := oneArg "all" _) (wpAny_pure ?_)
  refine wpAny_bind (wpAny_pyIter_gen G.gen ?_)
  exact wpAny_pure ⟨plainId_quiet F.plain_all_loop _, gx_allLoop (A := A) (B := A.in1.in1) G hA hd hF hD (m0 + 1) s5 G.gen G.lim ⟨_, G.gens, rfl,
    gx_begin (A := A.in1.in1) (S := none) G hA hAf pg pt pe turn (fun T e => nomatch e) (Nat.lt_succ_self m0) w0 (fun _ _ e => e) (fun T e => nomatch e) G.os (allBare_setGen (s := s5) (x := .running) G.bare rfl)⟩⟩
theorem call_any_gx {Q : Value → Shared → Prop} {Qf : Hp → Prop} (G : GRdy X pins σ H J elt tg iter ifs scope pos vs a s5 sc cenv fp it tn g go) (hA : A.handled = none) (hAf : A.frames = some X.stack) (hd : A.depth < recursionLimit)
    (pg : PG (gxX X sc H cenv (A.in1.in1.deeper cenv) fp) tg gg) (pt : PTs (gxX X sc H cenv (A.in1.in1.deeper cenv) fp) ifs tt) (pe : PE (gxX X sc H cenv (A.in1.in1.deeper cenv) fp) elt te) (turn : Trn J W (YdB false X.K Qf) Dn gg tt te vs σ) (hw : ∃ m, W 0 m [] H)
    (hF : ∀ s1 H', Inv X pins σ H' s1 → Qf H' → Q (.bool true) s1) (hD : ∀ s1 ys H', Inv X pins σ H' s1 → Dn ys H' → Q (.bool false) s1) : wpAny (model X.prog X.w) A (call (.builtin "any") [.ref a]) Q E s5 := by
  obtain ⟨m0, w0⟩ := hw
  refine call_function_tree F.kind_any F.plain_any F.entry_any (F.args_any1 _) ?_
  unfold Builtin.«any»
  refine wpAny_bind (m := oneArg "any" _) (wpAny_pure ?_)
  refine wpAny_bind (wpAny_pyIter_gen G.gen ?_)
  exact wpAny_pure ⟨plainId_quiet F.plain_any_loop _, gx_anyLoop (A := A) (B := A.in1.in1) G hA hd hF hD (m0 + 1) s5 G.gen G.lim ⟨_, G.gens, rfl,
    gx_begin (A := A.in1.in1) (S := none) G hA hAf pg pt pe turn (fun T e => nomatch e) (Nat.lt_succ_self m0) w0 (fun _ _ e => e) (fun T e => nomatch e) G.os (allBare_setGen (s := s5) (x := .running) G.bare rfl)⟩⟩
end
end RT
end
section
set_option Elab.async false
set_option linter.all false
set_option maxRecDepth 100000
set_option maxHeartbeats 1000000
namespace RT
open PySem PySem.Spec PyProof.Rows L2 GenW
section
variable {X : Cx} {S : Kit} {W : WX} {c P : Addr} {p pos pos' : Pos} {tg elt it : Expr} {ifs : List Expr} {scope : Scope} {own : List (Str × Nat)} {wi : TI} {gg : TG} {tt : TT} {te : TE} {k : Nat}
/-- all that a generator expression's parts must do -/
structure GPs (X : Cx) (k : Nat) (tg elt : Expr) (ifs : List Expr) (scope : Scope) (gg : TG) (tt : TT) (te : TE) : Prop where
  g : ∀ (s : Shared) (H : Hp) (C : Addr) (cl : List (Str × Addr)) (code : Value) (bi : Addr) (A : Around) (fp : List Addr), Room k A → PG (gxX X s H (genEnv scope cl C code bi X.env) A fp) tg gg
  t : ∀ (s : Shared) (H : Hp) (C : Addr) (cl : List (Str × Addr)) (code : Value) (bi : Addr) (A : Around) (fp : List Addr), Room k A → PTs (gxX X s H (genEnv scope cl C code bi X.env) A fp) ifs tt
  e : ∀ (s : Shared) (H : Hp) (C : Addr) (cl : List (Str × Addr)) (code : Value) (bi : Addr) (A : Around) (fp : List Addr), Room k A → PE (gxX X s H (genEnv scope cl C code bi X.env) A fp) elt te
theorem room_gx {k : Nat} {A : Around} (r : Room (k + 1) A) (env : Env) : Room k (A.in4.deeper env) :=
  ⟨r.hd, by have := r.dp; show A.depth + 1 + 3 * k + 5 < _; omega, by have := r.un; show A.units + 1 + 1 + 1 + 1 + 3 + 16 * k + 200 < _; omega⟩
theorem room_gx2 {k : Nat} {A : Around} (r : Room (k + 1) A) (env : Env) : Room k (A.in1.in1.deeper env) :=
  ⟨r.hd, by have := r.dp; show A.depth + 1 + 3 * k + 5 < _; omega, by have := r.un; show A.units + 1 + 1 + 3 + 16 * k + 200 < _; omega⟩
def tTupG (P : Addr) (wi : TI) (gg : TG) (tt : TT) (te : TE) (vs : List Nat) : TE := fun σ H Q => wi σ H fun J H1 => GxR.TabG H1 P ∧ ∀ H2, GxR.Tabbed P H1 H2 → ∃ W : Nat → Nat → List V → Hp → Prop, (∃ m, W 0 m [] H2) ∧
  Trn J W YdL (fun ys H' => ys.length ≤ sizeLine ∧ ∀ p, H' p = none → Q (.ref p) (upd H' p (.tup ys))) gg tt te vs σ
def tBoolG (all : Bool) (K : PySem.W.Frag) (P : Addr) (wi : TI) (gg : TG) (tt : TT) (te : TE) (vs : List Nat) : TE := fun σ H Q => wi σ H fun J H1 => GxR.TabG H1 P ∧ ∀ H2, GxR.Tabbed P H1 H2 → ∃ W : Nat → Nat → List V → Hp → Prop, (∃ m, W 0 m [] H2) ∧
  Trn J W (YdB all K fun H' => Q (.bl (!all)) H') (fun _ H' => Q (.bl all) H') gg tt te vs σ
theorem pe_tupGx {nm : Str} (hr : Room (k + 1) X.A) (hg : Gl X nm) (hm : X.mg nm = none) (hv : bootBuiltins nm = some (.type "tuple")) (TB : GxR.TabB X.base X.mg c P) (hcode : X.env.code = .ref c) (ok : GxOk X.N X.env.scope scope own) (hN : X.N.Nodup) (hi : PI X tg it wi) (G : GPs X k tg elt ifs scope gg tt te)
    (hs : ∀ v, genFold it X.env v = pure v) (hn : nm ≠ "__name__" := by decide) (hdb : (nm == ("__debug__" : Str)) = false := by decide)
    (he : starEach [.GeneratorExp elt [⟨tg, it, ifs, 0⟩] scope pos] X.env = (false, eval (.GeneratorExp elt [⟨tg, it, ifs, 0⟩] scope pos) X.env) :: starEach [] X.env := by rfl) :
    PE X (.Call (.Name nm p) [.GeneratorExp elt [⟨tg, it, ifs, 0⟩] scope pos] [] pos') (tTupG P wi gg tt te (own.map (·.2))) := by
  refine ⟨fun pins s σ H Q I h => ?_⟩
  refine wpAny_Call_Name_kw (ld_blt I hg hm hv ?_ hn hdb)
  refine PyProof.Rows.callWith_type1 ?_ he rfl
  rw [he]
  show wpAny _ _ (spliced ((false, eval (.GeneratorExp elt [⟨tg, it, ifs, 0⟩] scope pos) X.env) :: backTo pos' (starEach [] X.env))) _ _ s
  refine Calls.spliced_cons (gx_make (hr.mono (by omega)) TB hcode ok hN hi hs I h fun J H2 a s5 sc cenv fp itA tn g go rr R _ => ?_)
  refine Calls.spliced_nil ?_
  obtain ⟨W, hw, turn⟩ := rr
  obtain ⟨cl, C, code, bi, rfl⟩ := R.ce
  have hd : X.A.depth < recursionLimit := by have := hr.dp; omega
  refine call_tuple_gx R hr.hd R.inv.ok.frames hd (G.g _ _ _ _ _ _ _ _ (room_gx hr _)) (G.t _ _ _ _ _ _ _ _ (room_gx hr _)) (G.e _ _ _ _ _ _ _ _ (room_gx hr _)) turn hw fun s' acc ys H' I' hvs dn => ⟨dn.1, ?_⟩
  have hp : H' s'.heap.objs.size = none := I'.hok.fresh (Nat.le_refl _)
  refine ⟨.ref s'.heap.objs.size, upd H' s'.heap.objs.size (.tup ys), I'.laid (t' := s'.toks) (fun b o e => Heap.get?_push_of_some _ e) (Nat.le_refl _) ⟨dn.1, acc.toList, hvs, ⟨_, Heap.get?_push_size _ rfl, rfl, 0, ?_⟩⟩, rfl, dn.2 _ hp⟩
  simp
theorem pe_boolGx {all : Bool} {nm : Str} (hall : nm = (if all then "all" else "any" : Str)) (hr : Room (k + 1) X.A) (hg : Gl X nm) (hm : X.mg nm = none) (TB : GxR.TabB X.base X.mg c P) (hcode : X.env.code = .ref c) (ok : GxOk X.N X.env.scope scope own) (hN : X.N.Nodup) (hi : PI X tg it wi) (G : GPs X k tg elt ifs scope gg tt te)
    (hs : ∀ v, genFold it X.env v = pure v)
    (he : starEach [.GeneratorExp elt [⟨tg, it, ifs, 0⟩] scope pos] X.env = (false, eval (.GeneratorExp elt [⟨tg, it, ifs, 0⟩] scope pos) X.env) :: starEach [] X.env := by rfl) :
    PE X (.Call (.Name nm p) [.GeneratorExp elt [⟨tg, it, ifs, 0⟩] scope pos] [] pos') (tBoolG all X.K P wi gg tt te (own.map (·.2))) := by
  refine ⟨fun pins s σ H Q I h => ?_⟩
  cases all with
  | true =>
    have hall : nm = "all" := hall
    subst hall
    refine wpAny_Call_Name_kw (ld_blt I hg hm (u := .builtin "all") (by decide +kernel) ?_)
    refine PyProof.Rows.callWith_builtin1 ?_ he (by rfl)
    rw [he]
    show wpAny _ _ (spliced ((false, eval (.GeneratorExp elt [⟨tg, it, ifs, 0⟩] scope pos) X.env) :: backTo pos' (starEach [] X.env))) _ _ s
    refine Calls.spliced_cons (gx_make (hr.mono (by omega)) TB hcode ok hN hi hs I h fun J H2 a s5 sc cenv fp itA tn g go rr R _ => ?_)
    refine Calls.spliced_nil ?_
    obtain ⟨W, hw, turn⟩ := rr
    obtain ⟨cl, C, code, bi, rfl⟩ := R.ce
    have hd : X.A.depth < recursionLimit := by have := hr.dp; omega
    exact call_all_gx R hr.hd R.inv.ok.frames hd (G.g _ _ _ _ _ _ _ _ (room_gx2 hr _)) (G.t _ _ _ _ _ _ _ _ (room_gx2 hr _)) (G.e _ _ _ _ _ _ _ _ (room_gx2 hr _)) turn hw (fun s1 H' I' q => ⟨.bl false, H', I', rfl, q⟩) fun s1 ys H' I' q => ⟨.bl true, H', I', rfl, q⟩
  | false =>
    have hall : nm = "any" := hall
    subst hall
    refine wpAny_Call_Name_kw (ld_blt I hg hm (u := .builtin "any") (by decide +kernel) ?_)
    refine PyProof.Rows.callWith_builtin1 ?_ he (by rfl)
    rw [he]
    show wpAny _ _ (spliced ((false, eval (.GeneratorExp elt [⟨tg, it, ifs, 0⟩] scope pos) X.env) :: backTo pos' (starEach [] X.env))) _ _ s
    refine Calls.spliced_cons (gx_make (hr.mono (by omega)) TB hcode ok hN hi hs I h fun J H2 a s5 sc cenv fp itA tn g go rr R _ => ?_)
    refine Calls.spliced_nil ?_
    obtain ⟨W, hw, turn⟩ := rr
    obtain ⟨cl, C, code, bi, rfl⟩ := R.ce
    have hd : X.A.depth < recursionLimit := by have := hr.dp; omega
    exact call_any_gx R hr.hd R.inv.ok.frames hd (G.g _ _ _ _ _ _ _ _ (room_gx2 hr _)) (G.t _ _ _ _ _ _ _ _ (room_gx2 hr _)) (G.e _ _ _ _ _ _ _ _ (room_gx2 hr _)) turn hw (fun s1 H' I' q => ⟨.bl true, H', I', rfl, q⟩) fun s1 ys H' I' q => ⟨.bl false, H', I', rfl, q⟩
/-! .. by the small machine -/
structure GgAt (S : Kit) (okk : List Addr → Hp → Prop) (ρ1 : List Addr) (H1 : Hp) (τ : ES) (σ : St) (N m : Nat) (ρ : List Addr) (h : EH) (acc : List EV) (ys : List V) (H : Hp) : Prop where
  rep : Rep S ρ h H
  sr : SR S ρ H τ σ
  ok : okk ρ H
  vrs : VRs S ρ H acc.reverse ys
  few : acc.length + m ≤ N
  ext : Ext S ρ1 H1 ρ H
theorem tabbed_eq {P : Addr} {H1 H2 : Hp} (t : GxR.Tabbed P H1 H2) : ∃ qs, H2 = upd H1 P (.tbl qs) ∧ TriplesOk qs.toList := by
  obtain ⟨⟨qs, e, tr⟩, o⟩ := t
  refine ⟨qs, funext fun b => ?_, tr⟩
  by_cases h : b = P
  · subst h; rw [upd_same]; exact e
  · rw [upd_ne h]; exact o b h
noncomputable def finT (vs : List EV) (h : EH) : Out := .val (.tup vs) h
variable {mi me : M} {g : MG} {t : Option M}
theorem x_tupGx {N : Nat} {nm : Str} (hNs : N ≤ 16777216) (hfr : ∀ v ∈ own.map (·.2), S.fr v = true) (hP : S.tb P) (hr : Room (k + 1) X.A) (hg : Gl X nm) (hm : X.mg nm = none) (hv : bootBuiltins nm = some (.type "tuple")) (TB : GxR.TabB X.base X.mg c P) (hcode : X.env.code = .ref c) (ok : GxOk X.N X.env.scope scope own) (hN : X.N.Nodup) (hi : PI X tg it (TI' S W mi))
    (G : GPs X k tg elt ifs scope gg (TTs S t) (TM S W0 me)) (og : Own S g gg (own.map (·.2))) (hs : ∀ v, genFold it X.env v = pure v) (hn : nm ≠ "__name__" := by decide) (hdb : (nm == ("__debug__" : Str)) = false := by decide)
    (he : starEach [.GeneratorExp elt [⟨tg, it, ifs, 0⟩] scope pos] X.env = (false, eval (.GeneratorExp elt [⟨tg, it, ifs, 0⟩] scope pos) X.env) :: starEach [] X.env := by rfl) :
    PE X (.Call (.Name nm p) [.GeneratorExp elt [⟨tg, it, ifs, 0⟩] scope pos] [] pos') (TM S W (xGe N (own.map (·.2)) bTuple me g mi t)) := by
  refine PE.imp (pe_tupGx hr hg hm hv TB hcode ok hN hi G hs hn hdb he) fun σ H Q ⟨ρ, τ, h, R, s, p⟩ => ⟨ρ, τ, h, R, s, ?_⟩
  have p0 : PoE S (at0 W σ) Q ρ H ((mi τ h).then fun x h1 => (lcL N me g x t (wipeE τ (own.map (·.2))) 0 [] h1).then finT) := p
  cases q : mi τ h with
  | exc v h1 => rw [q] at p0; exact p0
  | bad => rw [q] at p0; exact p0
  | val src h1 =>
    rw [q] at p0
    have p1 : PoE S (at0 W σ) Q ρ H ((lcL N me g src t (wipeE τ (own.map (·.2))) 0 [] h1).then finT) := p0
    refine ⟨?_, fun ρ1 H1 J okk x R1 wk hok => ⟨R1.tab P hP, fun H1' tb => ?_⟩⟩
    · cases N with
      | zero => exact False.elim p1
      | succ N =>
        cases q2 : srcAt h1 src 0 with
        | some o => exact ⟨o, rfl⟩
        | none =>
          have p3 : PoE S (at0 W σ) Q ρ H ((((srcAt h1 src 0).rec .bad fun o => o.rec (.vals [].reverse h1) fun v => (g v (wipeE τ (own.map (·.2))) h1).toL fun σ1 h2 => t.rec ((me σ1 h2).toL fun y h3 => lcL N me g src t (wipeE τ (own.map (·.2))) 1 [y] h3) fun c => (c σ1 h2).toL fun b h4 => (truth h4 b).rec .bad fun k => k.rec (lcL N me g src t (wipeE τ (own.map (·.2))) 1 [] h4) ((me σ1 h4).toL fun y h3 => lcL N me g src t (wipeE τ (own.map (·.2))) 1 [y] h3) : OutL)).then finT) := p1
          rw [q2] at p3; exact False.elim p3
    · obtain ⟨qs, rfl, tr⟩ := tabbed_eq tb
      obtain ⟨ps, eP, _⟩ := R1.tab P hP
      have xg : Ext S ρ1 H1 ρ1 (upd H1 P (.tbl qs)) := Ext.grown eP
      have Rg := R1.grown eP tr
      generalize upd H1 P (.tbl qs) = H1g at xg Rg
      have s1 := ((s.mono x).mono xg).wipe (own.map (·.2)) hfr
      have pA : PoE S (at0 W σ) Q ρ1 H1g ((lcL N me g src t (wipeE τ (own.map (·.2))) 0 [] h1).then finT) := PoE.from (x.trans xg) p1
      refine ⟨fun i m ys H => ∃ ρ h acc, GgAt S okk ρ1 H1g (wipeE τ (own.map (·.2))) (wipe σ (own.map (·.2))) N m ρ h acc ys H ∧ PoE S (at0 W σ) Q ρ1 H1g ((lcL m me g src t (wipeE τ (own.map (·.2))) i acc h).then finT),
        ⟨N, ρ1, h1, [], ⟨Rg, s1, wk.mono _ _ _ _ hok xg.toLe, .nil, by simp, .refl⟩, pA⟩, ?_⟩
      rintro i m ys H2 ⟨ρ2, h2, acc, A, p2⟩
      cases m with
      | zero => exact False.elim p2
      | succ m =>
        have p3 : PoE S (at0 W σ) Q ρ1 H1g ((((srcAt h2 src i).rec .bad fun o => o.rec (.vals acc.reverse h2) fun v => (g v (wipeE τ (own.map (·.2))) h2).toL fun σ1 h2 => t.rec ((me σ1 h2).toL fun y h3 => lcL m me g src t (wipeE τ (own.map (·.2))) (i + 1) (y :: acc) h3) fun c => (c σ1 h2).toL fun b h4 => (truth h4 b).rec .bad fun k => k.rec (lcL m me g src t (wipeE τ (own.map (·.2))) (i + 1) acc h4) ((me σ1 h4).toL fun y h3 => lcL m me g src t (wipeE τ (own.map (·.2))) (i + 1) (y :: acc) h3) : OutL)).then finT) := p2
        have hlen := A.vrs.length
        rw [List.length_reverse] at hlen
        have few := A.few
        have grow : ∀ ρ3 H3 h3 y y', Ext S ρ2 H2 ρ3 H3 → Rep S ρ3 h3 H3 → VR S ρ3 H3 y y' → PoE S (at0 W σ) Q ρ1 H1g ((lcL m me g src t (wipeE τ (own.map (·.2))) (i + 1) (y :: acc) h3).then finT) →
            YdL ys y' H3 (fun ys' H' => ∃ m', m' < m + 1 ∧ ∃ ρ h acc, GgAt S okk ρ1 H1g (wipeE τ (own.map (·.2))) (wipe σ (own.map (·.2))) N m' ρ h acc ys' H' ∧ PoE S (at0 W σ) Q ρ1 H1g ((lcL m' me g src t (wipeE τ (own.map (·.2))) (i + 1) acc h).then finT)) := by
          intro ρ3 H3 h3 y y' x3 R3 r3 p4
          refine ⟨by rw [sizeLine_eq]; omega, m, Nat.lt_succ_self m, ρ3, h3, y :: acc, ⟨R3, A.sr.mono x3, wk.mono _ _ _ _ A.ok x3.toLe, ?_, by simp only [List.length_cons]; omega, A.ext.trans x3⟩, p4⟩
          rw [List.reverse_cons]
          exact (A.vrs.mono x3).append (.cons r3 .nil)
        cases q2 : srcAt h2 src i with
        | none => rw [q2] at p3; exact False.elim p3
        | some o =>
          rw [q2] at p3
          cases o with
          | none =>
            refine .inl ⟨wk.stop _ _ _ _ A.ok A.rep q2, by rw [sizeLine_eq]; omega, fun pa hpa => ?_⟩
            have p4 : PoE S (at0 W σ) Q ρ1 H1g (finT acc.reverse h2) := p3
            exact p4 ρ2 _ _ (A.ext.trans (Ext.new0 hpa)) (A.rep.laid hpa) (.tup (SqT.of upd_same) (A.vrs.mono (Ext.new0 hpa)))
          | some v =>
            obtain ⟨go, yl⟩ := wk.go _ _ _ _ _ A.ok A.rep q2
            refine .inr ⟨go, _, fun ys' H' z => z, fun xv H3 y => ?_⟩
            obtain ⟨x3, R3, r3⟩ := yl xv H3 y
            obtain ⟨τ4, h4, q4, p4⟩ := PoE.noexcS (o := g v (wipeE τ (own.map (·.2))) h2) p3
            refine og.run ρ2 H3 h2 _ _ v xv τ4 h4 _ R3 (A.sr.mono x3) r3 q4 fun ρ5 σ5 H5 x5 R5 s5 w5 => ⟨w5.trans (wipe_wipe σ _), ?_⟩
            have x35 := x3.trans x5
            cases t with
            | none =>
              have yes : ∀ Qb : Bool → Hp → Prop, Qb true H5 → TTs S none σ5 H5 Qb := fun _ z => z
              refine yes _ ?_
              refine iteT ⟨ρ5, τ4, h4, R5, s5, ?_⟩
              obtain ⟨yv, h6, q6, p6⟩ := PoE.noexc (o := me τ4 h4) p4
              rw [q6]
              exact fun ρ7 H7 y7 x7 R7 r7 => grow ρ7 H7 h6 yv y7 (x35.trans x7) R7 r7 p6
            | some c =>
              show TT' S W0 c σ5 H5 _
              refine ⟨ρ5, τ4, h4, R5, s5, ?_⟩
              obtain ⟨bv, h6, q6, p6⟩ := PoE.noexc (o := c τ4 h4) p4
              rw [q6]
              have p7 : PoE S (at0 W σ) Q ρ1 H1g ((((truth h6 bv).rec .bad fun k => k.rec (lcL m me g src (some c) (wipeE τ (own.map (·.2))) (i + 1) acc h6) ((me τ4 h6).toL fun y h3 => lcL m me g src (some c) (wipeE τ (own.map (·.2))) (i + 1) (y :: acc) h3) : OutL)).then finT) := p6
              cases q8 : truth h6 bv with
              | none => rw [q8] at p7; exact False.elim p7
              | some k =>
                rw [q8] at p7
                refine ⟨k, q8, fun ρ9 H9 x9 R9 => ?_⟩
                have x39 := x35.trans x9
                cases k with
                | true =>
                  refine iteT ⟨ρ9, τ4, h6, R9, s5.mono x9, ?_⟩
                  obtain ⟨yv, h10, q10, p10⟩ := PoE.noexc (o := me τ4 h6) p7
                  rw [q10]
                  exact fun ρ11 H11 y11 x11 R11 r11 => grow ρ11 H11 h10 yv y11 (x39.trans x11) R11 r11 p10
                | false =>
                  exact iteF ⟨m, Nat.lt_succ_self m, ρ9, h6, acc, ⟨R9, A.sr.mono x39, wk.mono _ _ _ _ A.ok x39.toLe, A.vrs.mono x39, by omega, A.ext.trans x39⟩, p7⟩

theorem PoE.noto {U : XW} {Q : VK} {ρ : List Addr} {H : Hp} {o : Out} {f : EV → EH → Out} (p : PoE S U Q ρ H (o.to f)) : ∃ v h, o = .val v h ∧ PoE S U Q ρ H (f v h) := by
  cases o with
  | val v h => exact ⟨v, h, rfl, p⟩
  | exc v h => exact False.elim p
  | bad => exact False.elim p
theorem PoE.notoS {U : XW} {Q : VK} {ρ : List Addr} {H : Hp} {o : OutS} {f : ES → EH → Out} (p : PoE S U Q ρ H (o.to f)) : ∃ v h, o = .nx v h ∧ PoE S U Q ρ H (f v h) := by
  cases o with
  | nx v h => exact ⟨v, h, rfl, p⟩
  | _ => exact False.elim p
structure GbAt (S : Kit) (okk : List Addr → Hp → Prop) (ρ1 : List Addr) (H1 : Hp) (τ : ES) (σ : St) (ρ : List Addr) (h : EH) (H : Hp) : Prop where
  rep : Rep S ρ h H
  sr : SR S ρ H τ σ
  ok : okk ρ H
  ext : Ext S ρ1 H1 ρ H
theorem x_boolGx {all : Bool} {N : Nat} {nm : Str} (hK : S.K = X.K) (hall : nm = (if all then "all" else "any" : Str)) (hfr : ∀ v ∈ own.map (·.2), S.fr v = true) (hP : S.tb P) (hr : Room (k + 1) X.A) (hg : Gl X nm) (hm : X.mg nm = none) (TB : GxR.TabB X.base X.mg c P) (hcode : X.env.code = .ref c) (ok : GxOk X.N X.env.scope scope own) (hN : X.N.Nodup) (hi : PI X tg it (TI' S W mi))
    (G : GPs X k tg elt ifs scope gg (TTs S t) (TM S W0 me)) (og : Own S g gg (own.map (·.2))) (hs : ∀ v, genFold it X.env v = pure v)
    (he : starEach [.GeneratorExp elt [⟨tg, it, ifs, 0⟩] scope pos] X.env = (false, eval (.GeneratorExp elt [⟨tg, it, ifs, 0⟩] scope pos) X.env) :: starEach [] X.env := by rfl) :
    PE X (.Call (.Name nm p) [.GeneratorExp elt [⟨tg, it, ifs, 0⟩] scope pos] [] pos') (TM S W (xAA N (own.map (·.2)) all me g mi t)) := by
  refine PE.imp (pe_boolGx (all := all) hall hr hg hm TB hcode ok hN hi G hs he) fun σ H Q ⟨ρ, τ, h, R, s, p⟩ => ⟨ρ, τ, h, R, s, ?_⟩
  have p0 : PoE S (at0 W σ) Q ρ H ((mi τ h).then fun x h1 => aaL N all me g x t (wipeE τ (own.map (·.2))) 0 h1) := p
  cases q : mi τ h with
  | exc v h1 => rw [q] at p0; exact p0
  | bad => rw [q] at p0; exact p0
  | val src h1 =>
    rw [q] at p0
    have p1 : PoE S (at0 W σ) Q ρ H (aaL N all me g src t (wipeE τ (own.map (·.2))) 0 h1) := p0
    have unf : ∀ m i h2, aaL (m + 1) all me g src t (wipeE τ (own.map (·.2))) i h2 = ((srcAt h2 src i).rec .bad fun o => o.rec (.val (.bl all) h2) fun v => (g v (wipeE τ (own.map (·.2))) h2).to fun σ1 h1 => t.rec ((me σ1 h1).to fun y h3 => (truth h3 y).rec .bad fun c => (c == all).rec (.val (.bl c) h3) (aaL m all me g src t (wipeE τ (own.map (·.2))) (i + 1) h3)) fun q => (q σ1 h1).to fun b h2 => (truth h2 b).rec .bad fun k => k.rec (aaL m all me g src t (wipeE τ (own.map (·.2))) (i + 1) h2) ((me σ1 h2).to fun y h3 => (truth h3 y).rec .bad fun c => (c == all).rec (.val (.bl c) h3) (aaL m all me g src t (wipeE τ (own.map (·.2))) (i + 1) h3)) : Out) := fun _ _ _ => rfl
    refine ⟨?_, fun ρ1 H1 J okk x R1 wk hok => ⟨R1.tab P hP, fun H1' tb => ?_⟩⟩
    · cases N with
      | zero => exact False.elim p1
      | succ N =>
        rw [unf] at p1
        cases q2 : srcAt h1 src 0 with
        | some o => exact ⟨o, rfl⟩
        | none => rw [q2] at p1; exact False.elim p1
    · obtain ⟨qs, rfl, tr⟩ := tabbed_eq tb
      obtain ⟨ps, eP, _⟩ := R1.tab P hP
      have xg : Ext S ρ1 H1 ρ1 (upd H1 P (.tbl qs)) := Ext.grown eP
      have Rg := R1.grown eP tr
      generalize upd H1 P (.tbl qs) = H1g at xg Rg
      have s1 := ((s.mono x).mono xg).wipe (own.map (·.2)) hfr
      have pA : PoE S (at0 W σ) Q ρ1 H1g (aaL N all me g src t (wipeE τ (own.map (·.2))) 0 h1) := PoE.from (x.trans xg) p1
      refine ⟨fun i m ys H => ∃ ρ h, GbAt S okk ρ1 H1g (wipeE τ (own.map (·.2))) (wipe σ (own.map (·.2))) ρ h H ∧ PoE S (at0 W σ) Q ρ1 H1g (aaL m all me g src t (wipeE τ (own.map (·.2))) i h),
        ⟨N, ρ1, h1, ⟨Rg, s1, wk.mono _ _ _ _ hok xg.toLe, .refl⟩, pA⟩, ?_⟩
      rintro i m ys H2 ⟨ρ2, h2, A, p2⟩
      cases m with
      | zero => exact False.elim p2
      | succ m =>
        rw [unf] at p2
        have grow : ∀ ρ3 H3 h3 y y', Ext S ρ2 H2 ρ3 H3 → Rep S ρ3 h3 H3 → VR S ρ3 H3 y y' → PoE S (at0 W σ) Q ρ1 H1g ((truth h3 y).rec .bad fun c => (c == all).rec (.val (.bl c) h3) (aaL m all me g src t (wipeE τ (own.map (·.2))) (i + 1) h3) : Out) →
            YdB all X.K (fun H' => Q (.bl (!all)) H') ys y' H3 (fun ys' H' => ∃ m', m' < m + 1 ∧ ∃ ρ h, GbAt S okk ρ1 H1g (wipeE τ (own.map (·.2))) (wipe σ (own.map (·.2))) ρ h H' ∧ PoE S (at0 W σ) Q ρ1 H1g (aaL m' all me g src t (wipeE τ (own.map (·.2))) (i + 1) h)) := by
          intro ρ3 H3 h3 y y' x3 R3 r3 p4
          cases q8 : truth h3 y with
          | none => rw [q8] at p4; exact False.elim p4
          | some c =>
            rw [q8] at p4
            refine ⟨c, hK ▸ truth_ok R3 r3 q8, ?_⟩
            have p5 : PoE S (at0 W σ) Q ρ1 H1g ((c == all).rec (.val (.bl c) h3) (aaL m all me g src t (wipeE τ (own.map (·.2))) (i + 1) h3) : Out) := p4
            by_cases hc : c = all
            · rw [if_pos hc]
              have e : (c == all) = true := by rw [hc]; exact beq_self_eq_true all
              rw [e] at p5
              exact ⟨m, Nat.lt_succ_self m, ρ3, h3, ⟨R3, A.sr.mono x3, wk.mono _ _ _ _ A.ok x3.toLe, A.ext.trans x3⟩, p5⟩
            · rw [if_neg hc]
              have e : (c == all) = false := by simpa using hc
              rw [e] at p5
              have e2 : c = !all := by
                cases c <;> cases all <;> first | rfl | exact absurd rfl hc
              rw [← e2]
              exact p5 ρ3 H3 _ (A.ext.trans x3) R3 (.bl c)
        cases q2 : srcAt h2 src i with
        | none => rw [q2] at p2; exact False.elim p2
        | some o =>
          rw [q2] at p2
          cases o with
          | none => exact .inl ⟨wk.stop _ _ _ _ A.ok A.rep q2, p2 ρ2 H2 _ A.ext A.rep (.bl all)⟩
          | some v =>
            obtain ⟨go, yl⟩ := wk.go _ _ _ _ _ A.ok A.rep q2
            refine .inr ⟨go, _, fun ys' H' z => z, fun xv H3 y => ?_⟩
            obtain ⟨x3, R3, r3⟩ := yl xv H3 y
            obtain ⟨τ4, h4, q4, p4⟩ := PoE.notoS (o := g v (wipeE τ (own.map (·.2))) h2) p2
            refine og.run ρ2 H3 h2 _ _ v xv τ4 h4 _ R3 (A.sr.mono x3) r3 q4 fun ρ5 σ5 H5 x5 R5 s5 w5 => ⟨w5.trans (wipe_wipe σ _), ?_⟩
            have x35 := x3.trans x5
            cases t with
            | none =>
              have yes : ∀ Qb : Bool → Hp → Prop, Qb true H5 → TTs S none σ5 H5 Qb := fun _ z => z
              refine yes _ ?_
              refine iteT ⟨ρ5, τ4, h4, R5, s5, ?_⟩
              obtain ⟨yv, h6, q6, p6⟩ := PoE.noto (o := me τ4 h4) p4
              rw [q6]
              exact fun ρ7 H7 y7 x7 R7 r7 => grow ρ7 H7 h6 yv y7 (x35.trans x7) R7 r7 p6
            | some c =>
              show TT' S W0 c σ5 H5 _
              refine ⟨ρ5, τ4, h4, R5, s5, ?_⟩
              obtain ⟨bv, h6, q6, p6⟩ := PoE.noto (o := c τ4 h4) p4
              rw [q6]
              cases q8 : truth h6 bv with
              | none => rw [q8] at p6; exact False.elim p6
              | some k =>
                rw [q8] at p6
                refine ⟨k, q8, fun ρ9 H9 x9 R9 => ?_⟩
                have x39 := x35.trans x9
                cases k with
                | true =>
                  refine iteT ⟨ρ9, τ4, h6, R9, s5.mono x9, ?_⟩
                  obtain ⟨yv, h10, q10, p10⟩ := PoE.noto (o := me τ4 h6) p6
                  rw [q10]
                  exact fun ρ11 H11 y11 x11 R11 r11 => grow ρ11 H11 h10 yv y11 (x39.trans x11) R11 r11 p10
                | false =>
                  exact iteF ⟨m, Nat.lt_succ_self m, ρ9, h6, ⟨R9, A.sr.mono x39, wk.mono _ _ _ _ A.ok x39.toLe, A.ext.trans x39⟩, p6⟩
end
end RT
end
section
set_option Elab.async false
set_option linter.all false
set_option maxRecDepth 100000
set_option maxHeartbeats 1000000
namespace RT
open PySem PySem.Spec PyProof.Rows L2 Ob
/-! the order of ints and tuples -/
theorem lexAt_shift (e r : Nat → Bool) (z : Bool) : ∀ (k i : Nat), lexAt e r z (i + 1) k = lexAt (fun j => e (j + 1)) (fun j => r (j + 1)) z i k
  | 0, _ => rfl
  | k + 1, i => by
    rw [lexAt_succ, lexAt_succ, lexAt_shift e r z k (i + 1)]
def gLt : Ord3 → Bool | .lt => true | _ => false
def gGt : Ord3 → Bool | .gt => true | _ => false
def gLe : Ord3 → Bool | .lt => true | .eq => true | _ => false
def gGe : Ord3 → Bool | .gt => true | .eq => true | _ => false
def gEq : Ord3 → Bool | .eq => true | _ => false
def bD (g : Ord3 → Bool) (f : EV → EV → Ord3) (es fs : List EV) (j : Nat) : Bool := match es[j]?, fs[j]? with
  | some x, some y => g (f x y)
  | _, _ => true
def eqD (f : EV → EV → Ord3) (es fs : List EV) (j : Nat) : Bool := bD gEq f es fs j
/-- what the rows' order says of lexAt; g: which orders the operator takes, z: what it says of the lengths -/
theorem lex_is {f : EV → EV → Ord3} (g : Ord3 → Bool) (zz : Nat → Nat → Bool) (hz0 : zz 0 0 = g .eq) (hzl : ∀ n, zz 0 (n + 1) = g .lt) (hzg : ∀ n, zz (n + 1) 0 = g .gt) (hzs : ∀ a b, zz (a + 1) (b + 1) = zz a b) :
    ∀ (es fs : List EV), cmpL f es fs ≠ .no → lexAt (eqD f es fs) (bD g f es fs) (zz es.length fs.length) 0 (min es.length fs.length) = g (cmpL f es fs)
  | [], [], _ => hz0
  | [], _ :: fs, _ => by
    show zz 0 (fs.length + 1) = g .lt
    exact hzl _
  | _ :: es, [], _ => by
    show lexAt _ _ (zz (es.length + 1) 0) 0 (min (es.length + 1) 0) = g .gt
    rw [Nat.min_zero]
    exact hzg _
  | x :: es, y :: fs, hn => by
    have e0 : cmpL f (x :: es) (y :: fs) = (f x y).casesOn ((cmpL f es fs).casesOn .lt .lt .lt .no) (cmpL f es fs) ((cmpL f es fs).casesOn .gt .gt .gt .no) .no := rfl
    have hm : min (x :: es).length (y :: fs).length = min es.length fs.length + 1 := by
      rw [List.length_cons, List.length_cons]; omega
    rw [hm, lexAt_succ, e0]
    rw [e0] at hn
    have ee : eqD f (x :: es) (y :: fs) 0 = gEq (f x y) := rfl
    have er : bD g f (x :: es) (y :: fs) 0 = g (f x y) := rfl
    rw [ee, er, lexAt_shift]
    have sh1 : (fun j => eqD f (x :: es) (y :: fs) (j + 1)) = eqD f es fs := rfl
    have sh2 : (fun j => bD g f (x :: es) (y :: fs) (j + 1)) = bD g f es fs := rfl
    rw [sh1, sh2]
    rw [List.length_cons, List.length_cons, hzs]
    cases q : f x y with
    | lt =>
      rw [q] at hn
      rw [if_neg (by simp [gEq])]
      cases q2 : cmpL f es fs with
      | no => rw [q2] at hn; exact absurd rfl hn
      | _ => rfl
    | gt =>
      rw [q] at hn
      rw [if_neg (by simp [gEq])]
      cases q2 : cmpL f es fs with
      | no => rw [q2] at hn; exact absurd rfl hn
      | _ => rfl
    | eq =>
      rw [q] at hn
      rw [if_pos (show gEq .eq = true from rfl)]
      exact lex_is g zz hz0 hzl hzg hzs es fs hn
    | no =>
      rw [q] at hn
      exact absurd rfl hn
theorem cmpL_all {f : EV → EV → Ord3} : ∀ (es fs : List EV), cmpL f es fs ≠ .no → ∀ (j : Nat) (x y : EV), es[j]? = some x → fs[j]? = some y → f x y ≠ .no
  | [], _, _, _, _, _, h, _ => by simp at h
  | _ :: _, [], _, _, _, _, _, h => by simp at h
  | a :: es, b :: fs, hn, j, x, y, h1, h2 => by
    have e0 : cmpL f (a :: es) (b :: fs) = (f a b).casesOn ((cmpL f es fs).casesOn .lt .lt .lt .no) (cmpL f es fs) ((cmpL f es fs).casesOn .gt .gt .gt .no) .no := rfl
    rw [e0] at hn
    have hr : cmpL f es fs ≠ .no := fun z => by
      rw [z] at hn
      cases q : f a b <;> rw [q] at hn <;> exact absurd rfl hn
    cases j with
    | zero =>
      simp at h1 h2
      subst h1 h2
      intro z
      rw [z] at hn
      exact absurd rfl hn
    | succ j => exact cmpL_all es fs hr j x y (by simpa using h1) (by simpa using h2)
theorem cmpL_eq {f : EV → EV → Ord3} : ∀ (es fs : List EV), cmpL f es fs ≠ .no → gEq (cmpL f es fs) = ((List.range (min es.length fs.length)).all (eqD f es fs) && (es.length == fs.length))
  | [], [], _ => rfl
  | [], _ :: fs, _ => by
    show false = ((List.range 0).all _ && (0 == fs.length + 1))
    simp
  | _ :: es, [], _ => by
    show false = ((List.range (min (es.length + 1) 0)).all _ && (es.length + 1 == 0))
    simp
  | x :: es, y :: fs, hn => by
    have e0 : cmpL f (x :: es) (y :: fs) = (f x y).casesOn ((cmpL f es fs).casesOn .lt .lt .lt .no) (cmpL f es fs) ((cmpL f es fs).casesOn .gt .gt .gt .no) .no := rfl
    have hm : min (x :: es).length (y :: fs).length = min es.length fs.length + 1 := by
      rw [List.length_cons, List.length_cons]; omega
    have hr : cmpL f es fs ≠ .no := fun z => by
      rw [e0, z] at hn
      cases q : f x y <;> rw [q] at hn <;> exact absurd rfl hn
    have ih := cmpL_eq es fs hr
    have sp : (List.range (min es.length fs.length + 1)).all (eqD f (x :: es) (y :: fs)) = (eqD f (x :: es) (y :: fs) 0 && (List.range (min es.length fs.length)).all (eqD f es fs)) := by
      rw [List.range_succ_eq_map, List.all_cons, List.all_map]
      rfl
    have hl : ((x :: es).length == (y :: fs).length) = (es.length == fs.length) := by
      rw [List.length_cons, List.length_cons, Bool.eq_iff_iff, beq_iff_eq, beq_iff_eq]; omega
    rw [hm, sp, hl, Bool.and_assoc, ← ih, e0]
    have ee : eqD f (x :: es) (y :: fs) 0 = gEq (f x y) := rfl
    rw [ee]
    cases q : f x y <;> cases q2 : cmpL f es fs <;> first | rfl | exact absurd q2 hr | (rw [e0, q] at hn; exact absurd rfl hn)
theorem cmpI_is (i j : Int) : (cmpI i j = .lt ∧ i < j) ∨ (cmpI i j = .eq ∧ i = j) ∨ (cmpI i j = .gt ∧ j < i) := by
  have e : cmpI i j = (intEq i j).rec ((intLt i j).rec .gt .lt) .eq := rfl
  rw [intEq_eq, intLt_eq] at e
  by_cases h : i = j
  · rw [decide_eq_true h] at e
    exact .inr (.inl ⟨e, h⟩)
  · rw [decide_eq_false h] at e
    by_cases h2 : i < j
    · rw [decide_eq_true h2] at e
      exact .inl ⟨e, h2⟩
    · rw [decide_eq_false h2] at e
      exact .inr (.inr ⟨e, by omega⟩)
structure Cmps (A : Around) (s : Shared) (u w : Value) (c : Ord3) : Prop where
  eq : SeqAt.EqAt A s u w (gEq c)
  lt : RcOp .Lt A s u w (gLt c)
  gt : RcOp .Gt A s u w (gGt c)
  le : RcOp .LtE A s u w (gLe c)
  ge : RcOp .GtE A s u w (gGe c)
section
variable {X : Cx} {S : Kit} {pins : List (Addr × Obj)} {σ : St} {H : Hp} {ρ : List Addr} {s : Shared}
theorem relsAt {S : Kit} {ρ : List Addr} {H : Hp} {es : List EV} {vs : List V} {its : List Value} (r : VRs S ρ H es vs) (rv : Vals vs its) (j : Nat) (h : j < its.length) : ∃ e v, es[j]? = some e ∧ vs[j]? = some v ∧ VR S ρ H e v ∧ RelV v its[j] := by
  have l1 := r.length
  have l2 := rv.length
  have he : es[j]? = some es[j] := List.getElem?_eq_getElem (by omega)
  obtain ⟨v, h1, h2⟩ := r.get he
  obtain ⟨u, h3, h4⟩ := rv.get h1
  rw [List.getElem?_eq_getElem h] at h3
  cases h3
  exact ⟨_, v, he, h1, h2, h4⟩
theorem relV_inj {x y : V} {u : Value} (h1 : L2.RelV x u) (h2 : L2.RelV y u) : x = y := by
  cases x <;> cases y <;> simp only [L2.RelV] at h1 h2 <;> first
    | rfl
    | (subst h1; cases h2; rfl)
    | (subst h1; obtain ⟨_, h2⟩ := h2; cases h2; done)
    | (obtain ⟨t1, e1⟩ := h1; subst e1; cases h2; done)
    | (obtain ⟨t1, e1⟩ := h1; subst e1; obtain ⟨t2, e2⟩ := h2; cases e2; rfl)
    | (obtain ⟨t1, e1⟩ := h1; subst e1; obtain ⟨t2, e2⟩ := h2; cases e2; done)
    | (subst h1; cases h2; done)
theorem vals_inj : ∀ {xs ys : List V} {us : List Value}, Vals xs us → Vals ys us → xs = ys
  | _, _, _, .nil, .nil => rfl
  | _, _, _, .cons a r, .cons b t => by rw [relV_inj a b, vals_inj r t]
theorem sqt_inj {a : Addr} {vs ws : List V} (I : Inv X pins σ H s) (h1 : SqT X.K H a vs) (h2 : SqT X.K H a ws) : vs = ws := by
  obtain ⟨its, r1, ⟨o1, ho1, _, n1, hd1⟩, _⟩ := I.tuple h1
  obtain ⟨its2, r2, ⟨o2, ho2, _, n2, hd2⟩, _⟩ := I.tuple h2
  rw [ho1] at ho2
  cases ho2
  rw [hd1] at hd2
  injection hd2 with hd2 _
  have hits : its = its2 := by simpa using hd2
  subst hits
  exact vals_inj r1 r2
theorem cmpL_same {f : EV → EV → Ord3} {P : EV → EV → Prop} (hf : ∀ a b, P a b → f a b ≠ .no → f a b = .eq) : ∀ (es fs : List EV), es.length = fs.length → (∀ (j : Nat) (x y : EV), es[j]? = some x → fs[j]? = some y → P x y) → cmpL f es fs ≠ .no → cmpL f es fs = .eq
  | [], [], _, _, _ => rfl
  | [], _ :: _, h, _, _ => by simp at h
  | _ :: _, [], h, _, _ => by simp at h
  | x :: es, y :: fs, hl, hp, hn => by
    have e0 : cmpL f (x :: es) (y :: fs) = (f x y).casesOn ((cmpL f es fs).casesOn .lt .lt .lt .no) (cmpL f es fs) ((cmpL f es fs).casesOn .gt .gt .gt .no) .no := rfl
    have h0 := hf x y (hp 0 x y rfl rfl) (cmpL_all (x :: es) (y :: fs) hn 0 x y rfl rfl)
    rw [e0, h0] at hn ⊢
    exact cmpL_same hf es fs (by simpa using hl) (fun j a b h1 h2 => hp (j + 1) a b (by simpa using h1) (by simpa using h2)) hn
theorem cmp_same (hK : S.K = X.K) (I : Inv X pins σ H s) : ∀ (n : Nat) (a b : EV) (x : V), VR S ρ H a x → VR S ρ H b x → cmpN n a b ≠ .no → cmpN n a b = .eq
  | 0, _, _, _, _, _, h => absurd rfl h
  | n + 1, a, b, x, ra, rb, h => by
    cases ra with
    | int i =>
      cases rb with
      | int j =>
        have e : cmpN (n + 1) (.int i) (.int i) = cmpI i i := rfl
        rw [e]
        rcases cmpI_is i i with ⟨e, q⟩ | ⟨e, q⟩ | ⟨e, q⟩
        · omega
        · exact e
        · omega
      | _ => exact absurd rfl h
    | tup ha hv =>
      cases rb with
      | tup hb hw =>
        rename_i a1 vs es ws fs
        have e : cmpN (n + 1) (.tup es) (.tup fs) = cmpL (cmpN n) es fs := rfl
        rw [e] at h ⊢
        have vv : vs = ws := sqt_inj I (hK ▸ ha) (hK ▸ hb)
        subst vv
        refine cmpL_same (P := fun a b => ∃ x, VR S ρ H a x ∧ VR S ρ H b x) (fun a b ⟨x, h1, h2⟩ => cmp_same hK I n a b x h1 h2) es fs (by rw [hv.length, hw.length]) (fun j xa xb q1 q2 => ?_) h
        obtain ⟨va, g1, g2⟩ := hv.get q1
        obtain ⟨vb, g3, g4⟩ := hw.get q2
        rw [g1] at g3
        cases g3
        exact ⟨va, g2, g4⟩
      | _ => exact absurd rfl h
    | _ => exact absurd rfl h
theorem cmp_ok (hK : S.K = X.K) (I : Inv X pins σ H s) : ∀ (n : Nat) (A : Around) (a b : EV) (x y : V) (u w : Value), A.units + n < cLine → VR S ρ H a x → VR S ρ H b y → RelV x u → RelV y w → cmpN n a b ≠ .no → Cmps A s u w (cmpN n a b)
  | 0, _, _, _, _, _, _, _, _, _, _, _, _, h => absurd rfl h
  | n + 1, A, a, b, x, y, u, w, hu, ra, rb, rx, ry, h => by
    cases ra with
    | int i =>
      cases rb with
      | int j =>
        obtain ⟨t, rfl⟩ := rx
        obtain ⟨t', rfl⟩ := ry
        have e : cmpN (n + 1) (.int i) (.int j) = cmpI i j := rfl
        rw [e]
        rcases cmpI_is i j with ⟨e, q⟩ | ⟨e, q⟩ | ⟨e, q⟩
        · rw [e]
          have z1 : (i == j) = false := by rw [beq_eq_false_iff_ne]; omega
          have z2 : decide (i < j) = true := decide_eq_true q
          have z3 : decide (j < i) = false := decide_eq_false (by omega)
          have z4 : decide (i ≤ j) = true := decide_eq_true (by omega)
          have z5 : decide (j ≤ i) = false := decide_eq_false (by omega)
          exact ⟨by have := SeqAt.EqAt.int_int (A := A) (s := s) i t j t'; rw [z1] at this; exact this, by have := RcOp.lt_int (A := A) (s := s) i j t t'; rw [z2] at this; exact this, by have := RcOp.gt_int (A := A) (s := s) i j t t'; rw [z3] at this; exact this,
            by have := RcOp.le_int (A := A) (s := s) i j t t'; rw [z4] at this; exact this, by have := RcOp.ge_int (A := A) (s := s) i j t t'; rw [z5] at this; exact this⟩
        · rw [e]
          have z1 : (i == j) = true := by rw [beq_iff_eq]; exact q
          have z2 : decide (i < j) = false := decide_eq_false (by omega)
          have z3 : decide (j < i) = false := decide_eq_false (by omega)
          have z4 : decide (i ≤ j) = true := decide_eq_true (by omega)
          have z5 : decide (j ≤ i) = true := decide_eq_true (by omega)
          exact ⟨by have := SeqAt.EqAt.int_int (A := A) (s := s) i t j t'; rw [z1] at this; exact this, by have := RcOp.lt_int (A := A) (s := s) i j t t'; rw [z2] at this; exact this, by have := RcOp.gt_int (A := A) (s := s) i j t t'; rw [z3] at this; exact this,
            by have := RcOp.le_int (A := A) (s := s) i j t t'; rw [z4] at this; exact this, by have := RcOp.ge_int (A := A) (s := s) i j t t'; rw [z5] at this; exact this⟩
        · rw [e]
          have z1 : (i == j) = false := by rw [beq_eq_false_iff_ne]; omega
          have z2 : decide (i < j) = false := decide_eq_false (by omega)
          have z3 : decide (j < i) = true := decide_eq_true q
          have z4 : decide (i ≤ j) = false := decide_eq_false (by omega)
          have z5 : decide (j ≤ i) = true := decide_eq_true (by omega)
          exact ⟨by have := SeqAt.EqAt.int_int (A := A) (s := s) i t j t'; rw [z1] at this; exact this, by have := RcOp.lt_int (A := A) (s := s) i j t t'; rw [z2] at this; exact this, by have := RcOp.gt_int (A := A) (s := s) i j t t'; rw [z3] at this; exact this,
            by have := RcOp.le_int (A := A) (s := s) i j t t'; rw [z4] at this; exact this, by have := RcOp.ge_int (A := A) (s := s) i j t t'; rw [z5] at this; exact this⟩
      | _ => exact absurd rfl h
    | tup ha hv =>
      cases rb with
      | tup hb hw =>
        rename_i a1 vs es a2 ws fs
        cases rx
        cases ry
        obtain ⟨its, r1, p1, _⟩ := I.tuple (hK ▸ ha)
        obtain ⟨its2, r2, p2, _⟩ := I.tuple (hK ▸ hb)
        have e : cmpN (n + 1) (.tup es) (.tup fs) = cmpL (cmpN n) es fs := rfl
        rw [e] at h ⊢
        have l1 : its.toArray.size = es.length := by rw [List.size_toArray, ← r1.length, hv.length]
        have l2 : its2.toArray.size = fs.length := by rw [List.size_toArray, ← r2.length, hw.length]
        have hu1 : A.in1.units + n < cLine := by
          show A.units + 1 + n < cLine
          omega
        have pair : ∀ j (h1 : j < its.toArray.size) (h2 : j < its2.toArray.size), ∃ xa xb, es[j]? = some xa ∧ fs[j]? = some xb ∧ Cmps A.in1 s its.toArray[j] its2.toArray[j] (cmpN n xa xb) := fun j h1 h2 => by
          obtain ⟨xa, va, q1, _, q3, q4⟩ := relsAt hv r1 j (by simpa using h1)
          obtain ⟨xb, vb, w1, _, w3, w4⟩ := relsAt hw r2 j (by simpa using h2)
          refine ⟨xa, xb, q1, w1, ?_⟩
          exact cmp_ok hK I n A.in1 xa xb va vb _ _ hu1 q3 w3 (by simpa using q4) (by simpa using w4) (cmpL_all es fs h j xa xb q1 w1)
        have he : ∀ j (h1 : j < its.toArray.size) (h2 : j < its2.toArray.size), SeqAt.EqAt A.in1 s its.toArray[j] its2.toArray[j] (eqD (cmpN n) es fs j) := fun j h1 h2 => by
          obtain ⟨xa, xb, q1, q2, C⟩ := pair j h1 h2
          have z : eqD (cmpN n) es fs j = gEq (cmpN n xa xb) := by
            unfold eqD bD
            rw [q1, q2]
          rw [z]; exact C.eq
        have bd : ∀ (g : Ord3 → Bool) (j : Nat) (xa xb : EV), es[j]? = some xa → fs[j]? = some xb → bD g (cmpN n) es fs j = g (cmpN n xa xb) := fun g j xa xb q1 q2 => by
          unfold bD
          rw [q1, q2]
        have hu2 : A.units < cLine := by omega
        refine ⟨?_, ?_, ?_, ?_, ?_⟩
        · have z : gEq (cmpL (cmpN n) es fs) = ((List.range (min its.toArray.size its2.toArray.size)).all (eqD (cmpN n) es fs) && its.toArray.size == its2.toArray.size) := by
            rw [l1, l2, ← cmpL_eq es fs h]
          by_cases hab : a1 = a2
          · subst hab
            have same : gEq (cmpL (cmpN n) es fs) = true := by
              -- the very same tuple: each place is the same value
              obtain ⟨o1, ho1, _, n1, hd1⟩ := p1
              obtain ⟨o2, ho2, _, n2, hd2⟩ := p2
              rw [ho1] at ho2
              cases ho2
              rw [hd1] at hd2
              injection hd2 with hd2 _
              have hits : its = its2 := by simpa using hd2
              subst hits
              rw [z]
              simp only [beq_self_eq_true, Bool.and_true, Nat.min_self]
              rw [List.all_eq_true]
              intro j hj
              have hj' := List.mem_range.mp hj
              have E := he j hj' hj'
              have E2 := SeqAt.EqAt.same (A := A.in1) (s := s) its.toArray[j]
              -- both answers are given
              cases q : eqD (cmpN n) es fs j with
              | true => rfl
              | false =>
                exfalso
                obtain ⟨xa, xb, q1, q2, C⟩ := pair j hj' hj'
                have ra' := hv.get q1
                have rb' := hw.get q2
                obtain ⟨va, g1, g2⟩ := ra'
                obtain ⟨vb, g3, g4⟩ := rb'
                have vv : vs = ws := sqt_inj I (hK ▸ ha) (hK ▸ hb)
                subst vv
                rw [g1] at g3
                cases g3
                have z2 : cmpN n xa xb = .eq := cmp_same hK I n xa xb va g2 g4 (cmpL_all es fs h j xa xb q1 q2)
                unfold eqD bD at q
                rw [q1, q2] at q
                dsimp only at q
                rw [z2] at q
                cases q
            rw [same]
            exact SeqAt.EqAt.same _
          · rw [z]
            exact SeqAt.EqAt.of_refs hab (SeqAt.RcAt.tuples p1 p2 hu2 he)
        · have R := RcOp.tuples_lt (A := A) (s := s) (e := eqD (cmpN n) es fs) (r := bD gLt (cmpN n) es fs) p1 p2 hu2 he (fun j h1 h2 _ => by
            obtain ⟨xa, xb, q1, q2, C⟩ := pair j h1 h2
            rw [bd gLt j xa xb q1 q2]; exact C.lt)
          rw [l1, l2, lex_is gLt (fun a b => decide (a < b)) rfl (fun n => by simp [gLt]) (fun n => by simp [gLt]) (fun a b => by simp) es fs h] at R
          exact R
        · have R := RcOp.tuples_gt (A := A) (s := s) (e := eqD (cmpN n) es fs) (r := bD gGt (cmpN n) es fs) p1 p2 hu2 he (fun j h1 h2 _ => by
            obtain ⟨xa, xb, q1, q2, C⟩ := pair j h1 h2
            rw [bd gGt j xa xb q1 q2]; exact C.gt)
          rw [l1, l2, lex_is gGt (fun a b => decide (a > b)) rfl (fun n => by simp [gGt]) (fun n => by simp [gGt]) (fun a b => by simp) es fs h] at R
          exact R
        · have R := RcOp.tuples_le (A := A) (s := s) (e := eqD (cmpN n) es fs) (r := bD gLe (cmpN n) es fs) p1 p2 hu2 he (fun j h1 h2 _ => by
            obtain ⟨xa, xb, q1, q2, C⟩ := pair j h1 h2
            rw [bd gLe j xa xb q1 q2]; exact C.le)
          rw [l1, l2, lex_is gLe (fun a b => decide (a ≤ b)) rfl (fun n => by simp [gLe]) (fun n => by simp [gLe]) (fun a b => by simp) es fs h] at R
          exact R
        · have R := RcOp.tuples_ge (A := A) (s := s) (e := eqD (cmpN n) es fs) (r := bD gGe (cmpN n) es fs) p1 p2 hu2 he (fun j h1 h2 _ => by
            obtain ⟨xa, xb, q1, q2, C⟩ := pair j h1 h2
            rw [bd gGe j xa xb q1 q2]; exact C.ge)
          rw [l1, l2, lex_is gGe (fun a b => decide (a ≥ b)) rfl (fun n => by simp [gGe]) (fun n => by simp [gGe]) (fun a b => by simp) es fs h] at R
          exact R
      | _ => exact absurd rfl h
    | _ => exact absurd rfl h
end
end RT
end
section
set_option Elab.async false
set_option linter.all false
set_option maxRecDepth 100000
set_option maxHeartbeats 1000000
noncomputable section
namespace RT
open PySem PySem.Spec PyProof.Rows L2 Ob
theorem ltO_g {c : Ord3} {k : Bool} (h : ltO c = some k) : gLt c = k ∧ c ≠ .no := by cases c <;> cases h <;> exact ⟨rfl, nofun⟩
theorem gtO_g {c : Ord3} {k : Bool} (h : gtO c = some k) : gGt c = k ∧ c ≠ .no := by cases c <;> cases h <;> exact ⟨rfl, nofun⟩
theorem leO_g {c : Ord3} {k : Bool} (h : leO c = some k) : gLe c = k ∧ c ≠ .no := by cases c <;> cases h <;> exact ⟨rfl, nofun⟩
theorem geO_g {c : Ord3} {k : Bool} (h : geO c = some k) : gGe c = k ∧ c ≠ .no := by cases c <;> cases h <;> exact ⟨rfl, nofun⟩
def rOrd (S : Kit) (f : Ord3 → Option Bool) : R2 := fun x y H Q => ∃ ρ h a b k, Rep S ρ h H ∧ VR S ρ H a x ∧ VR S ρ H b y ∧ f (cmpB a b) = some k ∧ Q (.bl k) H
section
variable {X : Cx} {S : Kit} {j : Nat}
theorem room40 (hr : Room j X.A) : X.A.units + 40 < cLine := by have := hr.un; omega
theorem op_ltO (hK : S.K = X.K) (hr : Room j X.A) : OpR X (compareOp .Lt) (rOrd S ltO) := fun pins s σ H x y v u Q I rx ry ⟨ρ, h, a, b, k, R, ra, rb, e, q⟩ => by
  obtain ⟨e1, e2⟩ := ltO_g e
  exact (cmp_ok hK I 40 X.A a b x y v u (room40 hr) ra rb rx ry e2).lt X.prog X.w X.xe _ ⟨.bl k, H, I, by rw [show gLt (cmpN 40 a b) = k from e1]; rfl, q⟩
theorem op_gtO (hK : S.K = X.K) (hr : Room j X.A) : OpR X (compareOp .Gt) (rOrd S gtO) := fun pins s σ H x y v u Q I rx ry ⟨ρ, h, a, b, k, R, ra, rb, e, q⟩ => by
  obtain ⟨e1, e2⟩ := gtO_g e
  exact (cmp_ok hK I 40 X.A a b x y v u (room40 hr) ra rb rx ry e2).gt X.prog X.w X.xe _ ⟨.bl k, H, I, by rw [show gGt (cmpN 40 a b) = k from e1]; rfl, q⟩
theorem op_leO (hK : S.K = X.K) (hr : Room j X.A) : OpR X (compareOp .LtE) (rOrd S leO) := fun pins s σ H x y v u Q I rx ry ⟨ρ, h, a, b, k, R, ra, rb, e, q⟩ => by
  obtain ⟨e1, e2⟩ := leO_g e
  exact (cmp_ok hK I 40 X.A a b x y v u (room40 hr) ra rb rx ry e2).le X.prog X.w X.xe _ ⟨.bl k, H, I, by rw [show gLe (cmpN 40 a b) = k from e1]; rfl, q⟩
theorem op_geO (hK : S.K = X.K) (hr : Room j X.A) : OpR X (compareOp .GtE) (rOrd S geO) := fun pins s σ H x y v u Q I rx ry ⟨ρ, h, a, b, k, R, ra, rb, e, q⟩ => by
  obtain ⟨e1, e2⟩ := geO_g e
  exact (cmp_ok hK I 40 X.A a b x y v u (room40 hr) ra rb rx ry e2).ge X.prog X.w X.xe _ ⟨.bl k, H, I, by rw [show gGe (cmpN 40 a b) = k from e1]; rfl, q⟩
theorem v_lt : VCm S vLt (rOrd S ltO) := fun _ _ _ _ _ _ _ _ _ R r1 r2 q p => ⟨_, _, _, _, _, R, r1, r2, q, p⟩
theorem v_gt : VCm S vGt (rOrd S gtO) := fun _ _ _ _ _ _ _ _ _ R r1 r2 q p => ⟨_, _, _, _, _, R, r1, r2, q, p⟩
theorem v_le : VCm S vLe (rOrd S leO) := fun _ _ _ _ _ _ _ _ _ R r1 r2 q p => ⟨_, _, _, _, _, R, r1, r2, q, p⟩
theorem v_ge : VCm S vGe (rOrd S geO) := fun _ _ _ _ _ _ _ _ _ R r1 r2 q p => ⟨_, _, _, _, _, R, r1, r2, q, p⟩
end
/-! the least, the greatest -/
def btE (g : Ord3 → Bool) (es : List EV) (i j : Nat) : Bool := g (cmpB (es.getD i .non) (es.getD j .non))
theorem btE_is (g : Ord3 → Bool) (es : List EV) (i j : Nat) : btE g es i j = g (cmpB (es.getD i .non) (es.getD j .non)) := rfl
theorem isl_lt {h : Heap} {a : Addr} {its : Array Value} (x : h.IsList a its) : a < h.objs.size := let ⟨_, ho, _⟩ := x; Heap.lt_size ho
/-- c is what a better one gives -/
def gOf : Ord3 → Ord3 → Bool | .lt => gLt | .gt => gGt | _ => fun _ => false
theorem best_is {c : Ord3} (hc : c = .lt ∨ c = .gt) : ∀ (l pre : List EV) (m e : EV), pre ≠ [] → best c l m = some e → (pre ++ l)[argBest (btE (gOf c) (pre ++ l)) (pre.length - 1)]? = some m →
    (pre ++ l)[argBest (btE (gOf c) (pre ++ l)) (pre.length - 1 + l.length)]? = some e ∧ ∀ i, pre.length ≤ i → i < pre.length + l.length → cmpB ((pre ++ l).getD i .non) ((pre ++ l).getD (argBest (btE (gOf c) (pre ++ l)) (i - 1)) .non) ≠ .no
  | [], pre, m, e, hp, h, hm => by
    cases h
    exact ⟨by simpa using hm, fun i h1 h2 => by simp at h2; omega⟩
  | x :: l, pre, m, e, hp, h, hm => by
    have hl : 0 < pre.length := List.length_pos_iff.mpr hp
    have e1 : pre ++ x :: l = (pre ++ [x]) ++ l := by simp
    have hx : (pre ++ x :: l)[pre.length]? = some x := by simp
    have hxD : (pre ++ x :: l).getD pre.length .non = x := by rw [List.getD_eq_getElem?_getD, hx]; rfl
    have hmD : (pre ++ x :: l).getD (argBest (btE (gOf c) (pre ++ x :: l)) (pre.length - 1)) .non = m := by rw [List.getD_eq_getElem?_getD, hm]; rfl
    have hs : argBest (btE (gOf c) (pre ++ x :: l)) (pre.length - 1 + 1) = if btE (gOf c) (pre ++ x :: l) (pre.length - 1 + 1) (argBest (btE (gOf c) (pre ++ x :: l)) (pre.length - 1)) then pre.length - 1 + 1 else argBest (btE (gOf c) (pre ++ x :: l)) (pre.length - 1) := rfl
    rw [show pre.length - 1 + 1 = pre.length by omega] at hs
    have hb : btE (gOf c) (pre ++ x :: l) pre.length (argBest (btE (gOf c) (pre ++ x :: l)) (pre.length - 1)) = gOf c (cmpB x m) := by
      rw [btE_is, hxD, hmD]
    rw [hb] at hs
    have h' : (cmpB x m).casesOn (motive := fun _ => Option EV) (c.casesOn (best c l x) (best c l m) (best c l m) (best c l m)) (best c l m) (c.casesOn (best c l m) (best c l m) (best c l x) (best c l m)) none = some e := h
    -- the next best one
    have key : ∃ m', best c l m' = some e ∧ (pre ++ x :: l)[argBest (btE (gOf c) (pre ++ x :: l)) pre.length]? = some m' ∧ cmpB x m ≠ .no := by
      rw [hs]
      rcases hc with rfl | rfl
      · cases q : cmpB x m with
        | lt => rw [q] at h'; exact ⟨x, h', by rw [if_pos (show gOf .lt .lt = true from rfl)]; exact hx, nofun⟩
        | eq => rw [q] at h'; exact ⟨m, h', by rw [if_neg (show ¬ gOf .lt .eq = true from nofun)]; exact hm, nofun⟩
        | gt => rw [q] at h'; exact ⟨m, h', by rw [if_neg (show ¬ gOf .lt .gt = true from nofun)]; exact hm, nofun⟩
        | no => rw [q] at h'; cases h'
      · cases q : cmpB x m with
        | lt => rw [q] at h'; exact ⟨m, h', by rw [if_neg (show ¬ gOf .gt .lt = true from nofun)]; exact hm, nofun⟩
        | eq => rw [q] at h'; exact ⟨m, h', by rw [if_neg (show ¬ gOf .gt .eq = true from nofun)]; exact hm, nofun⟩
        | gt => rw [q] at h'; exact ⟨x, h', by rw [if_pos (show gOf .gt .gt = true from rfl)]; exact hx, nofun⟩
        | no => rw [q] at h'; cases h'
    obtain ⟨m', k1, k2, k3⟩ := key
    have ih := best_is hc l (pre ++ [x]) m' e (by simp) k1 (by
      rw [← e1]
      simpa using k2)
    rw [← e1] at ih
    obtain ⟨i1, i2⟩ := ih
    have el : (pre ++ [x]).length = pre.length + 1 := by simp
    rw [el] at i1 i2
    refine ⟨by rw [List.length_cons, show pre.length - 1 + (l.length + 1) = pre.length + 1 - 1 + l.length by omega]; exact i1, fun i h1 h2 => ?_⟩
    rw [List.length_cons] at h2
    by_cases hi : i = pre.length
    · subst hi
      rw [hxD, hmD]; exact k3
    · exact i2 i (by omega) (by omega)
section
variable {prog : Program} {w : World} {A : Around} {I : Addr} {n : Nat} {P : Nat → Value → Prop} {St : Nat → Heap → Prop} {s0 : Shared} {T : Addr} {E : Value → Shared → Prop}

/-- what min's loop wants of the comparisons -/
theorem loop_min {fp : List Addr} (W : Walks prog w A.in1 I fp [I] n P St) (bt : Nat → Nat → Bool) (hI : s0.heap.get? I = none) (hT : T ∉ fp) (hT0 : s0.heap.get? T = none) (R : Result → Shared → Prop)
    (hc : ∀ i u v h' tk (E : Value → Shared → Prop) (Q : Value → Shared → Prop), i + 1 < n → P (i + 1) u → P (argBest bt i) v → (∀ b o, s0.heap.get? b = some o → h'.get? b = some o) → Q (.bool (bt (i + 1) (argBest bt i))) { s0 with heap := h', toks := tk } → wpAny (model prog w) A.in1 (richCompare .Lt u v) Q E { s0 with heap := h', toks := tk })
    (hR : ∀ v h' tk, P (argBest bt (n - 1)) v → (∀ b o, s0.heap.get? b = some o → h'.get? b = some o) → R (.ok (.ret v)) { s0 with heap := h', toks := tk }) :
    ∀ (k i : Nat) (h : Heap) (tk : Nat) (u : Value) (c : Nat), k + (i + 1) = n → St (i + 1) h → P (argBest bt i) u → h.get? T = some { cls := .type "list", dict := none, data := .seq #[u, u] c, slots := #[] } → (∀ b o, s0.heap.get? b = some o → h.get? b = some o) →
      codeAny (model prog w) A (.builtin "min.loop" ⟨[.ref I, .none, .ref T], []⟩) R { s0 with heap := h, toks := tk } := by
  have TI : T ≠ I := fun e => hT (W.sub T (by rw [e]; exact List.mem_cons_self))
  have old : ∀ {b : Addr} {o : Obj}, s0.heap.get? b = some o → b ≠ I ∧ b ≠ T := fun {b o} e => ⟨fun z => (by rw [z, hI] at e; cases e), fun z => (by rw [z, hT0] at e; cases e)⟩
  have kept : ∀ {h h' : Heap}, (∀ b o, b ∉ [I] → h.get? b = some o → h'.get? b = some o) → (∀ b o, s0.heap.get? b = some o → h.get? b = some o) → ∀ b o, s0.heap.get? b = some o → h'.get? b = some o :=
    fun k2 k1 b o e => k2 b o (fun m => (old e).1 (List.mem_singleton.mp m)) (k1 b o e)
  have put : ∀ {h : Heap} {f : Obj → Obj}, (∀ b o, s0.heap.get? b = some o → h.get? b = some o) → ∀ b o, s0.heap.get? b = some o → (h.update T f).get? b = some o :=
    fun {h f} k1 b o e => (Heap.get?_update_other _ _ (Ne.symm (old e).2)).trans (k1 b o e)
  have nm : (toString "min" ++ toString ".loop" : String) = "min.loop" := by decide
  intro k
  induction k with
  | zero =>
    intro i h tk u c hk st pu hS hold
    refine codeAny_builtin F.entry_min_loop ?_
    rw [Around.under_plainId F.plain_min_loop _]
    show wpAny _ A.in1 (seqItems? (.ref T) >>= _) _ _ { s0 with heap := h, toks := tk }
    refine wpAny_bind (wpAny_seqItems (s := { s0 with heap := h, toks := tk }) hS rfl ?_)
    show wpAny _ A.in1 (tryCatch (pyNext (.ref I)) _ >>= _) _ _ { s0 with heap := h, toks := tk }
    refine wpAny_bind (wpAny_tryCatch (W.done { s0 with heap := h, toks := tk } _ _ (by rw [show n = i + 1 by omega]; exact st) fun h2 tk2 k2 => ?_))
    have hS2 := k2 T _ (fun m => TI (List.mem_singleton.mp m)) hS
    show wpAny _ A.in1 (updateSeq T (fun _ => #[]) >>= _) _ _ { s0 with heap := h2, toks := tk2 }
    refine wpAny_bind (wpAny_updateSeq (s := { s0 with heap := h2, toks := tk2 }) hS2 rfl (wpAny_bind (wpAny_letGo (wpAny_pure ?_))))
    exact hR u _ tk2 (by rw [show n - 1 = i by omega]; exact pu) (put (kept k2 hold))
  | succ k ih =>
    intro i h tk u c hk st pu hS hold
    refine codeAny_builtin F.entry_min_loop ?_
    rw [Around.under_plainId F.plain_min_loop _]
    show wpAny _ A.in1 (seqItems? (.ref T) >>= _) _ _ { s0 with heap := h, toks := tk }
    refine wpAny_bind (wpAny_seqItems (s := { s0 with heap := h, toks := tk }) hS rfl ?_)
    show wpAny _ A.in1 (tryCatch (pyNext (.ref I)) _ >>= _) _ _ { s0 with heap := h, toks := tk }
    refine wpAny_bind (wpAny_tryCatch (W.item (i + 1) { s0 with heap := h, toks := tk } _ _ (by omega) st fun v h2 tk2 pv st2 k2 => ?_))
    have hS2 := k2 T _ (fun m => TI (List.mem_singleton.mp m)) hS
    have hold2 := kept k2 hold
    show wpAny _ A.in1 (tryCatch (holding [v, v] (richCompare .Lt v u >>= _)) _ >>= _) _ _ { s0 with heap := h2, toks := tk2 }
    refine wpAny_bind (wpAny_tryCatch (wpAny_holding (wpAny_bind (hc i v u h2 tk2 _ _ (by omega) pv pu hold2 ?_))))
    refine wpAny_bind (wpAny_holding (wpAny_truthy_bool (wpAny_bind (wpAny_letGo (wpAny_pure ?_)))))
    cases hb : bt (i + 1) (argBest bt i) with
    | true =>
      have ha : argBest bt (i + 1) = i + 1 := by simp only [argBest, hb, if_true]
      simp only [if_true]
      refine wpAny_bind (wpAny_updateSeq (s := { s0 with heap := h2, toks := tk2 }) hS2 rfl (wpAny_bind (wpAny_letGo ?_)))
      rw [nm]
      refine wpAny_pure ⟨plainId_quiet F.plain_min_loop _, ih (i + 1) _ tk2 v _ (by omega) (W.frame _ _ _ st2 fun b hb o e => ?_) (by rw [ha]; exact pv) (Heap.get?_update_self _ hS2 rfl) (put hold2)⟩
      exact (Heap.get?_update_other _ _ (fun z : T = b => hT (z ▸ hb))).trans e
    | false =>
      have ha : argBest bt (i + 1) = argBest bt i := by simp only [argBest, hb, Bool.false_eq_true, if_false]
      simp only [Bool.false_eq_true, if_false]
      refine wpAny_bind (wpAny_letGo ?_)
      rw [nm]
      exact wpAny_pure ⟨plainId_quiet F.plain_min_loop _, ih (i + 1) h2 tk2 u c (by omega) st2 (by rw [ha]; exact pu) hS2 hold2⟩
/-- min(x), x walked -/
theorem call_min_by {x : Value} {Q : Value → Shared → Prop} {s : Shared} (bt : Nat → Nat → Bool)
    (hx : wpAny (model prog w) A.in1 (pyIter x) (fun it s2 => ∃ I fp n P St, it = .ref I ∧ Walks prog w A.in1 I fp [I] n P St ∧ St 0 s2.heap ∧ (∀ b ∈ fp, b < s2.heap.objs.size) ∧ 0 < n ∧ (∃ h2 tk2, s2 = { s with heap := h2, toks := tk2 } ∧ (∀ b o, s.heap.get? b = some o → h2.get? b = some o) ∧ s.heap.objs.size ≤ I) ∧
      (∀ i u v h' tk (E : Value → Shared → Prop) (Q : Value → Shared → Prop), i + 1 < n → P (i + 1) u → P (argBest bt i) v → (∀ b o, s.heap.get? b = some o → h'.get? b = some o) → Q (.bool (bt (i + 1) (argBest bt i))) { s with heap := h', toks := tk } → wpAny (model prog w) A.in1 (richCompare .Lt u v) Q E { s with heap := h', toks := tk }) ∧
      ∀ v h' tk, P (argBest bt (n - 1)) v → (∀ b o, s.heap.get? b = some o → h'.get? b = some o) → Q v { s with heap := h', toks := tk }) E s) :
    wpAny (model prog w) A (call (.builtin "min") [x]) Q E s := by
  have nm : (toString "min" ++ toString ".loop" : String) = "min.loop" := by decide
  refine call_function_tree F.kind_min F.plain_min F.entry_min (F.args_min1 _) ?_
  show wpAny _ A.in1 (Builtin.Builtins.bindParams "min" ["key", "default"] 0 ⟨[], []⟩ >>= _) _ _ s
  refine wpAny_bind (wpAny_of_eq (show Builtin.Builtins.bindParams "min" ["key", "default"] 0 ⟨[], []⟩ = pure [none, none] from rfl) (wpAny_bind (wpAny_pure (wpAny_bind (wpAny_mono hx (fun it s2 h2 => ?_) fun _ _ e => e)))))
  obtain ⟨I, fp, n, P, St, rfl, W, st, hfp, hn, ⟨g2, t2, rfl, k2, hI⟩, hc, hq⟩ := h2
  have hT : g2.objs.size ∉ fp := fun m => Nat.lt_irrefl _ (hfp _ m)
  have hIfp : I ∈ fp := W.sub I List.mem_cons_self
  have sz : s.heap.objs.size ≤ g2.objs.size := Nat.le_trans hI (Nat.le_of_lt (hfp I hIfp))
  have hI0 : s.heap.get? I = none := Heap.get?_none_of_le hI
  have hT0 : s.heap.get? g2.objs.size = none := Heap.get?_none_of_le sz
  have TI : g2.objs.size ≠ I := fun e => hT (e ▸ hIfp)
  refine wpAny_bind (wpAny_newObj_type ?_)
  rw [nm]
  have k3 : ∀ b o, s.heap.get? b = some o → (g2.push { cls := .type "list", data := .seq ([] : List Value).toArray }).get? b = some o := fun b o e => Heap.get?_push_of_some _ (k2 b o e)
  refine wpAny_pure ⟨plainId_quiet F.plain_min_loop _, codeAny_builtin F.entry_min_loop ?_⟩
  rw [Around.under_plainId F.plain_min_loop _]
  have hS : (g2.push { cls := .type "list", data := .seq ([] : List Value).toArray }).get? g2.objs.size = some { cls := .type "list", data := .seq ([] : List Value).toArray } := Heap.get?_push_size _ rfl
  show wpAny _ A.in1 (seqItems? (.ref g2.objs.size) >>= _) _ _ { s with heap := g2.push { cls := .type "list", data := .seq ([] : List Value).toArray }, toks := t2 }
  refine wpAny_bind (wpAny_seqItems (s := { s with heap := g2.push { cls := .type "list", data := .seq ([] : List Value).toArray }, toks := t2 }) hS rfl ?_)
  show wpAny _ A.in1 (tryCatch (pyNext (.ref I)) _ >>= _) _ _ { s with heap := g2.push { cls := .type "list", data := .seq ([] : List Value).toArray }, toks := t2 }
  refine wpAny_bind (wpAny_tryCatch (W.item 0 { s with heap := g2.push { cls := .type "list", data := .seq ([] : List Value).toArray }, toks := t2 } _ _ hn (W.frame _ _ _ st fun b _ o e => Heap.get?_push_of_some _ e) fun v h4 t4 pv st4 k4 => ?_))
  have hS4 := k4 _ _ (fun m => TI (List.mem_singleton.mp m)) hS
  show wpAny _ A.in1 (updateSeq g2.objs.size (fun _ => #[v, v]) >>= _) _ _ { s with heap := h4, toks := t4 }
  refine wpAny_bind (wpAny_updateSeq (s := { s with heap := h4, toks := t4 }) hS4 rfl ?_)
  rw [nm]
  refine wpAny_pure ⟨plainId_quiet F.plain_min_loop _, loop_min (s0 := s) W bt hI0 hT hT0 _ hc (fun v h' tk p k => hq v h' tk p k) (n - 1) 0 _ t4 v _ (by omega) (W.frame _ _ _ st4 fun b hb o e => ?_) pv (Heap.get?_update_self _ hS4 rfl) fun b o e => ?_⟩
  · exact (Heap.get?_update_other _ _ (fun z : g2.objs.size = b => hT (z ▸ hb))).trans e
  · have nI : b ≠ I := fun z => by rw [z, hI0] at e; cases e
    have nT : g2.objs.size ≠ b := fun z => by rw [← z, hT0] at e; cases e
    exact (Heap.get?_update_other _ _ nT).trans (k4 b o (fun m => nI (List.mem_singleton.mp m)) (k3 b o e))

/-- what max's loop wants of the comparisons -/
theorem loop_max {fp : List Addr} (W : Walks prog w A.in1 I fp [I] n P St) (bt : Nat → Nat → Bool) (hI : s0.heap.get? I = none) (hT : T ∉ fp) (hT0 : s0.heap.get? T = none) (R : Result → Shared → Prop)
    (hc : ∀ i u v h' tk (E : Value → Shared → Prop) (Q : Value → Shared → Prop), i + 1 < n → P (i + 1) u → P (argBest bt i) v → (∀ b o, s0.heap.get? b = some o → h'.get? b = some o) → Q (.bool (bt (i + 1) (argBest bt i))) { s0 with heap := h', toks := tk } → wpAny (model prog w) A.in1 (richCompare .Gt u v) Q E { s0 with heap := h', toks := tk })
    (hR : ∀ v h' tk, P (argBest bt (n - 1)) v → (∀ b o, s0.heap.get? b = some o → h'.get? b = some o) → R (.ok (.ret v)) { s0 with heap := h', toks := tk }) :
    ∀ (k i : Nat) (h : Heap) (tk : Nat) (u : Value) (c : Nat), k + (i + 1) = n → St (i + 1) h → P (argBest bt i) u → h.get? T = some { cls := .type "list", dict := none, data := .seq #[u, u] c, slots := #[] } → (∀ b o, s0.heap.get? b = some o → h.get? b = some o) →
      codeAny (model prog w) A (.builtin "max.loop" ⟨[.ref I, .none, .ref T], []⟩) R { s0 with heap := h, toks := tk } := by
  have TI : T ≠ I := fun e => hT (W.sub T (by rw [e]; exact List.mem_cons_self))
  have old : ∀ {b : Addr} {o : Obj}, s0.heap.get? b = some o → b ≠ I ∧ b ≠ T := fun {b o} e => ⟨fun z => (by rw [z, hI] at e; cases e), fun z => (by rw [z, hT0] at e; cases e)⟩
  have kept : ∀ {h h' : Heap}, (∀ b o, b ∉ [I] → h.get? b = some o → h'.get? b = some o) → (∀ b o, s0.heap.get? b = some o → h.get? b = some o) → ∀ b o, s0.heap.get? b = some o → h'.get? b = some o :=
    fun k2 k1 b o e => k2 b o (fun m => (old e).1 (List.mem_singleton.mp m)) (k1 b o e)
  have put : ∀ {h : Heap} {f : Obj → Obj}, (∀ b o, s0.heap.get? b = some o → h.get? b = some o) → ∀ b o, s0.heap.get? b = some o → (h.update T f).get? b = some o :=
    fun {h f} k1 b o e => (Heap.get?_update_other _ _ (Ne.symm (old e).2)).trans (k1 b o e)
  have nm : (toString "max" ++ toString ".loop" : String) = "max.loop" := by decide
  intro k
  induction k with
  | zero =>
    intro i h tk u c hk st pu hS hold
    refine codeAny_builtin F.entry_max_loop ?_
    rw [Around.under_plainId F.plain_max_loop _]
    show wpAny _ A.in1 (seqItems? (.ref T) >>= _) _ _ { s0 with heap := h, toks := tk }
    refine wpAny_bind (wpAny_seqItems (s := { s0 with heap := h, toks := tk }) hS rfl ?_)
    show wpAny _ A.in1 (tryCatch (pyNext (.ref I)) _ >>= _) _ _ { s0 with heap := h, toks := tk }
    refine wpAny_bind (wpAny_tryCatch (W.done { s0 with heap := h, toks := tk } _ _ (by rw [show n = i + 1 by omega]; exact st) fun h2 tk2 k2 => ?_))
    have hS2 := k2 T _ (fun m => TI (List.mem_singleton.mp m)) hS
    show wpAny _ A.in1 (updateSeq T (fun _ => #[]) >>= _) _ _ { s0 with heap := h2, toks := tk2 }
    refine wpAny_bind (wpAny_updateSeq (s := { s0 with heap := h2, toks := tk2 }) hS2 rfl (wpAny_bind (wpAny_letGo (wpAny_pure ?_))))
    exact hR u _ tk2 (by rw [show n - 1 = i by omega]; exact pu) (put (kept k2 hold))
  | succ k ih =>
    intro i h tk u c hk st pu hS hold
    refine codeAny_builtin F.entry_max_loop ?_
    rw [Around.under_plainId F.plain_max_loop _]
    show wpAny _ A.in1 (seqItems? (.ref T) >>= _) _ _ { s0 with heap := h, toks := tk }
    refine wpAny_bind (wpAny_seqItems (s := { s0 with heap := h, toks := tk }) hS rfl ?_)
    show wpAny _ A.in1 (tryCatch (pyNext (.ref I)) _ >>= _) _ _ { s0 with heap := h, toks := tk }
    refine wpAny_bind (wpAny_tryCatch (W.item (i + 1) { s0 with heap := h, toks := tk } _ _ (by omega) st fun v h2 tk2 pv st2 k2 => ?_))
    have hS2 := k2 T _ (fun m => TI (List.mem_singleton.mp m)) hS
    have hold2 := kept k2 hold
    show wpAny _ A.in1 (tryCatch (holding [v, v] (richCompare .Gt v u >>= _)) _ >>= _) _ _ { s0 with heap := h2, toks := tk2 }
    refine wpAny_bind (wpAny_tryCatch (wpAny_holding (wpAny_bind (hc i v u h2 tk2 _ _ (by omega) pv pu hold2 ?_))))
    refine wpAny_bind (wpAny_holding (wpAny_truthy_bool (wpAny_bind (wpAny_letGo (wpAny_pure ?_)))))
    cases hb : bt (i + 1) (argBest bt i) with
    | true =>
      have ha : argBest bt (i + 1) = i + 1 := by simp only [argBest, hb, if_true]
      simp only [if_true]
      refine wpAny_bind (wpAny_updateSeq (s := { s0 with heap := h2, toks := tk2 }) hS2 rfl (wpAny_bind (wpAny_letGo ?_)))
      rw [nm]
      refine wpAny_pure ⟨plainId_quiet F.plain_max_loop _, ih (i + 1) _ tk2 v _ (by omega) (W.frame _ _ _ st2 fun b hb o e => ?_) (by rw [ha]; exact pv) (Heap.get?_update_self _ hS2 rfl) (put hold2)⟩
      exact (Heap.get?_update_other _ _ (fun z : T = b => hT (z ▸ hb))).trans e
    | false =>
      have ha : argBest bt (i + 1) = argBest bt i := by simp only [argBest, hb, Bool.false_eq_true, if_false]
      simp only [Bool.false_eq_true, if_false]
      refine wpAny_bind (wpAny_letGo ?_)
      rw [nm]
      exact wpAny_pure ⟨plainId_quiet F.plain_max_loop _, ih (i + 1) h2 tk2 u c (by omega) st2 (by rw [ha]; exact pu) hS2 hold2⟩
/-- max(x), x walked -/
theorem call_max_by {x : Value} {Q : Value → Shared → Prop} {s : Shared} (bt : Nat → Nat → Bool)
    (hx : wpAny (model prog w) A.in1 (pyIter x) (fun it s2 => ∃ I fp n P St, it = .ref I ∧ Walks prog w A.in1 I fp [I] n P St ∧ St 0 s2.heap ∧ (∀ b ∈ fp, b < s2.heap.objs.size) ∧ 0 < n ∧ (∃ h2 tk2, s2 = { s with heap := h2, toks := tk2 } ∧ (∀ b o, s.heap.get? b = some o → h2.get? b = some o) ∧ s.heap.objs.size ≤ I) ∧
      (∀ i u v h' tk (E : Value → Shared → Prop) (Q : Value → Shared → Prop), i + 1 < n → P (i + 1) u → P (argBest bt i) v → (∀ b o, s.heap.get? b = some o → h'.get? b = some o) → Q (.bool (bt (i + 1) (argBest bt i))) { s with heap := h', toks := tk } → wpAny (model prog w) A.in1 (richCompare .Gt u v) Q E { s with heap := h', toks := tk }) ∧
      ∀ v h' tk, P (argBest bt (n - 1)) v → (∀ b o, s.heap.get? b = some o → h'.get? b = some o) → Q v { s with heap := h', toks := tk }) E s) :
    wpAny (model prog w) A (call (.builtin "max") [x]) Q E s := by
  have nm : (toString "max" ++ toString ".loop" : String) = "max.loop" := by decide
  refine call_function_tree F.kind_max F.plain_max F.entry_max (F.args_max1 _) ?_
  show wpAny _ A.in1 (Builtin.Builtins.bindParams "max" ["key", "default"] 0 ⟨[], []⟩ >>= _) _ _ s
  refine wpAny_bind (wpAny_of_eq (show Builtin.Builtins.bindParams "max" ["key", "default"] 0 ⟨[], []⟩ = pure [none, none] from rfl) (wpAny_bind (wpAny_pure (wpAny_bind (wpAny_mono hx (fun it s2 h2 => ?_) fun _ _ e => e)))))
  obtain ⟨I, fp, n, P, St, rfl, W, st, hfp, hn, ⟨g2, t2, rfl, k2, hI⟩, hc, hq⟩ := h2
  have hT : g2.objs.size ∉ fp := fun m => Nat.lt_irrefl _ (hfp _ m)
  have hIfp : I ∈ fp := W.sub I List.mem_cons_self
  have sz : s.heap.objs.size ≤ g2.objs.size := Nat.le_trans hI (Nat.le_of_lt (hfp I hIfp))
  have hI0 : s.heap.get? I = none := Heap.get?_none_of_le hI
  have hT0 : s.heap.get? g2.objs.size = none := Heap.get?_none_of_le sz
  have TI : g2.objs.size ≠ I := fun e => hT (e ▸ hIfp)
  refine wpAny_bind (wpAny_newObj_type ?_)
  rw [nm]
  have k3 : ∀ b o, s.heap.get? b = some o → (g2.push { cls := .type "list", data := .seq ([] : List Value).toArray }).get? b = some o := fun b o e => Heap.get?_push_of_some _ (k2 b o e)
  refine wpAny_pure ⟨plainId_quiet F.plain_max_loop _, codeAny_builtin F.entry_max_loop ?_⟩
  rw [Around.under_plainId F.plain_max_loop _]
  have hS : (g2.push { cls := .type "list", data := .seq ([] : List Value).toArray }).get? g2.objs.size = some { cls := .type "list", data := .seq ([] : List Value).toArray } := Heap.get?_push_size _ rfl
  show wpAny _ A.in1 (seqItems? (.ref g2.objs.size) >>= _) _ _ { s with heap := g2.push { cls := .type "list", data := .seq ([] : List Value).toArray }, toks := t2 }
  refine wpAny_bind (wpAny_seqItems (s := { s with heap := g2.push { cls := .type "list", data := .seq ([] : List Value).toArray }, toks := t2 }) hS rfl ?_)
  show wpAny _ A.in1 (tryCatch (pyNext (.ref I)) _ >>= _) _ _ { s with heap := g2.push { cls := .type "list", data := .seq ([] : List Value).toArray }, toks := t2 }
  refine wpAny_bind (wpAny_tryCatch (W.item 0 { s with heap := g2.push { cls := .type "list", data := .seq ([] : List Value).toArray }, toks := t2 } _ _ hn (W.frame _ _ _ st fun b _ o e => Heap.get?_push_of_some _ e) fun v h4 t4 pv st4 k4 => ?_))
  have hS4 := k4 _ _ (fun m => TI (List.mem_singleton.mp m)) hS
  show wpAny _ A.in1 (updateSeq g2.objs.size (fun _ => #[v, v]) >>= _) _ _ { s with heap := h4, toks := t4 }
  refine wpAny_bind (wpAny_updateSeq (s := { s with heap := h4, toks := t4 }) hS4 rfl ?_)
  rw [nm]
  refine wpAny_pure ⟨plainId_quiet F.plain_max_loop _, loop_max (s0 := s) W bt hI0 hT hT0 _ hc (fun v h' tk p k => hq v h' tk p k) (n - 1) 0 _ t4 v _ (by omega) (W.frame _ _ _ st4 fun b hb o e => ?_) pv (Heap.get?_update_self _ hS4 rfl) fun b o e => ?_⟩
  · exact (Heap.get?_update_other _ _ (fun z : g2.objs.size = b => hT (z ▸ hb))).trans e
  · have nI : b ≠ I := fun z => by rw [z, hI0] at e; cases e
    have nT : g2.objs.size ≠ b := fun z => by rw [← z, hT0] at e; cases e
    exact (Heap.get?_update_other _ _ nT).trans (k4 b o (fun m => nI (List.mem_singleton.mp m)) (k3 b o e))
end
/-! .. of a list, a tuple -/
def rBest (S : Kit) (c : Ord3) : List V → Hp → VK → Prop := fun vs H Q => ∃ ρ h a ys m r e, Rep S ρ h H ∧ vs = [.ref a] ∧ (SqL S.K H a ys ∨ SqT S.K H a ys) ∧ VRs S ρ H (m :: r) ys ∧ best c r m = some e ∧ ∀ v, VR S ρ H e v → Q v H
section
variable {X : Cx} {S : Kit} {j : Nat}
theorem call_minO (hK : S.K = X.K) (hr : Room j X.A) : CallR X (.builtin "min") (rBest S .lt) := by
  intro pins s σ H vs us Q I r h
  obtain ⟨ρ, eh, a, ys, m, rr, e, R, rfl, hs, hv, hb, hq⟩ := h
  obtain ⟨b1, b2⟩ := best_is (c := .lt) (.inl rfl) rr [m] m e (by simp) hb (by rfl)
  have el : ([m] ++ rr) = m :: rr := rfl
  rw [el] at b1 b2
  rw [Vals.ref1 r]
  have hA : X.A.in1.handled = none := hr.hd
  have common : ∀ (its : List Value) (I' : Addr) (fp : List Addr) (St : Nat → Heap → Prop) (h2 : Heap) (tk2 : Nat), Vals ys its → (∀ b o, s.heap.get? b = some o → h2.get? b = some o) → s.heap.objs.size ≤ I' → Walks X.prog X.w X.A.in1 I' fp [I'] its.toArray.size (fun i v => its.toArray[i]? = some v) St → St 0 h2 → (∀ b ∈ fp, b < h2.objs.size) →
      ∃ I fp n P St, Value.ref I' = .ref I ∧ Walks X.prog X.w X.A.in1 I fp [I] n P St ∧ St 0 h2 ∧ (∀ b ∈ fp, b < h2.objs.size) ∧ 0 < n ∧ (∃ g2 t2, ({ s with heap := h2, toks := tk2 } : Shared) = { s with heap := g2, toks := t2 } ∧ (∀ b o, s.heap.get? b = some o → g2.get? b = some o) ∧ s.heap.objs.size ≤ I) ∧
        (∀ i u v h' tk (E : Value → Shared → Prop) (Q : Value → Shared → Prop), i + 1 < n → P (i + 1) u → P (argBest (btE (gOf .lt) (m :: rr)) i) v → (∀ b o, s.heap.get? b = some o → h'.get? b = some o) → Q (.bool (btE (gOf .lt) (m :: rr) (i + 1) (argBest (btE (gOf .lt) (m :: rr)) i))) { s with heap := h', toks := tk } → wpAny (model X.prog X.w) X.A.in1 (richCompare .Lt u v) Q E { s with heap := h', toks := tk }) ∧
        ∀ v h' tk, P (argBest (btE (gOf .lt) (m :: rr)) (n - 1)) v → (∀ b o, s.heap.get? b = some o → h'.get? b = some o) → EP X pins σ Q v { s with heap := h', toks := tk } := by
    intro its I' fp St h2 tk2 rv k2 hI W st hfp
    have ln : its.toArray.size = rr.length + 1 := by
      rw [List.size_toArray, ← rv.length, ← hv.length, List.length_cons]
    refine ⟨I', fp, _, _, St, rfl, W, st, hfp, by omega, ⟨h2, tk2, rfl, k2, hI⟩, fun i u v h' tk E Q2 hi pu pv kk hQ => ?_, fun v h' tk pv kk => ?_⟩
    · have It : Inv X pins σ H { s with heap := h', toks := tk } := I.kept kk
      have pu' : its[i + 1]? = some u := by simpa using pu
      have pv' : its[argBest (btE (gOf .lt) (m :: rr)) i]? = some v := by simpa using pv
      obtain ⟨h1, e1⟩ := List.getElem?_eq_some_iff.mp pu'
      obtain ⟨h3, e3⟩ := List.getElem?_eq_some_iff.mp pv'
      obtain ⟨ea, va, q1, _, q3, q4⟩ := relsAt hv rv (i + 1) h1
      obtain ⟨eb, vb, w1, _, w3, w4⟩ := relsAt hv rv _ h3
      rw [e1] at q4
      rw [e3] at w4
      have nn := b2 (i + 1) (by simp) (by rw [List.length_singleton]; omega)
      rw [show i + 1 - 1 = i by omega] at nn
      have d1 : (m :: rr).getD (i + 1) .non = ea := by rw [List.getD_eq_getElem?_getD, q1]; rfl
      have d2 : (m :: rr).getD (argBest (btE (gOf .lt) (m :: rr)) i) .non = eb := by rw [List.getD_eq_getElem?_getD, w1]; rfl
      rw [d1, d2] at nn
      have C := cmp_ok hK It 40 X.A.in1 ea eb va vb u v (by have := hr.un; show X.A.units + 1 + 40 < _; omega) q3 w3 q4 w4 nn
      have eb' : btE (gOf .lt) (m :: rr) (i + 1) (argBest (btE (gOf .lt) (m :: rr)) i) = gLt (cmpN 40 ea eb) := by
        rw [btE_is, d1, d2]; rfl
      rw [eb'] at hQ
      exact C.lt X.prog X.w E Q2 hQ
    · have It : Inv X pins σ H { s with heap := h', toks := tk } := I.kept kk
      have pv' : its[argBest (btE (gOf .lt) (m :: rr)) (its.toArray.size - 1)]? = some v := by simpa using pv
      obtain ⟨h3, e3⟩ := List.getElem?_eq_some_iff.mp pv'
      obtain ⟨eb, vb, w1, _, w3, w4⟩ := relsAt hv rv _ h3
      rw [e3] at w4
      rw [show its.toArray.size - 1 = [m].length - 1 + rr.length by rw [ln]; simp, b1] at w1
      cases w1
      exact ⟨vb, H, It, w4, hq vb w3⟩
  refine call_min_by (btE (gOf .lt) (m :: rr)) ?_
  rcases hs with hs | hs
  · obtain ⟨its, rv, pl, _⟩ := I.list (hK ▸ hs)
    refine wpAny_pyIter_list pl.isList ?_
    have ne : a ≠ s.heap.objs.size := Nat.ne_of_lt (isl_lt pl.isList)
    exact common its s.heap.objs.size _ _ _ s.toks rv (fun b o e => Heap.get?_push_of_some _ e) (Nat.le_refl _) (Walks.list hA _ a ne its.toArray) ⟨⟨_, Heap.get?_push_size _ rfl, rfl, rfl⟩, pl.isList.push _⟩ (fun b hb => by
      rw [Heap.size_push]
      rcases List.mem_cons.mp hb with z | hb
      · rw [z]; exact Nat.lt_succ_self _
      · rw [List.mem_singleton.mp hb]; exact Nat.lt_succ_of_lt (isl_lt pl.isList))
  · obtain ⟨its, rv, pl, _⟩ := I.tuple (hK ▸ hs)
    refine wpAny_pyIter_tuple pl ?_
    have ne : a ≠ s.heap.objs.size := Nat.ne_of_lt pl.lt
    exact common its s.heap.objs.size _ _ _ s.toks rv (fun b o e => Heap.get?_push_of_some _ e) (Nat.le_refl _) (Walks.tuple hA _ a ne its.toArray) ⟨⟨_, Heap.get?_push_size _ rfl, rfl, rfl⟩, pl.push _⟩ (fun b hb => by
      rw [Heap.size_push]
      rcases List.mem_cons.mp hb with z | hb
      · rw [z]; exact Nat.lt_succ_self _
      · rw [List.mem_singleton.mp hb]; exact Nat.lt_succ_of_lt pl.lt)
theorem call_maxO (hK : S.K = X.K) (hr : Room j X.A) : CallR X (.builtin "max") (rBest S .gt) := by
  intro pins s σ H vs us Q I r h
  obtain ⟨ρ, eh, a, ys, m, rr, e, R, rfl, hs, hv, hb, hq⟩ := h
  obtain ⟨b1, b2⟩ := best_is (c := .gt) (.inr rfl) rr [m] m e (by simp) hb (by rfl)
  have el : ([m] ++ rr) = m :: rr := rfl
  rw [el] at b1 b2
  rw [Vals.ref1 r]
  have hA : X.A.in1.handled = none := hr.hd
  have common : ∀ (its : List Value) (I' : Addr) (fp : List Addr) (St : Nat → Heap → Prop) (h2 : Heap) (tk2 : Nat), Vals ys its → (∀ b o, s.heap.get? b = some o → h2.get? b = some o) → s.heap.objs.size ≤ I' → Walks X.prog X.w X.A.in1 I' fp [I'] its.toArray.size (fun i v => its.toArray[i]? = some v) St → St 0 h2 → (∀ b ∈ fp, b < h2.objs.size) →
      ∃ I fp n P St, Value.ref I' = .ref I ∧ Walks X.prog X.w X.A.in1 I fp [I] n P St ∧ St 0 h2 ∧ (∀ b ∈ fp, b < h2.objs.size) ∧ 0 < n ∧ (∃ g2 t2, ({ s with heap := h2, toks := tk2 } : Shared) = { s with heap := g2, toks := t2 } ∧ (∀ b o, s.heap.get? b = some o → g2.get? b = some o) ∧ s.heap.objs.size ≤ I) ∧
        (∀ i u v h' tk (E : Value → Shared → Prop) (Q : Value → Shared → Prop), i + 1 < n → P (i + 1) u → P (argBest (btE (gOf .gt) (m :: rr)) i) v → (∀ b o, s.heap.get? b = some o → h'.get? b = some o) → Q (.bool (btE (gOf .gt) (m :: rr) (i + 1) (argBest (btE (gOf .gt) (m :: rr)) i))) { s with heap := h', toks := tk } → wpAny (model X.prog X.w) X.A.in1 (richCompare .Gt u v) Q E { s with heap := h', toks := tk }) ∧
        ∀ v h' tk, P (argBest (btE (gOf .gt) (m :: rr)) (n - 1)) v → (∀ b o, s.heap.get? b = some o → h'.get? b = some o) → EP X pins σ Q v { s with heap := h', toks := tk } := by
    intro its I' fp St h2 tk2 rv k2 hI W st hfp
    have ln : its.toArray.size = rr.length + 1 := by
      rw [List.size_toArray, ← rv.length, ← hv.length, List.length_cons]
    refine ⟨I', fp, _, _, St, rfl, W, st, hfp, by omega, ⟨h2, tk2, rfl, k2, hI⟩, fun i u v h' tk E Q2 hi pu pv kk hQ => ?_, fun v h' tk pv kk => ?_⟩
    · have It : Inv X pins σ H { s with heap := h', toks := tk } := I.kept kk
      have pu' : its[i + 1]? = some u := by simpa using pu
      have pv' : its[argBest (btE (gOf .gt) (m :: rr)) i]? = some v := by simpa using pv
      obtain ⟨h1, e1⟩ := List.getElem?_eq_some_iff.mp pu'
      obtain ⟨h3, e3⟩ := List.getElem?_eq_some_iff.mp pv'
      obtain ⟨ea, va, q1, _, q3, q4⟩ := relsAt hv rv (i + 1) h1
      obtain ⟨eb, vb, w1, _, w3, w4⟩ := relsAt hv rv _ h3
      rw [e1] at q4
      rw [e3] at w4
      have nn := b2 (i + 1) (by simp) (by rw [List.length_singleton]; omega)
      rw [show i + 1 - 1 = i by omega] at nn
      have d1 : (m :: rr).getD (i + 1) .non = ea := by rw [List.getD_eq_getElem?_getD, q1]; rfl
      have d2 : (m :: rr).getD (argBest (btE (gOf .gt) (m :: rr)) i) .non = eb := by rw [List.getD_eq_getElem?_getD, w1]; rfl
      rw [d1, d2] at nn
      have C := cmp_ok hK It 40 X.A.in1 ea eb va vb u v (by have := hr.un; show X.A.units + 1 + 40 < _; omega) q3 w3 q4 w4 nn
      have eb' : btE (gOf .gt) (m :: rr) (i + 1) (argBest (btE (gOf .gt) (m :: rr)) i) = gGt (cmpN 40 ea eb) := by
        rw [btE_is, d1, d2]; rfl
      rw [eb'] at hQ
      exact C.gt X.prog X.w E Q2 hQ
    · have It : Inv X pins σ H { s with heap := h', toks := tk } := I.kept kk
      have pv' : its[argBest (btE (gOf .gt) (m :: rr)) (its.toArray.size - 1)]? = some v := by simpa using pv
      obtain ⟨h3, e3⟩ := List.getElem?_eq_some_iff.mp pv'
      obtain ⟨eb, vb, w1, _, w3, w4⟩ := relsAt hv rv _ h3
      rw [e3] at w4
      rw [show its.toArray.size - 1 = [m].length - 1 + rr.length by rw [ln]; simp, b1] at w1
      cases w1
      exact ⟨vb, H, It, w4, hq vb w3⟩
  refine call_max_by (btE (gOf .gt) (m :: rr)) ?_
  rcases hs with hs | hs
  · obtain ⟨its, rv, pl, _⟩ := I.list (hK ▸ hs)
    refine wpAny_pyIter_list pl.isList ?_
    have ne : a ≠ s.heap.objs.size := Nat.ne_of_lt (isl_lt pl.isList)
    exact common its s.heap.objs.size _ _ _ s.toks rv (fun b o e => Heap.get?_push_of_some _ e) (Nat.le_refl _) (Walks.list hA _ a ne its.toArray) ⟨⟨_, Heap.get?_push_size _ rfl, rfl, rfl⟩, pl.isList.push _⟩ (fun b hb => by
      rw [Heap.size_push]
      rcases List.mem_cons.mp hb with z | hb
      · rw [z]; exact Nat.lt_succ_self _
      · rw [List.mem_singleton.mp hb]; exact Nat.lt_succ_of_lt (isl_lt pl.isList))
  · obtain ⟨its, rv, pl, _⟩ := I.tuple (hK ▸ hs)
    refine wpAny_pyIter_tuple pl ?_
    have ne : a ≠ s.heap.objs.size := Nat.ne_of_lt pl.lt
    exact common its s.heap.objs.size _ _ _ s.toks rv (fun b o e => Heap.get?_push_of_some _ e) (Nat.le_refl _) (Walks.tuple hA _ a ne its.toArray) ⟨⟨_, Heap.get?_push_size _ rfl, rfl, rfl⟩, pl.push _⟩ (fun b hb => by
      rw [Heap.size_push]
      rcases List.mem_cons.mp hb with z | hb
      · rw [z]; exact Nat.lt_succ_self _
      · rw [List.mem_singleton.mp hb]; exact Nat.lt_succ_of_lt pl.lt)
end
end RT
end
end
section
set_option Elab.async false
set_option linter.all false
set_option maxRecDepth 100000
set_option maxHeartbeats 1000000
namespace RT
open PySem PySem.Spec PyProof.Rows L2
/-! ranges, pairs, counted things -/
theorem intO_eq (i : Int) : intO i = some (some (.int i)) := by
  cases i with
  | ofNat n => cases n <;> rfl
  | negSucc n => cases n <;> rfl
theorem srcS_lst {h : EH} {r i : Nat} {o : Option EV} (q : srcS h (.ref r) i = some o) : ∃ es, h.get r = some (.lst es) ∧ o = es[i]? := by
  have q0 : (match h.get r with | some (.lst es) => some (nth es i) | _ => none) = some o := q
  split at q0
  · rename_i es e
    cases q0
    exact ⟨es, e, nth_eq es i⟩
  · cases q0
theorem srcS_tup {h : EH} {es : List EV} {i : Nat} {o : Option EV} (q : srcS h (.tup es) i = some o) : o = es[i]? := by
  have q0 : some (nth es i) = some o := q
  cases q0
  exact nth_eq es i
theorem pairO_go {a b : Option (Option EV)} {e : EV} (q : pairO a b = some (some e)) : ∃ u v, a = some (some u) ∧ b = some (some v) ∧ e = .tup [u, v] := by
  cases a with
  | none => cases q
  | some x =>
    cases b with
    | none => cases q
    | some y =>
      cases x with
      | none => cases q
      | some u =>
        cases y with
        | none => cases q
        | some v => cases q; exact ⟨u, v, rfl, rfl, rfl⟩
theorem pairO_stop {a b : Option (Option EV)} (q : pairO a b = some none) : ∃ x y, a = some x ∧ b = some y ∧ (x = none ∨ y = none) := by
  cases a with
  | none => cases q
  | some x =>
    cases b with
    | none => cases q
    | some y =>
      cases x with
      | none => exact ⟨none, y, rfl, rfl, .inl rfl⟩
      | some u =>
        cases y with
        | none => exact ⟨some u, none, rfl, rfl, .inr rfl⟩
        | some v => cases q
theorem enO_go {i : Nat} {a : Option (Option EV)} {e : EV} (q : enO i a = some (some e)) : ∃ u, a = some (some u) ∧ e = .tup [.int (i : Nat), u] := by
  cases a with
  | none => cases q
  | some x =>
    cases x with
    | none => cases q
    | some u =>
      cases i <;> (cases q; exact ⟨u, rfl, rfl⟩)
theorem enO_stop {i : Nat} {a : Option (Option EV)} (q : enO i a = some none) : a = some none := by
  cases a with
  | none => cases q
  | some x =>
    cases x with
    | none => rfl
    | some u => cases i <;> cases q
theorem wk_rg {S : Kit} {lo : Int} {n : Nat} : Wk S (Itr lo n) (.rg lo n) (fun _ _ => True) where
  mono := fun _ _ _ _ _ _ => trivial
  go := fun ρ H h i e _ R q => by
    obtain ⟨c, q'⟩ : Nat.blt i n = true ∧ intO (lo + i) = some (some e) := by
      have q0 : (Bool.rec (motive := fun _ => Option (Option EV)) (some none) (intO (lo + i)) (Nat.blt i n)) = some (some e) := q
      cases z : Nat.blt i n with
      | false => rw [z] at q0; cases q0
      | true => rw [z] at q0; exact ⟨rfl, q0⟩
    rw [intO_eq] at q'
    cases q'
    refine ⟨Nat.le_of_ble_eq_true c, fun x H' ⟨e1, e2⟩ => ?_⟩
    subst e1; subst e2
    exact ⟨.refl, R, .int _⟩
  stop := fun ρ H h i _ R q => by
    have q0 : (Bool.rec (motive := fun _ => Option (Option EV)) (some none) (intO (lo + i)) (Nat.blt i n)) = some none := q
    cases z : Nat.blt i n with
    | false =>
      show n ≤ i
      rw [blt_dec] at z
      have := of_decide_eq_false z
      omega
    | true =>
      rw [z] at q0
      have q1 : intO (lo + i) = some none := q0
      rw [intO_eq] at q1; cases q1
theorem wk_zpL {S : Kit} {r q : Nat} {a b : Addr} : Wk S (Itz S.K a b) (.zp (.ref r) (.ref q)) (fun ρ _ => ρ[r]? = some a ∧ ρ[q]? = some b) where
  mono := fun ρ H ρ' H' h x => ⟨x.at h.1, x.at h.2⟩
  go := fun ρ H h i e ⟨ha, hb⟩ R z => by
    obtain ⟨u, v, z1, z2, rfl⟩ := pairO_go (show pairO (srcS h (.ref r) i) (srcS h (.ref q) i) = some (some e) from z)
    obtain ⟨es, e1, f1⟩ := srcS_lst z1
    obtain ⟨fs, e2, f2⟩ := srcS_lst z2
    obtain ⟨vs, hvs, rv⟩ := R.lst ha e1
    obtain ⟨ws, hws, rw'⟩ := R.lst hb e2
    obtain ⟨x, g1, g2⟩ := rv.get f1.symm
    obtain ⟨y, k1, k2⟩ := rw'.get f2.symm
    refine ⟨⟨vs, ws, x, y, SqL.of hvs, SqL.of hws, g1, k1⟩, fun w H' ⟨T, x', y', ew, hT, eH, ex, ey⟩ => ?_⟩
    subst ew; subst eH
    have := ex vs (SqL.of hvs); rw [g1] at this; cases this
    have := ey ws (SqL.of hws); rw [k1] at this; cases this
    exact ⟨Ext.new0 hT, R.laid hT, .tup (SqT.of upd_same) (.cons (g2.mono (Ext.new0 hT)) (.cons (k2.mono (Ext.new0 hT)) .nil))⟩
  stop := fun ρ H h i ⟨ha, hb⟩ R z => by
    obtain ⟨u, v, z1, z2, z3⟩ := pairO_stop (show pairO (srcS h (.ref r) i) (srcS h (.ref q) i) = some none from z)
    obtain ⟨es, e1, f1⟩ := srcS_lst z1
    obtain ⟨fs, e2, f2⟩ := srcS_lst z2
    obtain ⟨vs, hvs, rv⟩ := R.lst ha e1
    obtain ⟨ws, hws, rw'⟩ := R.lst hb e2
    refine ⟨vs, ws, SqL.of hvs, SqL.of hws, ?_⟩
    rw [← rv.length, ← rw'.length]
    rcases z3 with z3 | z3
    · subst z3; exact .inl (List.getElem?_eq_none_iff.mp f1.symm)
    · subst z3; exact .inr (List.getElem?_eq_none_iff.mp f2.symm)
theorem wk_zpT {S : Kit} {es fs : List EV} {a b : Addr} : Wk S (RZ.ItzT S.K a b) (.zp (.tup es) (.tup fs)) (fun ρ H => ∃ vs ws, SqT S.K H a vs ∧ VRs S ρ H es vs ∧ SqT S.K H b ws ∧ VRs S ρ H fs ws) where
  mono := fun ρ H ρ' H' ⟨vs, ws, a1, a2, b1, b2⟩ x => ⟨vs, ws, x.tup _ _ a1, a2.monoL x, x.tup _ _ b1, b2.monoL x⟩
  go := fun ρ H h i e ⟨vs, ws, a1, a2, b1, b2⟩ R z => by
    obtain ⟨u, v, z1, z2, rfl⟩ := pairO_go (show pairO (srcS h (.tup es) i) (srcS h (.tup fs) i) = some (some e) from z)
    obtain ⟨x, g1, g2⟩ := a2.get (srcS_tup z1).symm
    obtain ⟨y, k1, k2⟩ := b2.get (srcS_tup z2).symm
    refine ⟨⟨vs, ws, x, y, a1, b1, g1, k1⟩, fun w H' ⟨T, x', y', ew, hT, eH, ex, ey⟩ => ?_⟩
    subst ew; subst eH
    have := ex vs a1; rw [g1] at this; cases this
    have := ey ws b1; rw [k1] at this; cases this
    exact ⟨Ext.new0 hT, R.laid hT, .tup (SqT.of upd_same) (.cons (g2.mono (Ext.new0 hT)) (.cons (k2.mono (Ext.new0 hT)) .nil))⟩
  stop := fun ρ H h i ⟨vs, ws, a1, a2, b1, b2⟩ R z => by
    obtain ⟨u, v, z1, z2, z3⟩ := pairO_stop (show pairO (srcS h (.tup es) i) (srcS h (.tup fs) i) = some none from z)
    refine ⟨vs, ws, a1, b1, ?_⟩
    rw [← a2.length, ← b2.length]
    rcases z3 with z3 | z3
    · subst z3; exact .inl (List.getElem?_eq_none_iff.mp (srcS_tup z1).symm)
    · subst z3; exact .inr (List.getElem?_eq_none_iff.mp (srcS_tup z2).symm)
theorem wk_enL {S : Kit} {r : Nat} {a : Addr} : Wk S (Ite S.K a) (.en (.ref r)) (fun ρ _ => ρ[r]? = some a) where
  mono := fun ρ H ρ' H' h x => x.at h
  go := fun ρ H h i e ha R z => by
    obtain ⟨u, z1, rfl⟩ := enO_go (show enO i (srcS h (.ref r) i) = some (some e) from z)
    obtain ⟨es, e1, f1⟩ := srcS_lst z1
    obtain ⟨vs, hvs, rv⟩ := R.lst ha e1
    obtain ⟨x, g1, g2⟩ := rv.get f1.symm
    refine ⟨⟨vs, x, SqL.of hvs, g1⟩, fun w H' ⟨T, x', ew, hT, eH, ex⟩ => ?_⟩
    subst ew; subst eH
    have := ex vs (SqL.of hvs); rw [g1] at this; cases this
    exact ⟨Ext.new0 hT, R.laid hT, .tup (SqT.of upd_same) (.cons (.int _) (.cons (g2.mono (Ext.new0 hT)) .nil))⟩
  stop := fun ρ H h i ha R z => by
    obtain ⟨es, e1, f1⟩ := srcS_lst (enO_stop (show enO i (srcS h (.ref r) i) = some none from z))
    obtain ⟨vs, hvs, rv⟩ := R.lst ha e1
    refine ⟨vs, SqL.of hvs, ?_⟩
    rw [← rv.length]
    exact List.getElem?_eq_none_iff.mp f1.symm
/-! the walked things' expressions -/
section
variable {S : Kit} {U : XW} {R : It → Hp → Prop} {ρ ρ1 : List Addr} {H H1 : Hp}
theorem PoI.from {o : Out} (x : Ext S ρ H ρ1 H1) (p : PoI S U R ρ H o) : PoI S U R ρ1 H1 o := by
  cases o with
  | val v h => exact ⟨p.1, fun a b c d e r z y => p.2 a b c d (x.trans e) r z y⟩
  | exc v h => exact fun a b c d e r q => p a b c d (x.trans e) r q
  | bad => exact p
theorem PoI.thenL {o : OutL} {k : List EV → EH → Out} (p : PoI S U R ρ H (o.then k)) :
    PoL S U (fun x' H1 => ∃ ρ1 h1 x, Ext S ρ H ρ1 H1 ∧ Rep S ρ1 h1 H1 ∧ VRs S ρ1 H1 x x' ∧ PoI S U R ρ1 H1 (k x h1)) ρ H o := by
  cases o with
  | vals v h => exact fun a b c e r q => ⟨a, h, v, e, r, q, PoI.from e p⟩
  | exc v h => exact p
  | bad => exact p
theorem ifI {b : Bool} {o : Out} (p : PoI S U R ρ H (Bool.rec (motive := fun _ => Out) .bad o b)) : b = true ∧ PoI S U R ρ H o := by
  cases b with
  | false => exact False.elim p
  | true => exact ⟨rfl, p⟩
end
theorem PI.imp {X : Cx} {a e : Expr} {t t' : TI} (p : PI X a e t) (h : ∀ σ H Q, t' σ H Q → t σ H Q) : PI X a e t' := ⟨fun pins s σ H Q I q => p.run pins s σ H Q I (h _ _ _ q)⟩
theorem in62_is {i : Int} (h : in62 i = true) : -(2 ^ 62) ≤ i ∧ i < 2 ^ 62 := by
  have c : i.natAbs + 1 ≤ 4611686018427387904 := Nat.le_of_ble_eq_true h
  constructor <;> omega
section
variable {X : Cx} {S : Kit} {W : WX} {p pos tpos : Pos} {tg e e2 : Expr} {ml : ML} {elts : List Expr} {kk : Nat}
theorem i_range1 (hg : Gl X "range") (hm : X.mg "range" = none) (ha : PA X [e] (TL S W ml)) (hs : starEach [e] X.env = [(false, eval e X.env)] := by rfl) : PI X tg (.Call (.Name "range" p) [e] [] pos) (TI' S W (xB bRange1 ml)) := by
  refine PI.imp (pi_range1 hg hm ha hs) fun σ H Q ⟨ρ, τ, h, R, s, p⟩ => ⟨ρ, τ, h, R, s, PoL.imp (PoI.thenL (o := ml τ h) p) ?_⟩
  rintro x' H1 ⟨ρ1, h1, x, e1, R1, r1, p1⟩
  cases r1 with
  | nil => exact False.elim p1
  | cons r rr =>
    cases rr with
    | nil =>
      cases r <;> try exact False.elim p1
      obtain ⟨c, p2⟩ := ifI p1
      obtain ⟨c1, c2⟩ := in62_is c
      exact ⟨_, rfl, c1, c2, p2.2 ρ1 H1 _ _ .refl R1 wk_rg trivial⟩
    | cons r2 rr =>
      cases r <;> exact False.elim p1
theorem i_range2 (hg : Gl X "range") (hm : X.mg "range" = none) (ha : PA X [e, e2] (TL S W ml)) (hs : starEach [e, e2] X.env = [(false, eval e X.env), (false, eval e2 X.env)] := by rfl) (hs2 : starEach [e2] X.env = [(false, eval e2 X.env)] := by rfl) :
    PI X tg (.Call (.Name "range" p) [e, e2] [] pos) (TI' S W (xB bRange2 ml)) := by
  refine PI.imp (pi_range2 hg hm ha hs hs2) fun σ H Q ⟨ρ, τ, h, R, s, p⟩ => ⟨ρ, τ, h, R, s, PoL.imp (PoI.thenL (o := ml τ h) p) ?_⟩
  rintro x' H1 ⟨ρ1, h1, x, e1, R1, r1, p1⟩
  cases r1 with
  | nil => exact False.elim p1
  | cons r rr =>
    cases rr with
    | nil => cases r <;> exact False.elim p1
    | cons r2 rr =>
      cases rr with
      | cons _ _ => cases r <;> first | exact False.elim p1 | (cases r2 <;> exact False.elim p1)
      | nil =>
        cases r <;> try exact False.elim p1
        cases r2 <;> try exact False.elim p1
        obtain ⟨c, p2⟩ := ifI p1
        rw [Bool.and_eq_true] at c
        obtain ⟨c1, c2⟩ := in62_is c.1
        obtain ⟨c3, c4⟩ := in62_is c.2
        exact ⟨_, _, rfl, ⟨c1, c2, c3, c4⟩, p2.2 ρ1 H1 _ _ .refl R1 wk_rg trivial⟩
theorem isTup_is {v : EV} (h : isTup v = true) : ∃ es, v = .tup es := by
  cases v <;> first | (cases h; done) | exact ⟨_, rfl⟩
theorem isLst_is {h : EH} {v : EV} (q : isLst h v = true) : ∃ i es, v = .ref i ∧ h.get i = some (.lst es) := by
  cases v <;> try (cases q; done)
  rename_i i
  have q0 : (match h.get i with | some (.lst _) => true | _ => false) = true := q
  split at q0
  · rename_i es e; exact ⟨i, es, rfl, e⟩
  · cases q0
theorem i_zip (hK : S.K = X.K) (hg : Gl X "zip") (hm : X.mg "zip" = none) (ha : PA X [e, e2] (TL S W ml)) (hs : starEach [e, e2] X.env = (false, eval e X.env) :: starEach [e2] X.env := by rfl) (hpl : (backTo pos (starEach [e2] X.env)).any (·.1) = false := by rfl) :
    PI X (.Tuple elts kk tpos) (.Call (.Name "zip" p) [e, e2] [] pos) (TI' S W (xB bZip ml)) := by
  refine PI.imp (RZ.pi_zipA hg hm ha hs hpl) fun σ H Q ⟨ρ, τ, h, R, s, p⟩ => ⟨ρ, τ, h, R, s, PoL.imp (PoI.thenL (o := ml τ h) p) ?_⟩
  rintro x' H1 ⟨ρ1, h1, x, e1, R1, r1, p1⟩
  cases r1 with
  | nil => exact False.elim p1
  | cons r rr =>
    cases rr with
    | nil => exact False.elim p1
    | cons r2 rr =>
      cases rr with
      | cons _ _ => exact False.elim p1
      | nil =>
        obtain ⟨c, p2⟩ := ifI p1
        rcases Bool.or_eq_true _ _ |>.mp c with c | c
        · rw [Bool.and_eq_true] at c
          obtain ⟨es, rfl⟩ := isTup_is c.1
          obtain ⟨fs, rfl⟩ := isTup_is c.2
          cases r with
          | tup ha hv =>
            cases r2 with
            | tup hb hw => exact ⟨_, _, _, _, rfl, .inr ⟨hK ▸ ha, hK ▸ hb, hK ▸ p2.2 ρ1 H1 _ _ .refl R1 wk_zpT ⟨_, _, ha, hv, hb, hw⟩⟩⟩
        · rw [Bool.and_eq_true] at c
          obtain ⟨i, es, rfl, g1⟩ := isLst_is c.1
          obtain ⟨j, fs, rfl, g2⟩ := isLst_is c.2
          cases r with
          | ref ha =>
            cases r2 with
            | ref hb =>
              obtain ⟨vs, hvs, _⟩ := R1.lst ha g1
              obtain ⟨ws, hws, _⟩ := R1.lst hb g2
              exact ⟨_, _, _, _, rfl, .inl ⟨SqL.of hvs, SqL.of hws, hK ▸ p2.2 ρ1 H1 _ _ .refl R1 wk_zpL ⟨ha, hb⟩⟩⟩
theorem i_enum (hK : S.K = X.K) (hg : Gl X "enumerate") (hm : X.mg "enumerate" = none) (ha : PA X [e] (TL S W ml)) (hs : starEach [e] X.env = [(false, eval e X.env)] := by rfl) :
    PI X (.Tuple elts kk tpos) (.Call (.Name "enumerate" p) [e] [] pos) (TI' S W (xB bEnum ml)) := by
  refine PI.imp (pi_enum hg hm ha hs) fun σ H Q ⟨ρ, τ, h, R, s, p⟩ => ⟨ρ, τ, h, R, s, PoL.imp (PoI.thenL (o := ml τ h) p) ?_⟩
  rintro x' H1 ⟨ρ1, h1, x, e1, R1, r1, p1⟩
  cases r1 with
  | nil => exact False.elim p1
  | cons r rr =>
    cases rr with
    | cons _ _ => exact False.elim p1
    | nil =>
      obtain ⟨c, p2⟩ := ifI p1
      obtain ⟨i, es, rfl, g1⟩ := isLst_is c
      cases r with
      | ref ha =>
        obtain ⟨vs, hvs, _⟩ := R1.lst ha g1
        exact ⟨_, _, rfl, SqL.of hvs, hK ▸ p2.2 ρ1 H1 _ _ .refl R1 wk_enL ha⟩
end
end RT
end
section
set_option Elab.async false
set_option linter.all false
set_option maxRecDepth 100000
set_option maxHeartbeats 1000000
namespace RT
open PySem PySem.Spec PyProof.Rows L2
section
variable {X : Cx} {S : Kit} {W : WX} {pos : Pos} {a b c : Expr} {ma mb mc : M} {es : List Expr} {ml : ML} {f g : EH → EV → EV → Option Bool} {r r' : R2}
/-! a op b op c -/
theorem x_chain {op op' : CmpOp} (ho : OpR X (compareOp op) r) (ho' : OpR X (compareOp op') r') (hf : VCm S f r) (hg : VCm S g r') (ha : PE X a (TM S W ma)) (hb : PE X b (TM S W mb)) (hc : PE X c (TM S W mc))
    (hm : lastMarks [op, op'] [b, c] = false := by with_unfolding_all rfl) : PE X (.Compare a [op, op'] [b, c] pos) (TM S W (xChain f g ma mb mc)) := by
  refine PE.imp (pe_chain ho ho' ha hb hc hm) fun σ H Q ⟨ρ, τ, h, R, s, p⟩ => ⟨ρ, τ, h, R, s, PoE.imp (PoE.then (o := ma τ h) p) ?_⟩
  rintro x' H1 ⟨ρ1, h1, x, e1, R1, r1, p1⟩
  refine ⟨ρ1, τ, h1, R1, s.mono e1, PoE.imp (PoE.then (o := mb τ h1) p1) ?_⟩
  rintro y' H2 ⟨ρ2, h2, y, e2, R2, r2, p2⟩
  cases q : f h2 x y with
  | none => rw [q] at p2; exact False.elim p2
  | some k =>
    rw [q] at p2
    refine hf _ _ _ _ _ _ _ _ _ R2 (r1.mono e2) r2 q ⟨k, rfl, ?_⟩
    cases k with
    | false => exact iteF (PoE.val R2 (.bl false) p2)
    | true =>
      refine iteT ⟨ρ2, τ, h2, R2, (s.mono e1).mono e2, PoE.imp (PoE.then (o := mc τ h2) p2) ?_⟩
      rintro z' H3 ⟨ρ3, h3, z, e3, R3, r3, p3⟩
      cases q3 : g h3 y z with
      | none => rw [q3] at p3; exact False.elim p3
      | some k =>
        rw [q3] at p3
        exact hg _ _ _ _ _ _ _ _ _ R3 (r2.mono e3) r3 q3 (PoE.val R3 (.bl k) p3)
theorem t_chain {op op' : CmpOp} (ho : OpR X (compareOp op) r) (ho' : OpR X (compareOp op') r') (hf : VCm S f r) (hg : VCm S g r') (ha : PE X a (TM S W ma)) (hb : PE X b (TM S W mb)) (hc : PE X c (TM S W mc))
    (hm : lastMarks [op, op'] [b, c] = false := by with_unfolding_all rfl) : PT X (.Compare a [op, op'] [b, c] pos) (TT' S W (xChain f g ma mb mc)) := by
  refine PT.imp (pt_chain ho ho' ha hb hc hm) fun σ H Q ⟨ρ, τ, h, R, s, p⟩ => ⟨ρ, τ, h, R, s, PoE.imp (PoT.then (o := ma τ h) p) ?_⟩
  rintro x' H1 ⟨ρ1, h1, x, e1, R1, r1, p1⟩
  refine ⟨ρ1, τ, h1, R1, s.mono e1, PoE.imp (PoT.then (o := mb τ h1) p1) ?_⟩
  rintro y' H2 ⟨ρ2, h2, y, e2, R2, r2, p2⟩
  cases q : f h2 x y with
  | none => rw [q] at p2; exact False.elim p2
  | some k =>
    rw [q] at p2
    refine hf _ _ _ _ _ _ _ _ _ R2 (r1.mono e2) r2 q ⟨k, rfl, ?_⟩
    cases k with
    | false =>
      obtain ⟨d, ed, p3⟩ := p2
      have ed' : some false = some d := ed
      cases ed'
      exact iteF ⟨false, rfl, p3 ρ2 H2 .refl R2⟩
    | true =>
      refine iteT ⟨ρ2, τ, h2, R2, (s.mono e1).mono e2, PoE.imp (PoT.then (o := mc τ h2) p2) ?_⟩
      rintro z' H3 ⟨ρ3, h3, z, e3, R3, r3, p3⟩
      cases q3 : g h3 y z with
      | none => rw [q3] at p3; exact False.elim p3
      | some k =>
        rw [q3] at p3
        obtain ⟨d, ed, p3⟩ := p3
        have ed' : some k = some d := ed
        cases ed'
        exact hg _ _ _ _ _ _ _ _ _ R3 (r2.mono e3) r3 q3 ⟨k, rfl, p3 ρ3 H3 .refl R3⟩
/-! slices -/
def intsE (o : Option Int) : List EV := match o with | none => [] | some i => [.int i]
def TOm (S : Kit) (W : WX) (o : Option M) : TO := fun σ H Q => ∃ ρ τ h, Rep S ρ h H ∧ SR S ρ H τ σ ∧
  (match lOpt o τ h with
    | .vals l h1 => ∃ oi, l = intsE oi ∧ ∀ ρ' H', Ext S ρ H ρ' H' → Rep S ρ' h1 H' → Q oi H'
    | .exc e h1 => ∀ ρ' H' c d, Ext S ρ H ρ' H' → Rep S ρ' h1 H' → ER S ρ' H' e c d → W c d σ H'
    | .bad => False)
theorem PO.imp {e : Option Expr} {t t' : TO} (p : PO X e t) (h : ∀ σ H Q, t' σ H Q → t σ H Q) : PO X e t' := ⟨fun pins s σ H Q I q => p.run pins s σ H Q I (h _ _ _ q)⟩
theorem o_none : PO X none (TOm S W none) := PO.imp po_none fun σ H Q ⟨ρ, τ, h, R, s, oi, e, p⟩ => by
  cases oi with
  | none => exact p ρ H .refl R
  | some i => cases e
theorem o_some (ha : PE X a (TM S W ma)) : PO X (some a) (TOm S W (some ma)) := by
  refine PO.imp (po_some ha) fun σ H Q ⟨ρ, τ, h, R, s, p⟩ => ⟨ρ, τ, h, R, s, ?_⟩
  have e0 : lOpt (some ma) τ h = (ma τ h).thenL partI := rfl
  rw [e0] at p
  cases q : ma τ h with
  | val v h1 =>
    rw [q] at p
    cases v with
    | int i =>
      obtain ⟨oi, e, p⟩ := p
      cases oi with
      | none => cases e
      | some j =>
        cases e
        intro ρ' H' v' x R' r
        cases r
        exact ⟨i, rfl, p ρ' H' x R'⟩
    | _ => exact False.elim p
  | exc v h1 => rw [q] at p; exact p
  | bad => rw [q] at p; exact p
theorem clip_ok (n d : Nat) (o : Option Int) : clip n d (intsE o).head? = some (HT.sIx n d o) := by
  cases o with
  | none => rfl
  | some i =>
    cases i with
    | ofNat k => show some (min k n) = some (HT.sIx n d (some (k : Int))); rw [HT.sIx_nat]
    | negSucc k =>
      show some (n - (k + 1)) = some (HT.sIx n d (some (Int.negSucc k)))
      unfold HT.sIx
      show some (n - (k + 1)) = some (if Int.negSucc k < 0 then (Int.negSucc k + (n : Int)).toNat else min (Int.negSucc k).toNat n)
      rw [if_pos (by rw [Int.negSucc_eq]; omega), Int.negSucc_eq]
      congr 1
      omega
theorem cut_ok {α : Type} (l : List α) (lo hi : Option Int) : cut l (intsE lo).head? (intsE hi).head? = some ((l.drop (HT.sIx l.length 0 lo)).take (HT.sIx l.length l.length hi - HT.sIx l.length 0 lo)) := by
  unfold cut
  rw [clip_ok, clip_ok]
theorem VRs.drop {ρ H} : ∀ (n : Nat) {es : List EV} {vs : List V}, VRs S ρ H es vs → VRs S ρ H (es.drop n) (vs.drop n)
  | 0, _, _, h => h
  | n + 1, _, _, .nil => .nil
  | n + 1, _, _, .cons _ r => VRs.drop n r
theorem VRs.take {ρ H} : ∀ (n : Nat) {es : List EV} {vs : List V}, VRs S ρ H es vs → VRs S ρ H (es.take n) (vs.take n)
  | 0, _, _, _ => .nil
  | n + 1, _, _, .nil => .nil
  | n + 1, _, _, .cons h r => .cons h (VRs.take n r)
def rSl (K : PySem.W.Frag) : V → Option Int → Option Int → Hp → VK → Prop := fun x l u H Q => (rSlL K x l u H Q ∨ rSlA K x l u H Q) ∨ rSlS x l u H Q
theorem v_sl {U : XW} {Q : VK} {ρ : List Addr} {H : Hp} {h : EH} {x : EV} {x' : V} {lo hi : Option Int} (R : Rep S ρ h H) (r1 : VR S ρ H x x') (p : PoE S U Q ρ H (vSl h x (intsE lo).head? (intsE hi).head?)) : rSl S.K x' lo hi H Q := by
  cases r1 with
  | tup ha hv =>
    rename_i a vs es
    have p' : PoE S U Q ρ H ((cut es (intsE lo).head? (intsE hi).head?).rec .bad fun r => .val (.tup r) h) := p
    rw [cut_ok] at p'
    have hl := hv.length
    refine .inl (.inr ⟨a, vs, rfl, ha, fun ⟨w1, w2⟩ => ?_, fun _ q hq => ?_⟩)
    · rw [hl, w1, w2, Nat.sub_zero] at p'
      have e : (es.drop 0).take vs.length = es := by rw [List.drop_zero, ← hl, List.take_length]
      have p2 : PoE S U Q ρ H (.val (.tup ((es.drop 0).take vs.length)) h) := p'
      rw [e] at p2
      exact PoE.val R (.tup ha hv) p2
    · rw [hl] at p'
      exact p' ρ _ _ (Ext.new0 hq) (R.laid hq) (.tup (SqT.of upd_same) (((hv.drop _).take _).mono (Ext.new0 hq)))
  | ref ha =>
    rename_i i a
    have p' : PoE S U Q ρ H (match h.get i with
      | some (.lst es) => (cut es (intsE lo).head? (intsE hi).head?).rec .bad fun r => .val (.ref h.n) (h.new (.lst r))
      | _ => .bad) := p
    split at p'
    · rename_i es e
      obtain ⟨vs, hvs, rv⟩ := R.lst ha e
      rw [cut_ok] at p'
      have hl := rv.length
      rw [hl] at p'
      exact .inl (.inl ⟨a, vs, rfl, SqL.of hvs, PoE.newL R ((rv.drop _).take _) p'⟩)
    · exact False.elim p'
  | str l =>
    have p' : PoE S U Q ρ H ((cut l (intsE lo).head? (intsE hi).head?).rec .bad fun r => RT.fit l (.val (.str r) h)) := p
    rw [cut_ok] at p'
    obtain ⟨c, p2⟩ := PoE.fit p'
    exact .inr ⟨_, rfl, by show l.toArray.size ≤ sizeLine; simpa using c, PoE.val R (.str _) p2⟩
  | _ => exact False.elim p
theorem x_sl {lo hi : Option Expr} {p2 : Pos} {ol oh : Option M} (hK : S.K = X.K) (ha : PE X a (TM S W ma)) (hl : PO X lo (TOm S W ol)) (hu : PO X hi (TOm S W oh)) : PE X (.Subscript a (.Slice lo hi none p2) pos) (TM S W (xSl ma ol oh)) := by
  refine PE.imp (pe_slice (SlR.or (SlR.or sl_list sl_tupA) sl_str) ha hl hu) fun σ H Q ⟨ρ, τ, h, R, s, p⟩ => ⟨ρ, τ, h, R, s, PoE.imp (PoE.then (o := ma τ h) p) ?_⟩
  rintro x' H1 ⟨ρ1, h1, x, e1, R1, r1, p1⟩
  have part : ∀ (o : Option M) (τ : ES) (h : EH) l h', lOpt o τ h = .vals l h' → ∃ oi, l = intsE oi := by
    intro o τ h l h' e
    cases o with
    | none => cases e; exact ⟨none, rfl⟩
    | some m =>
      have e0 : (m τ h).thenL partI = .vals l h' := e
      cases q : m τ h with
      | val v h2 =>
        rw [q] at e0
        cases v with
        | int i => cases e0; exact ⟨some i, rfl⟩
        | _ => cases e0
      | exc v h2 => rw [q] at e0; cases e0
      | bad => rw [q] at e0; cases e0
  refine ⟨ρ1, τ, h1, R1, s.mono e1, ?_⟩
  have p2 : PoE S (at0 W σ) Q ρ1 H1 ((lOpt ol τ h1).then fun l h2 => (lOpt oh τ h2).then fun u h3 => vSl h3 x l.head? u.head?) := p1
  cases q : lOpt ol τ h1 with
  | bad => rw [q] at p2; exact p2
  | exc v h2 => rw [q] at p2; exact p2
  | vals l h2 =>
    obtain ⟨oi, rfl⟩ := part _ _ _ _ _ q
    rw [q] at p2
    refine ⟨oi, rfl, fun ρ3 H3 x3 R3 => ⟨ρ3, τ, h2, R3, (s.mono e1).mono x3, ?_⟩⟩
    have p3 : PoE S (at0 W σ) Q ρ3 H3 ((lOpt oh τ h2).then fun u h3 => vSl h3 x (intsE oi).head? u.head?) := PoE.from x3 p2
    cases q3 : lOpt oh τ h2 with
    | bad => rw [q3] at p3; exact p3
    | exc v h4 => rw [q3] at p3; exact p3
    | vals l h4 =>
      obtain ⟨oj, rfl⟩ := part _ _ _ _ _ q3
      rw [q3] at p3
      refine ⟨oj, rfl, fun ρ5 H5 x5 R5 => ?_⟩
      have := v_sl R5 (r1.mono (x3.trans x5)) (PoE.from x5 p3)
      rw [hK] at this
      exact this
end
end RT
end
section
set_option Elab.async false
set_option linter.all false
set_option maxRecDepth 100000
set_option maxHeartbeats 1000000
namespace RT
open PySem PySem.Spec PyProof.Rows L2
/-- the defs of the text do what the small machine's do -/
structure Cals (P : Program) (w : World) (K : PySem.W.Frag) (mg : Str → Option Value) (base : Heap) (S : Kit) (k : Nat) (cf : CF) : Prop where
  at' : ∀ i f, S.fa i = some f → ∃ fd ps, FnOk P w K mg base (L2.CX P w) k f fd ps (spF S (cf i)) ∧ PySem.W.keepIn K (.ref f) = true ∧ Binds K fd ps []
/-- how keywords alone bind -/
def permV {α : Type} (d : α) (ord : List Nat) (l : List α) : List α := ord.map fun i => l.getD i d
theorem vals_getD {zs : List V} {ws : List Value} (r : Vals zs ws) (i : Nat) : RelV (zs.getD i .non) (ws.getD i .none) := by
  induction r generalizing i with
  | nil => exact rfl
  | cons h _ ih =>
    cases i with
    | zero => exact h
    | succ i => exact ih i
theorem vals_perm {zs : List V} {ws : List Value} (r : Vals zs ws) : ∀ ord : List Nat, Vals (permV .non ord zs) (permV .none ord ws)
  | [] => .nil
  | i :: ord => .cons (vals_getD r i) (vals_perm r ord)
theorem kb_of {K : PySem.W.Frag} {x qual : Str} {st : Stmt} {f : Addr} {fd : FuncData} {ps : List Str} (F : Fun K x qual st f fd) (ord : List Nat) (ks : List Str)
    (h : ∀ (kV doc pm : Value) (an : Option Addr) (cdv ct : Value) (ws : List Value), ws.length = ks.length → bindArgs (PySem.W.fnOf x qual (defArgs st) (defBody st) (defScope st) .none kV doc pm an cdv ct) ⟨[], ks.zip ws⟩ = pure (ps.zip (permV .none ord ws))) :
    KBn K fd ps 0 ks (fun _ ws => permV .none ord ws) (fun _ zs => permV .non ord zs) := by
  obtain ⟨oc, od, kV, doc, pm, an, cdv, ct, osl, rfl, lk, hcd⟩ := F.ex
  refine ⟨fun s us ws _ l1 l2 => ?_, fun _ rz => vals_perm rz ord⟩
  have : us = [] := List.length_eq_zero_iff.mp l1
  subst this
  exact .of_eq (h kV doc pm an cdv ct ws l2)
theorem permL_ok {S : Kit} {ρ : List Addr} {H : Hp} {es : List EV} {vs : List V} (r : VRs S ρ H es vs) : ∀ ord : List Nat, VRs S ρ H (permL ord es) (permV .non ord vs)
  | [] => .nil
  | i :: ord => by
    refine .cons ?_ (permL_ok r ord)
    show VR S ρ H ((nth es i).getD .non) (vs.getD i .non)
    rw [nth_eq]
    have hl := r.length
    cases q : es[i]? with
    | none =>
      rw [List.getD_eq_getElem?_getD, List.getElem?_eq_none (by rw [← hl]; exact List.getElem?_eq_none_iff.mp q)]
      exact .non
    | some e =>
      obtain ⟨v, h1, h2⟩ := r.get q
      rw [List.getD_eq_getElem?_getD, h1]
      exact h2
section
variable {X : Cx} {S : Kit} {W : WX} {p pos kpos : Pos} {e fe : Expr} {es : List Expr} {ml : ML} {mf ma : M} {x : Str} {f : Addr} {fd : FuncData} {ps ks : List Str} {k i : Nat} {cf : CF} {kws : List Keyword} {nm : Option Str}
/-- f() -/
theorem x_call0 (F : FnOk X.prog X.w X.K X.mg X.base (L2.CX X.prog X.w) k f fd ps (spF S (cf i))) (hr : Room k X.A) (hg : Gl X x) (hm : X.mg x = some (.ref f)) (hk : PySem.W.keepIn X.K (.ref f) = true) (hb : Binds X.K fd ps [])
    (tk : Takes X W) (hdb : (x == ("__debug__" : Str)) = false := by decide) : PE X (.Call (.Name x p) [] [] pos) (TM S W (xCall0 cf i lNil)) := by
  refine ⟨fun pins s σ H Q I ⟨ρ, τ, h, R, sr, q⟩ => ?_⟩
  refine wpAny_Call_Name_kw (ld_glob I hg hm ?_ hdb)
  exact PySem.W.callWith_K0 I.kIn hk (run_fnS (us := []) F hr hb (passAt tk σ) I .nil ⟨ρ, h, [], R, .nil, q⟩)
/-! keywords -/
def TLk (S : Kit) (W : WX) (m : ML) : TA := TL S W m
theorem k_nil : PK X [] (TL S W lNil) := ⟨fun pos pins s σ H Q I ⟨ρ, τ, h, R, sr, p⟩ => pk_nil.run pos pins s σ H Q I (p ρ H [] .refl R .nil)⟩
theorem k_cons (ha : PE X e (TM S W ma)) (hr : PK X kws (TL S W ml)) : PK X (⟨nm, e, kpos⟩ :: kws) (TL S W (lCons ma ml)) := by
  refine ⟨fun pos pins s σ H Q I ⟨ρ, τ, h, R, sr, p⟩ => (pk_cons ha hr).run pos pins s σ H Q I ⟨ρ, τ, h, R, sr, PoE.imp (PoE.thenL (o := ma τ h) p) ?_⟩⟩
  rintro x' H1 ⟨ρ1, h1, x, e1, R1, r1, p1⟩
  refine ⟨ρ1, τ, h1, R1, sr.mono e1, PoL.imp (PoL.thenL (o := ml τ h1) p1) ?_⟩
  rintro y' H2 ⟨ρ2, h2, y, e2, R2, r2, p2⟩
  exact p2 ρ2 H2 _ .refl R2 (.cons (r1.mono e2) r2)
theorem run_fnKS {n : Nat} {g : List Value → List Value → List Value} {gV : List V → List V → List V} {sp : Sp} {E : St → XK} {pins : List (Addr × Obj)} {σ : St} {H : Hp} {s : Shared} {Q : VK} {us ws : List Value} {vs zs : List V} {CX : CXT} (F : FnOk X.prog X.w X.K X.mg X.base CX k f fd ps sp) (hr : Room k X.A) (hb : KBn X.K fd ps n ks g gV)
    (hx : PassesAt CX X σ (E σ)) (I : Inv X pins σ H s) (r : Vals vs us) (rz : Vals zs ws) (l1 : vs.length = n) (l2 : zs.length = ks.length) (h : sp (gV vs zs) H Q (E σ)) : wpAny (model X.prog X.w) X.A (call (.ref f) us (ks.zip ws)) (EP X pins σ Q) X.xe s := by
  refine wpAny_call (codeAny_mono (F.run X.A X.stack s H ⟨us, ks.zip ws⟩ _ (gV vs zs) Q (E σ) hr I.env0 (hb.to s us ws I.kIn (by rw [← r.length]; exact l1) (by rw [← rz.length]; exact l2)) (hb.rel r rz) h) fun o s' hq => ?_)
  cases o with
  | ok fl =>
    cases fl with
    | ret u => exact I.after hq
    | _ => exact False.elim hq
  | error er => exact hx pins H s er s' I hq
/-- f(k = v, ..) -/
theorem x_callK {ord : List Nat} (F : FnOk X.prog X.w X.K X.mg X.base (L2.CX X.prog X.w) k f fd ps (spF S (cf i))) (hr : Room k X.A) (hg : Gl X x) (hm : X.mg x = some (.ref f)) (hk : PySem.W.keepIn X.K (.ref f) = true) (hb : KBn X.K fd ps 0 ks (fun _ ws => permV .none ord ws) (fun _ zs => permV .non ord zs))
    (tk : Takes X W) (hkw : PK X kws (TL S W ml)) (hlen : ∀ τ h l h', ml τ h = .vals l h' → l.length = ks.length) (hall : (backToKw pos (keywordEach kws X.env)).all (·.1.isSome) = true := by rfl) (hks : (backToKw pos (keywordEach kws X.env)).filterMap (·.1) = ks := by rfl) (hdb : (x == ("__debug__" : Str)) = false := by decide)
    (hpl : ((backTo pos (starEach [] X.env)).any (·.1) || (backToKw pos (keywordEach kws X.env)).any (·.1.isNone)) = false := by rfl) :
    PE X (.Call (.Name x p) [] kws pos) (TM S W (xCall cf i ord ml)) := by
  refine ⟨fun pins s σ H Q I ⟨ρ, τ, h, R, sr, q⟩ => ?_⟩
  refine wpAny_Call_Name_kw (ld_glob I hg hm ?_ hdb)
  have q0 : PoE S (at0 W σ) Q ρ H ((ml τ h).then fun vs h1 => cf i (permL ord vs) h1) := q
  have t0 : TL S W ml σ H (fun vs H1 => vs.length = ks.length ∧ spF S (cf i) (permV .non ord vs) H1 Q (WE W σ)) := by
    refine ⟨ρ, τ, h, R, sr, ?_⟩
    cases e : ml τ h with
    | bad => rw [e] at q0; exact q0
    | exc v h1 => rw [e] at q0; exact q0
    | vals l h1 =>
      rw [e] at q0
      exact fun ρ' H' v' x R' r => ⟨by rw [← r.length]; exact hlen _ _ _ _ e, ρ', h1, _, R', permL_ok r ord, PoE.from x q0⟩
  refine PySem.W.callWith_KW0 (h₀ := X.base) I.ok.mod.kin hk hall (thn (hkw.run pos pins s σ H _ I t0) fun ws s2 ⟨zs, H2, I2, rz, l2, q2⟩ => ⟨I2.kIn, ?_⟩) hpl
  rw [hks]
  exact run_fnKS (us := []) (vs := []) (E := WE W) F hr hb (passAt tk σ) I2 .nil rz rfl l2 q2
/-- a def that is the value of an expression, called -/
theorem x_callV (hK : S.K = X.K) (C : Cals X.prog X.w X.K X.mg X.base S k cf) (hr : Room k X.A) (tk : Takes X W) (hf : PE X fe (TM S W mf)) (ha : PA X (e :: es) (TL S W ml))
    (ht : eval (.Call fe (e :: es) [] pos) X.env = (do callWith pos (← eval fe X.env) [] (backTo pos (starEach (e :: es) X.env)) (backToKw pos (keywordEach [] X.env))) := by rfl)
    (he : starEach (e :: es) X.env = (false, eval e X.env) :: starEach es X.env := by rfl) (hpl : (backTo pos (starEach es X.env)).any (·.1) = false := by rfl) : PE X (.Call fe (e :: es) [] pos) (TM S W (xCallV cf mf ml)) := by
  refine ⟨fun pins s σ H Q I ⟨ρ, τ, h, R, sr, q⟩ => ?_⟩
  refine Call_ (thn (hf.run pins s σ H _ I ⟨ρ, τ, h, R, sr, PoE.then (o := mf τ h) q⟩) fun u s1 ⟨x', H1, I1, rx, ρ1, h1, gv, e1, R1, r1, p1⟩ => ?_) ht
  cases r1 with
  | fn hi =>
    rename_i i f
    have p2 := PoL.then (o := ml τ h1) (k := fun vs h => cf i vs h) p1
    cases rx
    obtain ⟨fd, ps, F, kp, b⟩ := C.at' i f hi
    refine PySem.W.callWith_K (h₀ := X.base) I.ok.mod.kin kp (thn (ha.run pos pins s1 σ H1 _ I1 ⟨ρ1, τ, h1, R1, sr.mono e1, p2⟩) fun us s2 ⟨vs', H2, I2, r, ρ2, h2, vs, e2, R2, r2, p3⟩ => ⟨I2.kIn, ?_⟩) he hpl
    exact run_fnS F hr b (passAt tk σ) I2 r ⟨ρ2, h2, vs, R2, r2, p3⟩
  | _ => exact False.elim p1
end
end RT
end
section
set_option Elab.async false
set_option linter.all false
set_option maxRecDepth 100000
set_option maxHeartbeats 1000000
namespace RT
open PySem PySem.Spec PyProof.Rows L2
section
variable {X : Cx} {S : Kit} {ρ : List Addr} {H : Hp} {h : EH}
/-! isinstance -/
def kindN : Nat → String
  | 0 => "int" | 1 => "bool" | 2 => "tuple" | 3 => "list" | 4 => "str" | _ => "NoneType"
theorem kind_ok {x : EV} {v : V} {k : Nat} (R : Rep S ρ h H) (r : VR S ρ H x v) (q : kindO h x = some k) : k < 7 ∧ k ≠ 5 ∧ TyX S.K H v (.type (kindN k)) := by
  cases r with
  | non => cases q; exact ⟨by omega, by omega, .base .non⟩
  | bl b => cases q; exact ⟨by omega, by omega, .base (.bl b)⟩
  | int i => cases q; exact ⟨by omega, by omega, .base (.int i)⟩
  | str l => cases q; exact ⟨by omega, by omega, .base (.str _)⟩
  | tup ha hv =>
    cases q
    refine ⟨by omega, by omega, ?_⟩
    rcases ha with (e | ⟨o, e⟩) | ⟨o, its, n, e, c, _⟩
    · exact .base (.tup e)
    · exact .fTuple e
    · exact .kTuple e c
  | ref ha =>
    rename_i i a
    have q0 : (match h.get i with | some (.lst _) => some 3 | _ => none) = some k := q
    split at q0
    · rename_i es e
      obtain ⟨vs, hvs, _⟩ := R.lst ha e
      cases q0
      exact ⟨by omega, by omega, .base (.lst hvs)⟩
    · cases q0
  | _ => cases q
theorem kinds_all : ∀ k u : Nat, k < 7 → k ≠ 5 → u < 6 → ∀ s, tyN u = some s → kitB (kindN k) s = some (isK k u) := by
  have key : ((List.range 7).all fun k => k == 5 || (List.range 6).all fun u => (tyN u).all fun s => kitB (kindN k) s == some (isK k u)) = true := by decide +kernel
  intro k u hk h5 hu s hs
  rw [List.all_eq_true] at key
  have a := key k (List.mem_range.mpr hk)
  rw [Bool.or_eq_true] at a
  rcases a with a | a
  · exact absurd (eq_of_beq a) h5
  · rw [List.all_eq_true] at a
    have b := a u (List.mem_range.mpr hu)
    rw [hs] at b
    exact eq_of_beq b
theorem isT1_ok {t : EV} {v : V} {k : Nat} {b : Bool} (hk : k < 7) (h5 : k ≠ 5) (r : VR S ρ H t v) (q : isT1 k t = some b) : ∃ u, ClsV v u ∧ PySem.W.kitOne S.K (.type (kindN k)) u = some b := by
  cases r with
  | ty hn =>
    rename_i u s
    obtain ⟨c, q1⟩ := ifN (x := none) (show (Bool.rec (motive := fun _ => Option Bool) none (some (isK k u)) (Nat.blt u 6)) = some b from q)
    cases q1
    exact ⟨_, .ty s, kit_ty (kinds_all k u hk h5 (Nat.le_of_ble_eq_true c) s hn)⟩
  | cls hn =>
    rename_i n a fs
    obtain ⟨c, q1⟩ := ifN (x := none) (show (Bool.rec (motive := fun _ => Option Bool) none (some (isK k (20 + n))) (Nat.blt (20 + n) 6)) = some b from q)
    have c1 : 20 + n < 6 := Nat.le_of_ble_eq_true c
    omega
  | _ => cases q
theorem isTs_ok {k : Nat} (hk : k < 7) (h5 : k ≠ 5) : ∀ {ts : List EV} {vs : List V} {b : Bool}, VRs S ρ H ts vs → isTs k ts = some b → ∃ us, Paired ClsV vs us ∧ PySem.W.kitAny S.K (.type (kindN k)) us = some b
  | _, _, _, .nil, q => by cases q; exact ⟨[], .nil, kitAny_nil⟩
  | t :: ts, v :: vs, b, .cons r rr, q => by
    have q0 : (Option.rec (motive := fun _ => Option Bool) none (fun c => Option.rec (motive := fun _ => Option Bool) none (fun d => some (c || d)) (isTs k ts)) (isT1 k t)) = some b := q
    cases e1 : isT1 k t with
    | none => rw [e1] at q0; cases q0
    | some c =>
      rw [e1] at q0
      cases e2 : isTs k ts with
      | none => rw [e2] at q0; cases q0
      | some d =>
        rw [e2] at q0
        cases q0
        obtain ⟨u, cu, ku⟩ := isT1_ok hk h5 r e1
        obtain ⟨us, p, ka⟩ := isTs_ok hk h5 rr e2
        refine ⟨u :: us, .cons cu p, kitAny_cons ku (fun z => ?_) (fun z => ?_)⟩
        · subst z; exact ka
        · subst z; rfl
/-- isinstance(x, c), isinstance(x, (c, ..)) -/
def rIsA (K : PySem.W.Frag) : List V → Hp → VK → Prop := fun xs H Q => rIsi K xs H Q ∨ (∃ (x : V) (tp : Addr) (cs : List V) (t : Value) (us : List Value) (b : Bool), xs = [x, .ref tp] ∧ SqT K H tp cs ∧ Paired ClsV cs us ∧ TyX K H x t ∧ PySem.W.kitAny K t us = some b ∧ Q (.bl b) H)
theorem call_isA : CallR X (.builtin "isinstance") (rIsA X.K) := by
  intro pins s σ H xs us Q I r hh
  rcases hh with hh | ⟨x, tp, cs, t, ws, b, rfl, hT, k, ty, e, q⟩
  · exact call_isi pins s σ H xs us Q I r hh
  · obtain ⟨u1, u2, rfl, r1, r2⟩ := vals2 r
    cases (show u2 = Value.ref tp from r2)
    obtain ⟨P, Z, p, hx⟩ := kit_of I r1 ty
    obtain ⟨its, rv, ⟨⟨oc, od, dt, sl⟩, g1, g2, n, g3⟩, _⟩ := I.tuple hT
    have e3 := ClsV.all k rv
    subst e3
    simp only at g2 g3
    subst g2 g3
    exact PySem.W.kia_tup Z I.kIn p g1 e hx fun tk => ⟨.bl b, H, I.tok tk, rfl, q⟩
theorem v_isi : VCall S bIsi (rIsA S.K) := by
  intro U Q ρ H h as vs R r p
  cases r with
  | nil => exact False.elim p
  | cons r rr =>
    cases rr with
    | nil => exact False.elim p
    | cons r2 rr =>
      cases rr with
      | cons _ _ => exact False.elim p
      | nil =>
        rename_i x v t w
        have p0 : PoE S U Q ρ H (optB (vIsi h x t) h) := p
        cases e : vIsi h x t with
        | none => rw [e] at p0; exact False.elim p0
        | some b =>
          rw [e] at p0
          have q := PoE.val R (.bl b) p0
          have e0 : (Option.rec (motive := fun _ => Option Bool) none (fun k => match t with | .ty u => isT1 k (.ty u) | .tup l => isTs k l | _ => none) (kindO h x)) = some b := e
          cases ek : kindO h x with
          | none => rw [ek] at e0; cases e0
          | some k =>
            rw [ek] at e0
            obtain ⟨k1, k2, ty⟩ := kind_ok R r ek
            cases r2 with
            | ty hn =>
              obtain ⟨u, cu, ku⟩ := isT1_ok (S := S) (ρ := ρ) (H := H) k1 k2 (.ty hn) e0
              exact .inl ⟨_, _, _, u, b, rfl, cu, ty, ku, q⟩
            | cls hn =>
              obtain ⟨u, cu, ku⟩ := isT1_ok (S := S) (ρ := ρ) (H := H) k1 k2 (.cls hn) e0
              exact .inl ⟨_, _, _, u, b, rfl, cu, ty, ku, q⟩
            | tup ha hv =>
              obtain ⟨us, pu, ka⟩ := isTs_ok k1 k2 hv e0
              exact .inr ⟨_, _, _, _, us, b, rfl, ha, pu, ty, ka, q⟩
            | _ => cases e0
/-! tuple, list, all, any, min, max -/
theorem v_tuple : VCall S bTuple (fun xs H Q => ∃ p ys, xs = [.ref p] ∧ ((SqL S.K H p ys ∧ ∀ l, H l = none → Q (.ref l) (upd H l (.tup ys))) ∨ (SqT S.K H p ys ∧ Q (.ref p) H))) := by
  intro U Q ρ H h as vs R r p
  cases r with
  | nil => exact False.elim p
  | cons r rr =>
    cases rr with
    | cons _ _ => exact False.elim p
    | nil =>
      rename_i x v
      have p0 : PoE S U Q ρ H ((seqOf h x).rec .bad fun l => .val (.tup l) h) := p
      cases r with
      | tup ha hv => exact ⟨_, _, rfl, .inr ⟨ha, PoE.val R (.tup ha hv) p0⟩⟩
      | ref ha =>
        rename_i i a
        have e0 : seqOf h (.ref i) = (match h.get i with | some (.lst es) => some es | _ => none) := rfl
        rw [e0] at p0
        split at p0
        · rename_i es eg
          obtain ⟨vs, hvs, rv⟩ := R.lst ha eg
          exact ⟨_, _, rfl, .inl ⟨SqL.of hvs, fun q hq => p0 ρ _ _ (Ext.new0 hq) (R.laid hq) (.tup (SqT.of upd_same) (rv.mono (Ext.new0 hq)))⟩⟩
        · exact False.elim p0
      | _ => exact False.elim p0
theorem v_list : VCall S bList (fun xs H Q => ∃ p ys, xs = [.ref p] ∧ (SqL S.K H p ys ∨ SqT S.K H p ys) ∧ ∀ l, H l = none → Q (.ref l) (upd H l (.lst ys))) := by
  intro U Q ρ H h as vs R r p
  cases r with
  | nil => exact False.elim p
  | cons r rr =>
    cases rr with
    | cons _ _ => exact False.elim p
    | nil =>
      rename_i x v
      have p0 : PoE S U Q ρ H ((seqOf h x).rec .bad fun l => .val (.ref h.n) (h.new (.lst l))) := p
      cases r with
      | tup ha hv => exact ⟨_, _, rfl, .inr ha, PoE.newL R hv p0⟩
      | ref ha =>
        rename_i i a
        have e0 : seqOf h (.ref i) = (match h.get i with | some (.lst es) => some es | _ => none) := rfl
        rw [e0] at p0
        split at p0
        · rename_i es eg
          obtain ⟨vs, hvs, rv⟩ := R.lst ha eg
          exact ⟨_, _, rfl, .inl (SqL.of hvs), PoE.newL R rv p0⟩
        · exact False.elim p0
      | _ => exact False.elim p0
theorem boolsOf_ok : ∀ {es : List EV} {vs : List V} {bs : List Bool}, VRs S ρ H es vs → boolsOf es = some bs → vs = bs.map V.bl
  | _, _, _, .nil, q => by cases q; rfl
  | e :: es, v :: vs, bs, .cons r rr, q => by
    cases r with
    | bl b =>
      have q0 : (Option.rec (motive := fun _ => Option (List Bool)) none (fun r => some (b :: r)) (boolsOf es)) = some bs := q
      cases e1 : boolsOf es with
      | none => rw [e1] at q0; cases q0
      | some cs =>
        rw [e1] at q0
        cases q0
        rw [boolsOf_ok rr e1]; rfl
    | _ => cases q
theorem allF_eq : ∀ l : List Bool, allF l = l.all id
  | [] => rfl
  | c :: r => by
    cases c with
    | true => exact allF_eq r
    | false => rfl
theorem anyF_eq : ∀ l : List Bool, anyF l = l.any id
  | [] => rfl
  | c :: r => by
    cases c with
    | true => rfl
    | false => exact anyF_eq r
theorem lstOf_ok {x : EV} {v : V} {es : List EV} (R : Rep S ρ h H) (r : VR S ρ H x v) (q : lstOf h x = some es) : ∃ a vs, v = .ref a ∧ SqL S.K H a vs ∧ VRs S ρ H es vs := by
  cases r with
  | ref ha =>
    rename_i i a
    have q0 : (match h.get i with | some (.lst es) => some es | _ => none) = some es := q
    split at q0
    · rename_i fs e
      cases q0
      obtain ⟨vs, hvs, rv⟩ := R.lst ha e
      exact ⟨a, vs, rfl, SqL.of hvs, rv⟩
    · cases q0
  | _ => cases q
theorem v_all : VCall S bAll (rAll S.K) := by
  intro U Q ρ H h as vs R r p
  cases r with
  | nil => exact False.elim p
  | cons r rr =>
    cases rr with
    | cons _ _ => exact False.elim p
    | nil =>
      rename_i x v
      have p0 : PoE S U Q ρ H ((lstOf h x).rec .bad fun l => (boolsOf l).rec .bad fun r => .val (.bl (allF r)) h) := p
      cases e : lstOf h x with
      | none => rw [e] at p0; exact False.elim p0
      | some l =>
        rw [e] at p0
        have p1 : PoE S U Q ρ H ((boolsOf l).rec .bad fun r => .val (.bl (allF r)) h) := p0
        cases e1 : boolsOf l with
        | none => rw [e1] at p1; exact False.elim p1
        | some bs =>
          rw [e1] at p1
          obtain ⟨a, ws, rfl, hs, rv⟩ := lstOf_ok R r e
          have := boolsOf_ok rv e1
          subst this
          have q := PoE.val R (.bl (allF bs)) p1
          rw [allF_eq] at q
          exact ⟨a, bs, rfl, hs, q⟩
theorem v_any : VCall S bAny (rAny S.K) := by
  intro U Q ρ H h as vs R r p
  cases r with
  | nil => exact False.elim p
  | cons r rr =>
    cases rr with
    | cons _ _ => exact False.elim p
    | nil =>
      rename_i x v
      have p0 : PoE S U Q ρ H ((lstOf h x).rec .bad fun l => (boolsOf l).rec .bad fun r => .val (.bl (anyF r)) h) := p
      cases e : lstOf h x with
      | none => rw [e] at p0; exact False.elim p0
      | some l =>
        rw [e] at p0
        have p1 : PoE S U Q ρ H ((boolsOf l).rec .bad fun r => .val (.bl (anyF r)) h) := p0
        cases e1 : boolsOf l with
        | none => rw [e1] at p1; exact False.elim p1
        | some bs =>
          rw [e1] at p1
          obtain ⟨a, ws, rfl, hs, rv⟩ := lstOf_ok R r e
          have := boolsOf_ok rv e1
          subst this
          have q := PoE.val R (.bl (anyF bs)) p1
          rw [anyF_eq] at q
          exact ⟨a, bs, rfl, hs, q⟩
theorem seqOf_ok {x : EV} {v : V} {es : List EV} (R : Rep S ρ h H) (r : VR S ρ H x v) (q : seqOf h x = some es) : ∃ a vs, v = .ref a ∧ (SqL S.K H a vs ∨ SqT S.K H a vs) ∧ VRs S ρ H es vs := by
  cases r with
  | tup ha hv => cases q; exact ⟨_, _, rfl, .inr ha, hv⟩
  | ref ha =>
    rename_i i a
    have q0 : (match h.get i with | some (.lst es) => some es | _ => none) = some es := q
    split at q0
    · rename_i fs e
      cases q0
      obtain ⟨vs, hvs, rv⟩ := R.lst ha e
      exact ⟨a, vs, rfl, .inl (SqL.of hvs), rv⟩
    · cases q0
  | _ => cases q
theorem v_best {c : Ord3} : VCall S (bBest c) (rBest S c) := by
  intro U Q ρ H h as vs R r p
  cases r with
  | nil => exact False.elim p
  | cons r rr =>
    cases rr with
    | cons _ _ => exact False.elim p
    | nil =>
      rename_i x v
      have p0 : PoE S U Q ρ H ((seqOf h x).rec .bad fun l => l.casesOn .bad fun m r => opt (best c r m) h) := p
      cases e : seqOf h x with
      | none => rw [e] at p0; exact False.elim p0
      | some l =>
        rw [e] at p0
        cases l with
        | nil => exact False.elim p0
        | cons m rr =>
          obtain ⟨w, ew, p1⟩ := PoE.opt (o := best c rr m) p0
          obtain ⟨a, ws, rfl, hs, rv⟩ := seqOf_ok R r e
          exact ⟨ρ, h, a, ws, m, rr, w, R, rfl, hs, rv, ew, fun v hv => p1 ρ H v .refl R hv⟩
end
end RT
end
section
set_option Elab.async false
set_option linter.all false
set_option maxRecDepth 100000
set_option maxHeartbeats 1000000
namespace RT
open PySem PySem.Spec PyProof.Rows L2
section
variable {X : Cx} {S : Kit} {W : WX} {pos pos' px py pz pt pt2 : Pos} {e a b c : Expr} {es : List Expr} {m ma : M} {ml : ML} {kt k2 : Nat}
/-! name op= e -/
theorem v_addI : VOp S vAddI (ipI fun i j => i + j) := by
  intro U Q ρ H h x y x' y' R r1 r2 p
  cases r1 <;> try exact False.elim p
  cases r2 <;> try exact False.elim p
  exact ⟨_, _, rfl, rfl, PoE.mkI R p⟩
theorem v_subI : VOp S vSubI (ipI fun i j => i - j) := by
  intro U Q ρ H h x y x' y' R r1 r2 p
  cases r1 <;> try exact False.elim p
  cases r2 <;> try exact False.elim p
  exact ⟨_, _, rfl, rfl, PoE.mkI R p⟩
theorem s_aug {op : Operator} {f : EH → EV → EV → Out} {ti : TIp} (i : Nat) {x : Str} (hN : X.N.Nodup) (hi : X.N[i]? = some x) (hx : Loc X.env.scope x) (ho : PIp X op ti) (hf : VOp S f ti) (he : PE X e (TM S W m)) (hf' : X.fn x = true ∨ X.env.scope.names.lookup x = some .local := by first | exact .inl rfl | exact .inr rfl | assumption)
    (hfr : S.fr i = true := by rfl) : PS X (.AugAssign (.Name x pos') op e pos) (TS' S W (sAug i f m)) := by
  refine PS.imp (ps_aug hN hi hx he ho hf') fun D σ H ⟨ρ, τ, h, R, s, p⟩ => ?_
  have p0 : PoS S W D ρ H ((nth τ i).rec .bad fun o => o.rec .bad fun a => (m τ h).thenS τ fun v h1 => (f h1 a v).thenS τ fun z h2 => .nx (setN τ (some z) i) h2) := p
  rw [nth_eq] at p0
  cases q : τ[i]? with
  | none => rw [q] at p0; exact False.elim p0
  | some o =>
    rw [q] at p0
    cases o with
    | none => exact False.elim p0
    | some a =>
      obtain ⟨v, g1, g2⟩ := s.at' i a q
      refine ⟨v, g1, ρ, τ, h, R, s, PoE.imp (PoS.thenS s (o := m τ h) p0) ?_⟩
      rintro x' H1 ⟨ρ1, h1, x, e1, R1, r1, p1⟩
      refine hf (at0 W σ) _ _ _ _ _ _ _ _ R1 (g2.mono e1) r1 (PoE.imp (PoS.thenS (s.mono e1) (o := f h1 a x) p1) ?_)
      rintro z' H2 ⟨ρ2, h2, z, e2, R2, r2, p2⟩
      exact p2 ρ2 H2 _ .refl R2 (((s.mono e1).mono e2).set i hfr r2)
/-! a, b = x, y -/
theorem s_par2 (i j : Nat) {x y : Str} (hc : X.calm = true) (hN : X.N.Nodup) (hi : X.N[i]? = some x) (hj : X.N[j]? = some y) (hij : i ≠ j)
    (hx : X.env.scope.names.lookup x = some .local) (hy : X.env.scope.names.lookup y = some .local) (ha : PA X [a, b] (TL S W ml))
    (hw : swappedStores [.Tuple [.Name x px, .Name y py] kt pt] (.Tuple [a, b] k2 pt2) X.env = pure (some [x, y]))
    (hs : swapsWithSole [.Tuple [.Name x px, .Name y py] kt pt] (.Tuple [a, b] k2 pt2) pos.line X.env = pure false := by rfl) (fi : S.fr i = true := by rfl) (fj : S.fr j = true := by rfl) :
    PS X (.Assign [.Tuple [.Name x px, .Name y py] kt pt] (.Tuple [a, b] k2 pt2) pos) (TS' S W (sPar2 i j ml)) := by
  refine PS.imp (ps_par hc hN hi hj hij hx hy ha hw hs) fun D σ H ⟨ρ, τ, h, R, s, p⟩ => ⟨ρ, τ, h, R, s, PoL.imp (PoS.thenL s (o := ml τ h) p) ?_⟩
  rintro x' H1 ⟨ρ1, h1, x, e1, R1, r1, p1⟩
  cases r1 with
  | nil => exact False.elim p1
  | cons r1 rr =>
    cases rr with
    | nil => exact False.elim p1
    | cons r2 rr =>
      cases rr with
      | cons _ _ => exact False.elim p1
      | nil => exact ⟨_, _, rfl, p1 ρ1 H1 _ .refl R1 (((s.mono e1).set i fi r1).set j fj r2)⟩
theorem s_par3 (i j l : Nat) {x y z : Str} (hc : X.calm = true) (hN : X.N.Nodup) (hi : X.N[i]? = some x) (hj : X.N[j]? = some y) (hl : X.N[l]? = some z) (hij : i ≠ j) (hil : i ≠ l) (hjl : j ≠ l)
    (hx : X.env.scope.names.lookup x = some .local) (hy : X.env.scope.names.lookup y = some .local) (hz : X.env.scope.names.lookup z = some .local) (ha : PA X [a, b, c] (TL S W ml))
    (hw : swappedStores [.Tuple [.Name x px, .Name y py, .Name z pz] kt pt] (.Tuple [a, b, c] k2 pt2) X.env = pure (some [x, y, z]))
    (hs : swapsWithSole [.Tuple [.Name x px, .Name y py, .Name z pz] kt pt] (.Tuple [a, b, c] k2 pt2) pos.line X.env = pure false := by rfl) (fi : S.fr i = true := by rfl) (fj : S.fr j = true := by rfl) (fl : S.fr l = true := by rfl) :
    PS X (.Assign [.Tuple [.Name x px, .Name y py, .Name z pz] kt pt] (.Tuple [a, b, c] k2 pt2) pos) (TS' S W (sPar3 i j l ml)) := by
  refine PS.imp (ps_par3 hc hN hi hj hl hij hil hjl hx hy hz ha hw hs) fun D σ H ⟨ρ, τ, h, R, s, p⟩ => ⟨ρ, τ, h, R, s, PoL.imp (PoS.thenL s (o := ml τ h) p) ?_⟩
  rintro x' H1 ⟨ρ1, h1, x, e1, R1, r1, p1⟩
  cases r1 with
  | nil => exact False.elim p1
  | cons r1 rr =>
    cases rr with
    | nil => exact False.elim p1
    | cons r2 rr =>
      cases rr with
      | nil => exact False.elim p1
      | cons r3 rr =>
        cases rr with
        | cons _ _ => exact False.elim p1
        | nil => exact ⟨_, _, _, rfl, p1 ρ1 H1 _ .refl R1 ((((s.mono e1).set i fi r1).set j fj r2).set l fl r3)⟩
/-! tuples as targets -/
def TGs' (S : Kit) (W : WX) (ts : List MG) : TGs := fun vs' σ H Q => ∃ ρ τ h vs, Rep S ρ h H ∧ SR S ρ H τ σ ∧ VRs S ρ H vs vs' ∧ PoS S W { nx := Q, rt := fun _ _ => False } ρ H (gSeq ts vs τ h)
theorem PGs.imp {t t' : TGs} (p : PGs X es t) (h : ∀ vs σ H Q, t' vs σ H Q → t vs σ H Q) : PGs X es t' := ⟨fun pins s σ H vs us Q I r q => p.run pins s σ H vs us Q I r (h _ _ _ _ q)⟩
theorem PG.imp {t t' : TG} (p : PG X e t) (h : ∀ v σ H Q, t' v σ H Q → t v σ H Q) : PG X e t' := ⟨fun pins s σ H v u Q I r q => p.run pins s σ H v u Q I r (h _ _ _ _ q)⟩
theorem gs_nil : PGs X [] (TGs' S W []) := PGs.imp pgs_nil fun vs' σ H Q ⟨ρ, τ, h, vs, R, s, r, p⟩ => by
  cases r with
  | nil => exact ⟨rfl, p ρ H σ .refl R s⟩
  | cons _ _ => exact False.elim p
theorem gs_cons {g : MG} {ts : List MG} (pg : Plain g) (h1 : PG X e (TG' S W g)) (h2 : PGs X es (TGs' S W ts)) (hs : (assignEach (e :: es) X.env).map (·.2) = assign e X.env :: (assignEach es X.env).map (·.2) := by rfl) : PGs X (e :: es) (TGs' S W (g :: ts)) := by
  refine PGs.imp (pgs_cons h1 h2 hs) fun vs' σ H Q ⟨ρ, τ, h, vs, R, s, r, p⟩ => ?_
  cases r with
  | nil => exact False.elim p
  | @cons v vs v' vs' r rr =>
    refine ⟨_, _, rfl, ρ, τ, h, v, R, s, r, ?_⟩
    have p0 : PoS S W { nx := Q, rt := fun _ _ => False } ρ H ((g v τ h).go fun σ1 h1 => gSeq ts vs σ1 h1) := p
    cases q : g v τ h with
    | nx τ1 h1 =>
      rw [q] at p0
      exact fun ρ1 H1 σ1 x R1 s1 => ⟨ρ1, τ1, h1, vs, R1, s1, rr.mono x, PoS.from x p0⟩
    | exc w τ1 h1 => rw [q] at p0; exact p0
    | bad => rw [q] at p0; exact p0
    | rt w k => exact absurd q (pg.rt _ _ _ _ _)
    | bk w k => exact absurd q (pg.bk _ _ _ _ _)
    | ct w k => exact absurd q (pg.ct _ _ _ _ _)
theorem g_tup {k : Nat} {ts : List MG} {n : Nat} (hK : S.K = X.K) (hc : X.calm = true) (h : PGs X es (TGs' S W ts)) (hl : ts.length = n) (hn : (assignEach es X.env).length = n := by rfl) (hst : (assignEach es X.env).findIdx? (·.1) = none := by rfl) : PG X (.Tuple es k pos) (TG' S W (gTup ts)) := by
  refine PG.imp (pg_tup hc h hn hst) fun v' σ H Q ⟨ρ, τ, h, v, R, s, r, p⟩ => ?_
  cases r with
  | tup ha hv =>
    obtain ⟨c, p1⟩ : _ ∧ _ := by
      have p0 : PoS S W { nx := Q, rt := fun _ _ => False } ρ H ((Nat.beq _ ts.length).rec .bad (gSeq ts _ τ h)) := p
      cases z : Nat.beq _ ts.length with
      | false => rw [z] at p0; exact False.elim p0
      | true => rw [z] at p0; exact ⟨z, p0⟩
    have := Nat.eq_of_beq_eq_true c
    exact ⟨_, _, rfl, hK ▸ ha, by rw [← hv.length, this, hl], ρ, τ, h, _, R, s, hv, p1⟩
  | _ => exact False.elim p
theorem plain_seq {ts : List MG} (hp : ∀ g ∈ ts, Plain g) : ∀ vs τ h, (∀ w k, gSeq ts vs τ h ≠ .rt w k) ∧ (∀ w k, gSeq ts vs τ h ≠ .bk w k) ∧ (∀ w k, gSeq ts vs τ h ≠ .ct w k) := by
  induction ts with
  | nil =>
    intro vs τ h
    cases vs <;> exact ⟨fun _ _ z => (by cases z), fun _ _ z => (by cases z), fun _ _ z => (by cases z)⟩
  | cons g ts ih =>
    intro vs τ h
    cases vs with
    | nil => exact ⟨fun _ _ z => (by cases z), fun _ _ z => (by cases z), fun _ _ z => (by cases z)⟩
    | cons v vs =>
      have e : gSeq (g :: ts) (v :: vs) τ h = (g v τ h).go fun σ1 h1 => gSeq ts vs σ1 h1 := rfl
      rw [e]
      have pg := hp g List.mem_cons_self
      cases q : g v τ h with
      | nx τ1 h1 => exact ih (fun g m => hp g (List.mem_cons_of_mem _ m)) vs τ1 h1
      | rt w k => exact absurd q (pg.rt _ _ _ _ _)
      | bk w k => exact absurd q (pg.bk _ _ _ _ _)
      | ct w k => exact absurd q (pg.ct _ _ _ _ _)
      | exc w τ1 h1 => exact ⟨fun _ _ z => (by cases z), fun _ _ z => (by cases z), fun _ _ z => (by cases z)⟩
      | bad => exact ⟨fun _ _ z => (by cases z), fun _ _ z => (by cases z), fun _ _ z => (by cases z)⟩
theorem plain_tup {ts : List MG} (hp : ∀ g ∈ ts, Plain g) : Plain (gTup ts) := by
  have key : ∀ v τ h, (∀ w k, gTup ts v τ h ≠ .rt w k) ∧ (∀ w k, gTup ts v τ h ≠ .bk w k) ∧ (∀ w k, gTup ts v τ h ≠ .ct w k) := by
    intro v τ h
    cases v with
    | tup vs =>
      have e : gTup ts (.tup vs) τ h = (Nat.beq vs.length ts.length).rec .bad (gSeq ts vs τ h) := rfl
      rw [e]
      cases Nat.beq vs.length ts.length with
      | false => exact ⟨fun _ _ z => (by cases z), fun _ _ z => (by cases z), fun _ _ z => (by cases z)⟩
      | true => exact plain_seq hp vs τ h
    | _ => exact ⟨fun _ _ z => (by cases z), fun _ _ z => (by cases z), fun _ _ z => (by cases z)⟩
  exact ⟨fun v τ h => (key v τ h).1, fun v τ h => (key v τ h).2.1, fun v τ h => (key v τ h).2.2⟩
structure OwnS (S : Kit) (ts : List MG) (tg : TGs) (vs : List Nat) : Prop where
  run : ∀ (ρ : List Addr) (H : Hp) (h : EH) (τ : ES) (σ : St) (es : List EV) (ws : List V) (τ1 : ES) (h1 : EH) (Q : St → Hp → Prop), Rep S ρ h H → SR S ρ H τ σ → VRs S ρ H es ws → gSeq ts es τ h = .nx τ1 h1 →
    (∀ ρ' σ' H', Ext S ρ H ρ' H' → Rep S ρ' h1 H' → SR S ρ' H' τ1 σ' → wipe σ' vs = wipe σ vs → Q σ' H') → tg ws σ H Q
theorem own_nil {vs : List Nat} : OwnS S [] gNil vs where
  run := fun ρ H h τ σ es ws τ1 h1 Q R s r q k => by
    cases r with
    | nil => cases q; exact ⟨rfl, k ρ σ H .refl R s rfl⟩
    | cons _ _ => cases q
theorem own_cons {g : MG} {ts : List MG} {t : TG} {tg : TGs} {vs : List Nat} (o1 : Own S g t vs) (o2 : OwnS S ts tg vs) : OwnS S (g :: ts) (gCons t tg) vs where
  run := fun ρ H h τ σ es ws τ1 h1 Q R s r q k => by
    cases r with
    | nil => cases q
    | @cons e es v ws r rr =>
      have q0 : ((g e τ h).go fun σ1 h1 => gSeq ts es σ1 h1) = .nx τ1 h1 := q
      cases z : g e τ h with
      | nx τ2 h2 =>
        rw [z] at q0
        refine ⟨_, _, rfl, o1.run ρ H h τ σ e v τ2 h2 _ R s r z fun ρ2 σ2 H2 x2 R2 s2 w2 => ?_⟩
        exact o2.run ρ2 H2 h2 τ2 σ2 es ws τ1 h1 Q R2 s2 (rr.mono x2) q0 fun ρ3 σ3 H3 x3 R3 s3 w3 => k ρ3 σ3 H3 (x2.trans x3) R3 s3 (w3.trans w2)
      | _ => rw [z] at q0; cases q0
theorem own_tup {ts : List MG} {tg : TGs} {vs : List Nat} {n : Nat} (hl : ts.length = n) (o : OwnS S ts tg vs) : Own S (RT.gTup ts) (L2.gTup S.K n tg) vs where
  run := fun ρ H h τ σ e v τ1 h1 Q R s r q k => by
    cases r with
    | tup ha hv =>
      rename_i a ws es
      have q0 : ((Nat.beq es.length ts.length).rec .bad (gSeq ts es τ h) : OutS) = .nx τ1 h1 := q
      cases z : Nat.beq es.length ts.length with
      | false => rw [z] at q0; cases q0
      | true =>
        rw [z] at q0
        have := Nat.eq_of_beq_eq_true z
        exact ⟨_, _, rfl, ha, by rw [← hv.length, this, hl], o.run ρ H h τ σ es ws τ1 h1 Q R s hv q0 k⟩
    | _ => cases q
end
end RT
end
section
set_option Elab.async false
set_option linter.all false
set_option maxRecDepth 100000
set_option maxHeartbeats 2000000
/-! an own error over LookupError that keeps its place -/
namespace RT.Plc
open PySem PySem.W PySem.Calls PyProof.Rows
abbrev lkT : List Value := [.type "LookupError", .type "Exception", .type "BaseException", .type "object"]
def iA (p1 p2 : Pos) : Arguments := { posonlyargs := [], args := [{ arg := "self", annotation := none, pos := p1 }, { arg := "place", annotation := none, pos := p2 }], vararg := none, kwonlyargs := [], kw_defaults := [], kwarg := none, defaults := [] }
def iB (q1 q2 q3 q4 : Pos) : List Stmt := [.Assign [.Attribute (.Name "self" q1) "place" q2] (.Name "place" q3) q4]
def iS : Scope := { kind := .function, names := [(PySem.Str.ofString "self", .local), (PySem.Str.ofString "place", .local)], isGenerator := false, isCoroutine := false, more := [] }
/-- what stands written of the class and of its __init__ -/
structure Txt (K : Frag) (mg : Str → Option Value) (C fI : Addr) : Prop where
  gC : mg "NoPlace" = some (.ref C)
  cls : ∃ nm q N bs sn sub ab col dd k0 k1 k2 k3 k5, K.lookup C = some (excClassObj nm q C N bs lkT true sn sub ab col dd k0 k1 k2 k3 k5 "LookupError.__new__")
  sa : findIn K (.ref C) "__setattr__" = some (some (.builtin "object.__setattr__"))
  over : excOver K C lkT = true
  tkr : takerIn K C "place" = some none
  noN : findIn K (.ref C) "place" = some none
  xf : L2.XfC K C
  iC : findIn K (.ref C) "__init__" = some (some (.ref fI))
  tC : typeIn K (.ref fI) = some (.type "function")
  kC : keepIn K (.ref C) = true
  tyC : typeIn K (.ref C) = some (.type "type")
  fn : ∃ (oc : Value) (od : Option Addr) (kV doc pm : Value) (an : Option Addr) (cdv ct : Value) (osl : Array (Option Value)) (p1 p2 q1 q2 q3 q4 : Pos),
    K.lookup fI = some ⟨oc, od, .func (fnOf "__init__" "NoPlace.__init__" (iA p1 p2) (iB q1 q2 q3 q4) iS .none kV doc pm an cdv ct), osl⟩ ∧ codeIn K cdv "NoPlace.__init__" = true
theorem one1 (v : Value) : [v].length ≤ sizeLine := by
  rw [sizeLine_eq]
  exact (by decide : 1 ≤ 16777216)
/-- a local name's value -/
theorem ldL {M : Model} {s : Shared} {name : Str} {scope : Scope} {L a : Addr} {cd : Value} {m : Str → Option Value} {x : Str} {pos : Pos} {v : Value} {Q : Value → Shared → Prop} {A : Around} {E : Value → Shared → Prop} (ns : s.heap.Ns L m) (at' : m x = some v)
    (fun' : scope.kind = .function) (loc : (envOfC name scope L a cd).kindOf x = some .local) (nd : (x == ("__debug__" : Str)) = false) (goal : Q v s) : wpAny M A (eval (.Name x pos) (envOfC name scope L a cd)) Q E s :=
  wpAny_Name (wpAny_loadName_local fun' loc ns at' goal) nd
structure Ini (h h' : Heap) (x C dx t1 : Addr) (v : Value) : Prop where
  keep : ∀ b o, b ≠ x → h.get? b = some o → h'.get? b = some o
  obj : h'.get? x = some (excObj C t1 (some dx) .none)
  big : h.objs.size ≤ dx
  ne : dx ≠ x
  ns : h'.Ns1 dx (fun y => if y = "place" then some v else none)
structure Mde (h h' : Heap) (e C d : Addr) (v : Value) : Prop where
  keep : ∀ b o, h.get? b = some o → h'.get? b = some o
  new : h.objs.size ≤ e
  obj : ∃ t, h'.get? e = some (excObj C t (some d) .none)
  big : h.objs.size ≤ d
  ne : d ≠ e
  ns : h'.Ns1 d (fun y => if y = "place" then some v else none)
section
variable {prog : Program} {w : World} {A : Around} {R : Result → Shared → Prop} {s : Shared} {K : Frag} {mg : Str → Option Value} {C fI : Addr}
/-- the first field of a fresh one -/
theorem set1 (T : Txt K mg C fI) {x t : Addr} {tk : Tok} {v : Value} (X : K.In s.heap) (hx : s.heap.get? x = some (excObj C t none .none)) (hq : ∀ h' tk' dx, Ini s.heap h' x C dx t v → R (.ok (.ret .none)) { s with heap := h', toks := tk' }) :
    codeAny (model prog w) A (.call (.builtin "object.__setattr__") ⟨[.ref x, .str "place" tk, v], []⟩) R s := by
  refine osa_openX (od := none) PySem.F.store_LookupError X ⟨hx, rfl, rfl, trivial⟩ T.over T.tkr fun b => ?_
  obtain ⟨cd, hc, hd⟩ := any_some T.xf.hdC
  have old : x < s.heap.objs.size := Heap.lt_size hx
  have xd : x ≠ s.heap.objs.size := Nat.ne_of_lt old
  refine wpAny_bind (wpAny_pure (wpAny_bind (instanceDict_exc hx (looks_clsIn X hc) hd ?_)))
  show wpAny _ _ (Builtin.ObjectAttr.storeInDict s.heap.objs.size (.str "place" tk) "place" v) _ _ _
  obtain ⟨hp, g, d, tk0, os⟩ := s
  have up := Heap.get?_push_of_some (h := hp) (PySem.W.dictOf [] 0) hx
  refine PySem.HandSPX.store_in_new ⟨_, #[], 0, (Heap.get?_update_other _ _ xd).trans (Heap.get?_push_size _ rfl), rfl, fun e he => absurd he (by simp), fun _ => rfl⟩ fun h' tk' ns sb => ?_
  refine hq h' tk' hp.objs.size ⟨fun b o nb e => ?_, ?_, Nat.le_refl _, xd.symm, ns⟩
  · exact (sb.2 b (Nat.ne_of_lt (Heap.lt_size e))).trans ((Heap.get?_update_other _ _ (Ne.symm nb)).trans (Heap.get?_push_of_some _ e))
  · exact (sb.2 x xd).trans (Heap.get?_update_self _ up rfl)
theorem init (T : Txt K mg C fI) {x t : Addr} {v : Value} (X : K.In s.heap) (lim : s.heap.NoLimit) (hx : s.heap.get? x = some (excObj C t none .none)) (room : A.depth < recursionLimit)
    (hq : ∀ h' tk dx, Ini s.heap h' x C dx t v → R (.ok (.ret .none)) { s with heap := h', toks := tk }) : codeAny (model prog w) A (.call (.ref fI) ⟨[.ref x, v], []⟩) R s := by
  obtain ⟨oc, od, kV, doc, pm, an, cdv, ct, osl, p1, p2, q1, q2, q3, q4, ho, hcd⟩ := T.fn
  refine Att.call_fn (binds := [("self", .ref x), ("place", v)]) X lim ho hcd room (BindsTo.of_eq (by first | rfl | with_unfolding_all rfl)) (by first | rfl | decide | with_unfolding_all rfl) (fun s₁ IC => ?_) rfl rfl rfl
  obtain ⟨h₁, tk₁, rfl⟩ := IC.toInCall.same
  have k := IC.toInCall.keep
  have ns := IC.toInCall.ns
  have X₁ : K.In h₁ := X.keeps k
  show wpAny _ _ (execs _ _) _ _ _
  refine wpAny_execs_cons (plainObj_wpAny_Assign_Attribute ?_)
  refine ldL (v := v) ns (by first | rfl | with_unfolding_all rfl | kernel_rfl) rfl rfl (by decide) (ldL (v := .ref x) ns (by first | rfl | with_unfolding_all rfl | kernel_rfl) rfl rfl (by decide) ?_)
  refine set_plain X₁ (ox := excObj C t none .none) (od := none) ⟨k _ _ hx, rfl, rfl, trivial⟩ T.sa ?_
  refine set1 (s := { s with heap := h₁, toks := tk₁ + 1 }) T X₁ (k _ _ hx) fun h3 tk3 dx I => ?_
  show wpAny _ _ (execs _ _) _ _ _
  have grown : s.heap.objs.size < h₁.objs.size := ns.lt
  exact wpAny_execs_nil (hq h3 tk3 dx ⟨fun b o nb e => I.keep b o nb (k b o e), I.obj, Nat.le_of_lt (Nat.lt_of_lt_of_le grown I.big), I.ne, I.ns⟩)
theorem made (T : Txt K mg C fI) {v : Value} (X : K.In s.heap) (lim : s.heap.NoLimit) (room : A.depth + 1 < recursionLimit) (hq : ∀ h' tk e d, Mde s.heap h' e C d v → R (.ok (.ret (.ref e))) { s with heap := h', toks := tk }) :
    codeAny (model prog w) A (.call (.ref C) ⟨[v], []⟩) R s := by
  obtain ⟨nm, q, N, bs, sn, sub, ab, col, dd, k0, k1, k2, k3, k5, hC⟩ := T.cls
  obtain ⟨hp, g, dr, tk, os⟩ := s
  have k : ∀ b o, hp.get? b = some o → ((hp.push (kdv_tup [v])).push (excObj C hp.objs.size none .none)).get? b = some o := fun b o e => Heap.get?_push_of_some _ (Heap.get?_push_of_some _ e)
  have here : ((hp.push (kdv_tup [v])).push (excObj C hp.objs.size none .none)).get? (hp.objs.size + 1) = some (excObj C hp.objs.size none .none) := by heap_get
  refine PySem.HandSPX.call_own PySem.F.excBase_LookupError (fun _ => rfl) (X _ _ hC) (looks_findIn X T.iC) (fun self => bind_fn X self T.tC) (one1 v) ?_
  refine init (s := ⟨(hp.push (kdv_tup [v])).push (excObj C hp.objs.size none .none), g, dr, tk, os⟩) T (X.keeps k) (lim.keeps k) here ?_ fun h' tk' dx I => ?_
  · show A.depth + 1 < recursionLimit
    exact room
  · have wide : hp.objs.size + 1 + 1 ≤ dx := by
      have z := I.big
      rw [Heap.size_push, Heap.size_push] at z
      exact z
    exact ⟨rfl, hq h' tk' (hp.objs.size + 1) dx ⟨fun b o e => I.keep b o (Nat.ne_of_lt (Nat.lt_succ_of_lt (Heap.lt_size e))) (k b o e), Nat.le_succ _, ⟨_, I.obj⟩, Nat.le_trans (Nat.le_trans (Nat.le_succ _) (Nat.le_succ _)) wide, I.ne, I.ns⟩⟩
end
end RT.Plc
namespace RT
open PySem PySem.Spec PyProof.Rows L2
theorem relO_one {f : Str} {v : V} {u : Value} (r : RelV v u) (y : Str) : RelO (List.lookup y [(f, v)]) (if y = f then some u else none) := by
  by_cases e : y = f
  · subst e
    rw [if_pos rfl]
    have q : List.lookup y [(y, v)] = some v := by simp [List.lookup]
    rw [q]; exact r
  · rw [if_neg e]
    have b : (y == f) = false := by simpa using e
    have q : List.lookup y [(f, v)] = none := by simp [List.lookup, b]
    rw [q]; trivial
section
variable {X : Cx} {C fI : Addr}
def tMkP (C : Addr) (ta : TA) : L2.St → Hp → XK → Prop := fun σ H Q => ta σ H fun vs H1 => ∃ v, vs = [v] ∧ ∀ d, H1 d = none → Q (.ref C) (some d) (upd H1 d (.xd [(("place" : Str), v)]))
theorem pmk_plc {a : Expr} {ta : TA} {p pos : Pos} {k : Nat} (T : Plc.Txt X.K X.mg C fI) (hr : Room k X.A) (ha : PA X [a] ta) (hg : Gl X "NoPlace") (he : starEach (a :: []) X.env = (false, eval a X.env) :: starEach [] X.env := by rfl) (hpl : (backTo pos (starEach [] X.env)).any (·.1) = false := by rfl) :
    PMk X (.Call (.Name "NoPlace" p) [a] [] pos) (tMkP C ta) := by
  intro pins s σ H Q I h
  refine wpAny_Call_Name_kw (ld_glob I hg T.gC ?_)
  refine PySem.W.callWith_K (h₀ := X.base) I.ok.mod.kin T.kC (thn (ha.run pos pins s σ H _ I h) fun us s1 hh => ?_) he hpl
  obtain ⟨vs, H1, I1, r1, v, ev, q1⟩ := hh
  subst ev
  refine ⟨I1.kIn, ?_⟩
  obtain ⟨u, rfl, rv⟩ := vals1 r1
  show wpAny _ _ (call (.ref C) [u]) _ _ _
  have lim := I1.nolimit
  obtain ⟨hp, g, dr, tk, os⟩ := s1
  refine wpAny_call (Plc.made T I1.kIn lim (by have := hr.dp; omega) fun h' tk' e d M => ?_)
  show MkP X pins σ Q (.ref e) ⟨h', g, dr, tk', os⟩
  obtain ⟨t, hoe⟩ := M.obj
  -- the ground: all but the error itself
  obtain ⟨G, g1, g2⟩ := restrict h' fun b => decide (b ≠ e)
  have gk : ∀ b, b ≠ e → G.get? b = h'.get? b := fun b hb => g1 b (decide_eq_true hb)
  have ge : G.get? e = none := g2 e (by simp)
  have nd : H1 d = none := I1.hok.fresh M.big
  have J : Inv X pins σ (upd H1 d (.xd [(("place" : Str), v)])) ⟨G, g, dr, tk', os⟩ :=
    I1.laid (t' := tk') (fun b o q => (gk b (Nat.ne_of_lt (Nat.lt_of_lt_of_le (Heap.lt_size q) M.new))).trans (M.keep b o q)) M.big
      ⟨_, M.ns.at (fun o q => (gk d M.ne).trans q), relO_one rv⟩
  refine ⟨e, _, _, ⟨G, g, dr, tk', os⟩, _, .ref C, some d, rfl, J, fun b o q => ?_, ge, hoe, ⟨rfl, rfl⟩, rfl, rfl, ?_, rfl, I1.bare, raises_own T.xf.exC T.tyC, q1 d nd⟩
  · have nb : b ≠ e := fun z => by
      have q' : G.get? b = some o := q
      rw [z, ge] at q'; cases q'
    exact (gk b nb).symm.trans q
  · rw [upd_ne (Ne.symm M.ne)]
    exact I1.hok.fresh M.new
end
end RT
end
section
set_option Elab.async false
set_option linter.all false
set_option maxRecDepth 100000
set_option maxHeartbeats 2000000
namespace RT
open PySem PySem.Spec PyProof.Rows L2
section
variable {X : Cx} {C fI : Addr}
/-- an own error without a field, made without anything -/
theorem pmk_bare {bmB : List Value} {B newId initId : String} {x : Str} {p pos : Pos} (F : ExcBaseFacts B newId initId bmB) (q : PySem.W.excIn X.K C bmB newId = true) (gC : X.mg x = some (.ref C)) (kC : PySem.W.keepIn X.K (.ref C) = true) (r : Raises X (.ref C)) (hg : Gl X x)
    (hdb : (x == ("__debug__" : Str)) = false := by decide) : PMk X (.Call (.Name x p) [] [] pos) (fun _ H Q => Q (.ref C) none H) := by
  intro pins s σ H Q I h
  refine wpAny_Call_Name_kw (ld_glob I hg gC (PySem.W.callWith_K0 I.kIn kC ?_) hdb)
  show wpAny _ _ (call (.ref C) []) _ _ _
  obtain ⟨bm, N, nm, qn, bs, hdct, sn, sub, ab, col, dd, k0, k1, k2, k3, k5, mN, hC, hN, hni, T⟩ := exc_obj I.kIn q
  refine wpAny_call_exc_subT F T hC hN hni (fun h' e hm => ?_) (Nat.zero_le _)
  exact mk_of I hm r h (I.hok.gone hm.new)
variable {S : Kit} {W : WX} {p pos pos2 : Pos} {a : Expr} {ml : ML} {c k : Nat}
theorem s_rz1 (hc : X.calm = true) (hca : S.ca c = some (C, [("place" : Str)])) (T : Plc.Txt X.K X.mg C fI) (hr : Room k X.A) (tk : Takes X W) (hg : Gl X "NoPlace") (ha : PA X [a] (TL S W ml)) (he : starEach (a :: []) X.env = (false, eval a X.env) :: starEach [] X.env := by rfl) (hpl : (backTo pos (starEach [] X.env)).any (·.1) = false := by rfl) :
    PS X (.Raise (some (.Call (.Name "NoPlace" p) [a] [] pos)) none pos2) (TS' S W (sRz1 c ml)) := by
  refine PS.imp (ps_raise hc tk (pmk_plc T hr ha hg he hpl)) fun D σ H ⟨ρ, τ, h, R, s, p⟩ => ⟨ρ, τ, h, R, s, PoL.imp (PoS.thenL s (o := ml τ h) p) ?_⟩
  rintro x' H1 ⟨ρ1, h1, x, e1, R1, r1, p1⟩
  cases r1 with
  | nil => exact False.elim p1
  | cons r1 rr =>
    cases rr with
    | cons _ _ => exact False.elim p1
    | nil =>
      rename_i y
      refine ⟨_, rfl, fun d hd => ?_⟩
      have x0 : Ext S ρ1 H1 ρ1 (upd H1 d (.xd [(("place" : Str), y)])) := Ext.new0 hd
      exact p1 ρ1 _ σ _ _ x0 (R1.laid hd) ((s.mono e1).mono x0) (.mk1 hca upd_same (r1.mono x0))
theorem s_rz0 {bmB : List Value} {B newId initId : String} {x : Str} (hc : X.calm = true) (hca : S.ca c = some (C, [])) (F : ExcBaseFacts B newId initId bmB) (q : PySem.W.excIn X.K C bmB newId = true) (gC : X.mg x = some (.ref C)) (kC : PySem.W.keepIn X.K (.ref C) = true) (r : Raises X (.ref C)) (tk : Takes X W) (hg : Gl X x)
    (hdb : (x == ("__debug__" : Str)) = false := by decide) : PS X (.Raise (some (.Call (.Name x p) [] [] pos)) none pos2) (TS' S W (sRz0 c)) := by
  refine PS.imp (ps_raise hc tk (pmk_bare F q gC kC r hg hdb)) fun D σ H ⟨ρ, τ, h, R, s, p⟩ => ?_
  exact p ρ H σ _ _ .refl R s (.mk0 hca)
end
/-! ### several clauses, with and without names -/
/-- the ends of a suite whose error's name stands in slot i -/
def un (D : Ends) (i : Nat) : Ends := { nx := fun σ H => D.nx (σ.set i none) H, rt := D.rt, bk := fun σ H => D.bk (σ.set i none) H, ct := fun σ H => D.ct (σ.set i none) H }
abbrev Clause := Value × Option Nat × (Addr → Value → Option Addr → TS)
/-- a suite's wish -/
def inSuite (o : Option Nat) (t : TS) (a : Addr) (D : Ends) (σ : St) (H : Hp) : Prop := match o with
  | none => t D σ H
  | some i => t (un D i) (σ.set i (some (.ref a))) H
def wCl (K : PySem.W.Frag) (Wout : WX) (D : Ends) : List Clause → WX
  | [] => Wout
  | (c, o, ts) :: r => fun cls d σ H => ∃ b, PySem.W.exmOne K cls c = some b ∧ (b = true → ∀ a, H a = none → inSuite o (ts a cls d) a D σ H) ∧ (b = false → wCl K Wout D r cls d σ H)
/-- the clause's name -/
def NmOk (X : Cx) (n : Option Str) (o : Option Nat) : Prop := (n = none ∧ o = none) ∨ ∃ m i, n = some m ∧ o = some i ∧ X.N[i]? = some m ∧ X.env.kindOf m = some .local
inductive ClsOk (X : Cx) : List ExceptHandler → List Clause → Prop
  | nil : ClsOk X [] []
  | cons {x : Str} {n : Option Str} {o : Option Nat} {c : Value} {ts : Addr → Value → Option Addr → TS} {b : Stmt} {bs : List Stmt} {np hp : Pos} {hds : List ExceptHandler} {l : List Clause} (nm : NmOk X n o) (hc : Names X x c)
      (su : ∀ (a : Addr) (oe : Obj) (cls : Value) (d : Option Addr) (pn : List (Addr × Obj)), Zc cls d oe → (∃ vs, oe.data = .fields vs) → PSs (X.suite a ((a, oe) :: pn)) (b :: bs) (ts a cls d)) (r : ClsOk X hds l) :
      ClsOk X (.ExceptHandler (some (.Name x np)) n (b :: bs) hp :: hds) ((c, o, ts) :: l)
section
variable {X : Cx} {body : List Stmt} {h₀ : ExceptHandler} {hds : List ExceptHandler} {l : List Clause} {pos : Pos} {tb : WX → TS} {Wout : WX}
theorem ps_tryC (hs : X.stack = X.env :: X.outer) (hf : X.env.frame = some X.env.locals) (hN : X.N.Nodup) (tk : Takes X Wout)
    (hb : ∀ (W : WX) (pn : List (Addr × Obj)) (xe : Value → Shared → Prop), Takes (X.tr pn xe) W → PassesOwn (model X.prog X.w) X.A X.env xe → PSs (X.tr pn xe) body (tb W))
    (hh : ClsOk X (h₀ :: hds) l) : PS X (.Try body (h₀ :: hds) [] [] pos) (fun D σ H => tb (wCl X.K Wout D l) D σ H) := by
  refine ⟨fun pins s σ H D I h => wpAny_Try_except ?_⟩
  have ok := I.ok
  have fr : X.A.frames = some (X.env :: X.outer) := ok.frames.trans (congrArg some hs)
  -- the body, and behind it, where it lets nothing out
  have done : ∀ {f : Flow} {s1 : Shared}, SP (X.tr (X.pn ++ pins) (fun e s₁ => wpAny (model X.prog X.w) X.A (noteFrame e X.env) (fun _ s₂ => wpAny (model X.prog X.w) X.A (setFlight e none) (fun _ s₃ => wpAny (model X.prog X.w) X.A (handleBy e X.env (h₀ :: hds)) (SP X pins D) X.xe s₃) X.xe s₂) X.xe s₁)) [] D f s1 →
      (match f with | .next => ∃ σ' H', Inv X pins σ' H' s1 ∧ D.nx σ' H' | g => SP X pins D g s1) := by
    intro f s1 z
    cases f with
    | ret u => obtain ⟨v, σ1, H1, J, r, q⟩ := z; exact ⟨v, σ1, H1, J.ofTry ok, r, q⟩
    | next => obtain ⟨σ1, H1, J, q⟩ := z; exact ⟨σ1, H1, J.ofTry ok, q⟩
    | brk => obtain ⟨σ1, H1, J, q⟩ := z; exact ⟨σ1, H1, J.ofTry ok, q⟩
    | cont => obtain ⟨σ1, H1, J, q⟩ := z; exact ⟨σ1, H1, J.ofTry ok, q⟩
  refine wpAny_mono ((hb (wCl X.K Wout D l) (X.pn ++ pins) _ (fun u s' air => ?_) PassesOwn.looking).run [] s σ H D (I.toTry _) h) (fun f s1 z => ?_) (fun e s1 z => z)
  · obtain ⟨a, B, sI, pins1, σ1, H1, cls, d, rfl, J0, keepB, upS, sky0, na, eos, bare, wish⟩ := air
    have J : Inv X pins σ1 H1 sI := J0.ofTry ok
    show wpAny (model X.prog X.w) X.A (noteFrame (.ref a) X.env) _ _ _
    refine Sky.land Zc.steady fr hf (show Sky B (X.env :: X.outer) a (Zc cls d) X.env.locals s'.heap by rw [← hs]; exact sky0) fun g fly up1 => ?_
    -- the error's object, apart from the frames
    have apart : ∀ {g : Heap}, HandSPX.FlyingZ B (X.env :: X.outer) a (Zc cls d) g → ∃ oe vs, g.get? a = some oe ∧ Zc cls d oe ∧ oe.data = .fields vs ∧ a ≠ X.env.locals ∧ a ∉ X.fs := by
      intro g fl
      obtain ⟨oe, vs, e1, e2, e3⟩ := fl.there
      have out : a ∉ frs (X.env :: X.outer) := fun m => by
        obtain ⟨_, o, e4, no⟩ := fl.2.2.1.mem m
        rw [e1] at e4; cases e4
        exact no _ e3
      refine ⟨oe, vs, e1, e2, e3, fun z => out (List.mem_filterMap.mpr ⟨X.env, List.mem_cons_self, by rw [hf, z]⟩), fun m => ?_⟩
      obtain ⟨e, m1, m2⟩ := List.mem_filterMap.mp m
      exact out (List.mem_filterMap.mpr ⟨e, List.mem_cons_of_mem _ m1, m2⟩)
    have back : ∀ {g : Heap}, HandSPX.FlyingZ B (X.env :: X.outer) a (Zc cls d) g → sI.heap.UpToSlots g → Inv X pins σ1 H1 { s' with heap := g } := fun fl up => J.landed keepB fl.1 up eos bare
    have I1 := back fly (upS.trans up1)
    obtain ⟨oe, vs, e1, e2, e3, nL, nF⟩ := apart fly
    have S1 := I1.suite e1 e3 na nL nF
    -- clause by clause
    suffices go : ∀ {hs' : List ExceptHandler} {l' : List Clause}, ClsOk X hs' l' → wCl X.K Wout D l' cls d σ1 H1 → wpAny (model X.prog X.w) X.A (handleBy (.ref a) X.env hs') (SP X pins D) X.xe { s' with heap := g } from go hh wish
    intro hs' l' ck
    induction ck with
    | nil =>
      intro wish
      refine wpAny_handleBy_nil ?_
      obtain ⟨_, _, _, o, ws, T, oT, us, f1, f2, f3, f4, _⟩ := id fly
      have up : wpAny (model X.prog X.w) X.A (setFlight (.ref a) X.env.frame) (fun _ s4 => wpAny (model X.prog X.w) X.A (throw (.ref a) : Sem Flow) (SP X pins D) X.xe s4) X.xe { s' with heap := g } := by
        rw [hf]
        exact HandSPX.setFlight_upZ fly fun g2 held up2 => wpAny_throw (tk _ _ ⟨a, B, sI, pins, σ1, H1, cls, d, rfl, J, keepB, (upS.trans up1).trans up2, .inr (.inr (by rw [hs]; exact held)), na, eos, bare, wish⟩)
      unfold PySem.passOn
      refine wpAny_bind (wpAny_field f1 f3 f4 ?_)
      rw [if_neg (show ¬ ((Value.ref T == Value.none) = true) from by simp)]
      first
        | exact wpAny_bind up
        | exact wpAny_bind (wpAny_pure (wpAny_bind up))
    | @cons x n o c ts b bs np hp hds2 l2 nm hc su r ih =>
      intro wish
      obtain ⟨k, known, yes, no⟩ := wish
      refine wpAny_handleBy_cons (codeAny_handlers_test ?_) (by intro z; cases z)
      have ty : PySem.W.Looks (model X.prog X.w) g (typeOf (.ref a)) cls := fun _ _ _ _ st z => wpAny_typeOf_ref (st _ _ e1) (by rw [e2.1]; exact z)
      have ask := PySem.W.exm_one (M := model X.prog X.w) I1.kIn ty known
      have name : ∀ {Q : Value → Shared → Prop} {E : Value → Shared → Prop}, Q c { s' with heap := g } → wpAny (model X.prog X.w) (X.A.mark (some (.ref a))) (eval (.Name x np) X.env) Q E { s' with heap := g } := by
        intro Q E z
        obtain ⟨g1, g2, g3 | ⟨g3, g4, g5⟩⟩ := hc
        · exact ld_glob (X := X.suite a ((a, oe) :: (X.pn ++ pins))) S1 g1 g3 z g2
        · exact ld_blt (X := X.suite a ((a, oe) :: (X.pn ++ pins))) S1 g1 g3 g4 z g5 g2
      refine name (ask.here ?_)
      cases k with
      | false => exact ih (no rfl)
      | true =>
        have wish := yes rfl a na
        rcases nm with ⟨rfl, rfl⟩ | ⟨m, i, rfl, rfl, hi, hl⟩
        · refine codeAny_handlers_suite (HandSPX.lands_againZ fly fun g2 fly2 up2 => ?_)
          have I2 := back fly2 ((upS.trans up1).trans up2)
          obtain ⟨oe2, vs2, q1, q2, q3, qL, qF⟩ := apart fly2
          refine wpAny_mono ((su a oe2 cls d (X.pn ++ pins) q2 ⟨_, q3⟩).run [] _ _ H1 _ (I2.suite q1 q3 na qL qF) wish) (fun f s6 z => ?_) (fun _ _ z => False.elim z)
          cases f with
          | ret u => obtain ⟨v, σ6, H6, J6, r6, q6⟩ := z; exact ⟨v, σ6, H6, J6.unsuite ok, r6, q6⟩
          | next => obtain ⟨σ6, H6, J6, q6⟩ := z; exact ⟨σ6, H6, J6.unsuite ok, q6⟩
          | brk => obtain ⟨σ6, H6, J6, q6⟩ := z; exact ⟨σ6, H6, J6.unsuite ok, q6⟩
          | cont => obtain ⟨σ6, H6, J6, q6⟩ := z; exact ⟨σ6, H6, J6.unsuite ok, q6⟩
        · refine codeAny_handlers_suite_as (HandSPX.lands_againZ fly fun g2 fly2 up2 => ?_)
          have I2 := back fly2 ((upS.trans up1).trans up2)
          obtain ⟨oe2, vs2, q1, q2, q3, qL, qF⟩ := apart fly2
          refine store_ok (X := X.suite a ((a, oe2) :: (X.pn ++ pins))) (v := .ref a) (I2.suite q1 q3 na qL qF) hN hi (.inl hl) rfl (fun s5 I5 => ?_) (.inr hl)
          refine wpAny_mono ((su a oe2 cls d (X.pn ++ pins) q2 ⟨_, q3⟩).run [] s5 _ H1 _ I5 wish) (fun f s6 z => ?_) (fun _ _ z => False.elim z)
          have gone : ∀ {σ6 : St} {H6 : Hp} {Q : Shared → Prop}, Inv (X.suite a ((a, oe2) :: (X.pn ++ pins))) [] σ6 H6 s6 → (∀ s7, Inv X pins (σ6.set i none) H6 s7 → Q s7) → wpAny (model X.prog X.w) X.A (do bindName X.env m .none; unbindBehindTheSuite X.env m hp) (fun _ s7 => Q s7) X.xe s6 :=
            fun J6 k => gone_ok (J6.unsuite ok) hN hi hl k
          cases f with
          | ret u => obtain ⟨v, σ6, H6, J6, r6, q6⟩ := z; exact gone J6 fun s7 J7 => ⟨v, _, H6, J7, r6, q6⟩
          | next => obtain ⟨σ6, H6, J6, q6⟩ := z; exact gone J6 fun s7 J7 => ⟨_, H6, J7, q6⟩
          | brk => obtain ⟨σ6, H6, J6, q6⟩ := z; exact gone J6 fun s7 J7 => ⟨_, H6, J7, q6⟩
          | cont => obtain ⟨σ6, H6, J6, q6⟩ := z; exact gone J6 fun s7 J7 => ⟨_, H6, J7, q6⟩
  · have y := done z
    cases f with
    | next => exact wpAny_execs_nil y
    | ret u => exact y
    | brk => exact y
    | cont => exact y
end
end RT
end
section
set_option Elab.async false
set_option linter.all false
set_option maxRecDepth 100000
set_option maxHeartbeats 2000000
namespace RT
open PySem PySem.Spec PyProof.Rows L2
/-! ### the kit of a suite: what the error holds, where its name stands -/
section
variable {S S' : Kit} {ρ : List Addr} {H : Hp}
mutual
theorem VR.re (hK : S.K = S'.K) (hf : S.fa = S'.fa) (hc : S.ca = S'.ca) : ∀ {e : EV} {v : V}, VR S ρ H e v → VR S' ρ H e v
  | _, _, .non => .non
  | _, _, .bl b => .bl b
  | _, _, .int i => .int i
  | _, _, .str l => .str l
  | _, _, .tup h r => .tup (hK ▸ h) (VRs.re hK hf hc r)
  | _, _, .ref h => .ref h
  | _, _, .fn h => .fn (hf ▸ h)
  | _, _, .ty h => .ty h
  | _, _, .cls h => .cls (hc ▸ h)
  | _, _, .opq v => .opq v
theorem VRs.re (hK : S.K = S'.K) (hf : S.fa = S'.fa) (hc : S.ca = S'.ca) : ∀ {e : List EV} {v : List V}, VRs S ρ H e v → VRs S' ρ H e v
  | _, _, .nil => .nil
  | _, _, .cons h r => .cons (VR.re hK hf hc h) (VRs.re hK hf hc r)
end
theorem ER.mono {ρ' : List Addr} {H' : Hp} {e : EV} {c : Value} {d : Option Addr} (x : Le S ρ H ρ' H') (hx : ∀ a fs, H a = some (.xd fs) → H' a = some (.xd fs)) (h : ER S ρ H e c d) : ER S ρ' H' e c d := by
  cases h with
  | mk0 h => exact .mk0 h
  | mk1 h e r => exact .mk1 h (hx _ _ e) (r.monoL x)
end
/-- v: the error, by the small machine; cls, d: its class, its dict; o: where its name stands, which holds a -/
def Hk (S : Kit) (v : EV) (cls : Value) (d : Option Addr) (a : Addr) (o : Option Nat) : Kit where
  K := S.K
  fa := S.fa
  ca := S.ca
  tb := S.tb
  inv := fun ρ H => S.inv ρ H ∧ ER S ρ H v cls d
  sl := fun σ => S.sl σ ∧ ∀ i, o = some i → σ[i]? = some (some (.ref a))
  fr := fun j => S.fr j && decide (o ≠ some j)
  cl := fun σ i u hf hs => by
    rw [Bool.and_eq_true] at hf
    have ne := of_decide_eq_true hf.2
    refine ⟨S.cl σ i u hf.1 hs.1, fun j e => ?_⟩
    rw [List.getElem?_set_ne (fun z : i = j => ne (by rw [z]; exact e))]
    exact hs.2 j e
  mon := fun ρ H ρ' H' h p t x => ⟨S.mon ρ H ρ' H' h.1 p t x, h.2.mono ⟨t, p⟩ x⟩
section
variable {S : Kit} {v : EV} {cls : Value} {d : Option Addr} {a : Addr} {o : Option Nat} {ρ ρ' : List Addr} {H H' : Hp} {h : EH} {τ : ES} {σ : St}
theorem le_out (x : Le (Hk S v cls d a o) ρ H ρ' H') : Le S ρ H ρ' H' := ⟨x.tup, x.pre⟩
theorem le_in (x : Le S ρ H ρ' H') : Le (Hk S v cls d a o) ρ H ρ' H' := ⟨x.tup, x.pre⟩
theorem ext_out (x : Ext (Hk S v cls d a o) ρ H ρ' H') : Ext S ρ H ρ' H' := ⟨le_out x.toLe, x.keep⟩
theorem rep_out (R : Rep (Hk S v cls d a o) ρ h H) : Rep S ρ h H := ⟨R.nd, R.len, R.there, R.tab, R.inv.1, fun i o e => by
  obtain ⟨b, p, h1, h2, h3⟩ := R.obj i o e
  refine ⟨b, p, h1, h2, ?_⟩
  cases h3 with
  | lst r => exact .lst (VRs.re (S := Hk S v cls d a _) (S' := S) rfl rfl rfl r)⟩
theorem rep_in (R : Rep S ρ h H) (e : ER S ρ H v cls d) : Rep (Hk S v cls d a o) ρ h H := ⟨R.nd, R.len, R.there, R.tab, ⟨R.inv, e⟩, fun i o e => by
  obtain ⟨b, p, h1, h2, h3⟩ := R.obj i o e
  refine ⟨b, p, h1, h2, ?_⟩
  cases h3 with
  | lst r => exact .lst (VRs.re (S := S) (S' := Hk S v cls d a _) rfl rfl rfl r)⟩
theorem sr_out (s : SR (Hk S v cls d a o) ρ H τ σ) : SR S ρ H τ σ := ⟨s.len, s.sl.1, fun i e h => by
  obtain ⟨w, h1, h2⟩ := s.at' i e h
  exact ⟨w, h1, VR.re (S := Hk S v cls d a o) (S' := S) rfl rfl rfl h2⟩⟩
theorem sr_in0 (s : SR S ρ H τ σ) : SR (Hk S v cls d a none) ρ H τ σ := ⟨s.len, ⟨s.sl, fun _ e => nomatch e⟩, fun i e h => by
  obtain ⟨w, h1, h2⟩ := s.at' i e h
  exact ⟨w, h1, VR.re (S := S) (S' := Hk S v cls d a none) rfl rfl rfl h2⟩⟩
theorem sr_in1 {i : Nat} (s : SR S ρ H τ σ) (hf : S.fr i = true) (hi : i < τ.length) : SR (Hk S v cls d a (some i)) ρ H (setN τ none i) (σ.set i (some (.ref a))) := by
  rw [setN_eq]
  refine ⟨by rw [List.length_set, List.length_set]; exact s.len, ⟨S.cl _ _ _ hf s.sl, fun j e => ?_⟩, fun j e h => ?_⟩
  · cases e
    exact List.getElem?_set_self (by rw [← s.len]; exact hi)
  · by_cases q : i = j
    · subst q
      rw [List.getElem?_set_self hi] at h; cases h
    · rw [List.getElem?_set_ne q] at h
      obtain ⟨w, h1, h2⟩ := s.at' j e h
      exact ⟨w, by rw [List.getElem?_set_ne q]; exact h1, VR.re (S := S) (S' := Hk S v cls d a (some i)) rfl rfl rfl h2⟩
theorem sr_unset {i : Nat} (s : SR S ρ H τ σ) (hf : S.fr i = true) : SR S ρ H (setN τ none i) (σ.set i none) := by
  rw [setN_eq]
  refine ⟨by rw [List.length_set, List.length_set]; exact s.len, S.cl _ _ _ hf s.sl, fun j e h => ?_⟩
  by_cases q : i = j
  · subst q
    by_cases l : i < τ.length
    · rw [List.getElem?_set_self l] at h; cases h
    · rw [List.getElem?_eq_none (by simpa using l)] at h; cases h
  · rw [List.getElem?_set_ne q] at h
    obtain ⟨w, h1, h2⟩ := s.at' j e h
    exact ⟨w, by rw [List.getElem?_set_ne q]; exact h1, h2⟩
variable {Wout : WX} {D : Ends} {out : OutS}
theorem suite0 (p : PoS S Wout D ρ H (noX out)) (x : Ext S ρ H ρ' H') : PoS (Hk S v cls d a none) W0 D ρ' H' out := by
  cases out with
  | nx s k => exact fun r H2 σ2 e R t => p r H2 σ2 (x.trans (ext_out e)) (rep_out R) (sr_out t)
  | bk s k => exact fun r H2 σ2 e R t => p r H2 σ2 (x.trans (ext_out e)) (rep_out R) (sr_out t)
  | ct s k => exact fun r H2 σ2 e R t => p r H2 σ2 (x.trans (ext_out e)) (rep_out R) (sr_out t)
  | rt u k => exact fun r H2 w e R t => p r H2 w (x.trans (ext_out e)) (rep_out R) (VR.re (S := Hk S v cls d a none) (S' := S) rfl rfl rfl t)
  | exc u s k => exact False.elim p
  | bad => exact False.elim p
theorem suite1 {i : Nat} (hf : S.fr i = true) (p : PoS S Wout D ρ H (unS out i)) (x : Ext S ρ H ρ' H') : PoS (Hk S v cls d a (some i)) W0 (un D i) ρ' H' out := by
  cases out with
  | nx s k => exact fun r H2 σ2 e R t => p r H2 _ (x.trans (ext_out e)) (rep_out R) (sr_unset (sr_out t) hf)
  | bk s k => exact fun r H2 σ2 e R t => p r H2 _ (x.trans (ext_out e)) (rep_out R) (sr_unset (sr_out t) hf)
  | ct s k => exact fun r H2 σ2 e R t => p r H2 _ (x.trans (ext_out e)) (rep_out R) (sr_unset (sr_out t) hf)
  | rt u k => exact fun r H2 w e R t => p r H2 w (x.trans (ext_out e)) (rep_out R) (VR.re (S := Hk S v cls d a (some i)) (S' := S) rfl rfl rfl t)
  | exc u s k => exact False.elim p
  | bad => exact False.elim p
end
/-- a clause's suite: k: the class by its number -/
def tsM (S : Kit) (k : Nat) (o : Option Nat) (ms : EV → MS) : Addr → Value → Option Addr → TS := fun a cls d D σ H => ∃ as, TS' (Hk S (.exc k as) cls d a o) W0 (ms (.exc k as)) D σ H
abbrev Cm := Nat × Option Nat × (EV → MS)
/-- the clauses, by the small machine and by the rules -/
inductive CmOk (S : Kit) : List Clause → List Cm → Prop
  | nil : CmOk S [] []
  | cons {k : Nat} {C : Addr} {fs : List Str} {o : Option Nat} {ms : EV → MS} {L : List Clause} {l : List Cm} (hk : S.ca k = some (C, fs)) (hf : ∀ i, o = some i → S.fr i = true) (r : CmOk S L l) : CmOk S ((.ref C, o, tsM S k o ms) :: L) ((k, o, ms) :: l)
/-- what an except clause says of the classes -/
def ExmT (S : Kit) : Prop := ∀ k C fs j D gs, S.ca k = some (C, fs) → S.ca j = some (D, gs) → PySem.W.exmOne S.K (.ref D) (.ref C) = some (Nat.beq k j)
section
variable {S : Kit} {Wout : WX} {D : Ends}
theorem hs_ok (hex : ExmT S) : ∀ {L : List Clause} {l : List Cm}, CmOk S L l → ∀ (v : EV) (τ : ES) (h : EH) (ρ : List Addr) (H : Hp), PoS S Wout D ρ H (sHs l v τ h) →
    ∀ ρ' H' σ' c d, Ext S ρ H ρ' H' → Rep S ρ' h H' → SR S ρ' H' τ σ' → ER S ρ' H' v c d → wCl S.K Wout D L c d σ' H' := by
  intro L l ck
  induction ck with
  | nil => exact fun v τ h ρ H p => p
  | @cons k C fs o ms L l hk hf r ih =>
    intro v τ h ρ H p ρ' H' σ' c d x R s er
    have p0 : PoS S Wout D ρ H ((excC v).rec .bad fun j => (Nat.beq k j).rec (sHs l v τ h) (o.rec (noX (ms v τ h)) fun i => (Nat.blt i τ.length).rec .bad (unS (ms v (setN τ none i) h) i))) := p
    obtain ⟨j, as, Dc, gs, rfl, rfl, hj⟩ : ∃ j as Dc gs, v = .exc j as ∧ c = .ref Dc ∧ S.ca j = some (Dc, gs) := by
      cases er with
      | mk0 h => exact ⟨_, _, _, _, rfl, rfl, h⟩
      | mk1 h _ _ => exact ⟨_, _, _, _, rfl, rfl, h⟩
    have p1 : PoS S Wout D ρ H ((Nat.beq k j).rec (sHs l (.exc j as) τ h) (o.rec (noX (ms (.exc j as) τ h)) fun i => (Nat.blt i τ.length).rec .bad (unS (ms (.exc j as) (setN τ none i) h) i))) := p0
    refine ⟨Nat.beq k j, hex k C fs j Dc gs hk hj, fun e a na => ?_, fun e => ?_⟩
    · rw [e] at p1
      have kj := Nat.eq_of_beq_eq_true e
      subst kj
      cases o with
      | none => exact ⟨as, ρ', τ, h, rep_in R er, sr_in0 s, suite0 p1 x⟩
      | some i =>
        have fi := hf i rfl
        have p2 : PoS S Wout D ρ H ((Nat.blt i τ.length).rec .bad (unS (ms (.exc k as) (setN τ none i) h) i)) := p1
        cases z : Nat.blt i τ.length with
        | false => rw [z] at p2; exact False.elim p2
        | true =>
          rw [z] at p2
          exact ⟨as, ρ', setN τ none i, h, rep_in R er, sr_in1 s fi (Nat.le_of_ble_eq_true z), suite1 fi p2 x⟩
    · rw [e] at p1
      exact ih (.exc j as) τ h ρ H p1 ρ' H' σ' _ d x R s er
variable {X : Cx} {body : List Stmt} {h₀ : ExceptHandler} {hds : List ExceptHandler} {L : List Clause} {l : List Cm} {pos : Pos} {mb : MS}
theorem s_try (hK : S.K = X.K) (hex : ExmT S) (hs : X.stack = X.env :: X.outer) (hf : X.env.frame = some X.env.locals) (hN : X.N.Nodup) (tk : Takes X Wout)
    (hb : ∀ (W : WX) (pn : List (Addr × Obj)) (xe : Value → Shared → Prop), Takes (X.tr pn xe) W → PassesOwn (model X.prog X.w) X.A X.env xe → PSs (X.tr pn xe) body (TS' S W mb))
    (hh : ClsOk X (h₀ :: hds) L) (hr : CmOk S L l) : PS X (.Try body (h₀ :: hds) [] [] pos) (TS' S Wout (sTry mb l)) := by
  refine PS.imp (ps_tryC hs hf hN tk (tb := fun W => TS' S W mb) hb hh) fun D σ H ⟨ρ, τ, h, R, s, p⟩ => ⟨ρ, τ, h, R, s, ?_⟩
  have p0 : PoS S Wout D ρ H (match mb τ h with | .exc v s h1 => sHs l v s h1 | .nx s h => .nx s h | .rt v h => .rt v h | .bk s h => .bk s h | .ct s h => .ct s h | .bad => .bad) := p
  cases q : mb τ h with
  | exc v τ1 h1 =>
    rw [q] at p0
    rw [← hK]
    exact hs_ok hex hr v τ1 h1 ρ H p0
  | nx t k => rw [q] at p0; exact p0
  | rt t k => rw [q] at p0; exact p0
  | bk t k => rw [q] at p0; exact p0
  | ct t k => rw [q] at p0; exact p0
  | bad => rw [q] at p0; exact p0
/-- a suite of a clause -/
theorem su_ok {b : List Stmt} {k : Nat} {o : Option Nat} {ms : EV → MS} {a : Addr} {cls : Value} {d : Option Addr} {Y : Cx} (h : ∀ as, PSs Y b (TS' (Hk S (.exc k as) cls d a o) W0 (ms (.exc k as)))) : PSs Y b (tsM S k o ms a cls d) :=
  ⟨fun pins s σ H D I ⟨as, t⟩ => (h as).run pins s σ H D I t⟩
end
/-! ### in a suite -/
/-- what isinstance asks of an own error class -/
structure ErC (K : PySem.W.Frag) (C : Addr) : Prop where
  xf : XfC K C
  ha : PySem.W.findIn K (.ref C) "__class__" = some (some (.builtin "object.__class__"))
  hn : PySem.W.specialIn K (.builtin "object.__class__") "__get__" = some (some (.builtin "getset_descriptor.__get__"))
  ht : PySem.W.takesIn K (.builtin "object.__class__") = some true
  hm : PySem.W.mroIn K C (.type "object") = some true
section
variable {X : Cx} {S : Kit} {a C : Addr} {oe : Obj} {cls : Value} {d : Option Addr} {pn : List (Addr × Obj)} {k i : Nat} {as : List EV} {pos p1 p2 p3 : Pos} {n f : Str}
theorem lk1 (f : Str) (v : V) : List.lookup f [(f, v)] = some v := by simp [List.lookup]
/-- error.f -/
theorem x_err (hca : S.ca k = some (C, [f])) (T : XfC X.K C) (hno : PySem.W.findIn X.K (.ref C) f = some none) (hz : Zc cls d oe) (hf : ∃ vs, oe.data = .fields vs) (hN : X.N[i]? = some n := by rfl)
    (hv : Vis X.env.scope n := by first | exact Or.inl rfl | exact Or.inr (Or.inl rfl) | exact Or.inr (Or.inr rfl)) (hd : (n == ("__debug__" : Str)) = false := by decide) (hcd : (n == ("__classdict__" : Str)) = false := by decide) (hb : attributeBase (.Name n p1) f X.env (eval (.Name n p1) X.env) = eval (.Name n p1) X.env := by rfl) :
    PE (X.suite a ((a, oe) :: pn)) (.Attribute (.Name n p1) f pos) (TM (Hk S (.exc k as) cls d a (some i)) W0 (xErr (.exc k as) 0)) := by
  refine PE.imp (pe_xf T hno hz hf (pe_var (X := X.suite a ((a, oe) :: pn)) hN hv hd hcd) hb) fun σ H Q ⟨ρ, τ, h, R, s, p⟩ => ?_
  refine ⟨.ref a, s.sl.2 i rfl, rfl, ?_⟩
  have er := R.inv.2
  generalize ew : EV.exc k as = w at er
  cases er with
  | mk0 h =>
    cases ew
    rw [hca] at h; cases h
  | mk1 h e r =>
    cases ew
    rw [hca] at h; cases h
    refine ⟨rfl, _, _, _, rfl, e, lk1 _ _, ?_⟩
    exact PoE.val R (VR.re (S := S) (S' := Hk S _ _ _ a (some i)) rfl rfl rfl r) p
theorem call_isEX (T : ErC X.K C) (hz : Zc (.ref C) d oe) (hf : ∃ vs, oe.data = .fields vs) : CallR (X.suite a ((a, oe) :: pn)) (.builtin "isinstance") (fun xs H Q => ∃ (s : String) (b : Bool), xs = [.ref a, .ty s] ∧ PySem.W.kitOne X.K (.ref C) (.type s) = some b ∧ (∀ dd, d = some dd → ∃ fs, H dd = some (.xd fs)) ∧ Q (.bl b) H) := by
  intro pins s σ H xs us Q I r h
  obtain ⟨t, b, rfl, e, hdd, q⟩ := h
  obtain ⟨u1, u2, rfl, r1, r2⟩ := vals2 r
  cases (show u1 = Value.ref a from r1)
  cases (show u2 = Value.type t from r2)
  obtain ⟨here, _⟩ := I.pin (a, oe) (List.mem_append.mpr (.inl List.mem_cons_self))
  obtain ⟨ws, hw⟩ := hf
  obtain ⟨od, J⟩ : ∃ od, PySem.W.InstAt s.heap a oe C od := by
    have nc : PySem.W.notCls oe = true := by
      unfold PySem.W.notCls
      rw [hw] <;> rfl
    cases d with
    | none => exact ⟨none, here, hz.1, nc, by rw [hz.2]; trivial⟩
    | some dd =>
      obtain ⟨fs, ed⟩ := hdd dd rfl
      obtain ⟨mA, ns, _⟩ := (show ObjOk X.prog X.w H s.heap dd (.xd fs) from I.hok dd _ ed)
      obtain ⟨od, ho, _⟩ := lookIn_ns ns
      exact ⟨some od, here, hz.1, nc, by rw [hz.2]; exact ho⟩
  have hcl : (PySem.W.clsIn X.K C).isSome = true := by
    obtain ⟨cd, hc, _⟩ := PySem.W.any_some T.xf.hdC
    rw [hc]; rfl
  exact PySem.W.kia_one (PySem.W.kitx_exc hcl T.xf.ga T.xf.gg T.xf.exC T.ha T.hn T.ht T.hm) I.kIn J e (fun z => nomatch z) fun tk => ⟨.bl b, H, I.kept (t' := tk) fun _ _ z => z, rfl, q⟩
/-- isinstance(error, T) -/
theorem x_isE {fs : List Str} {t : String} {x : Str} {b : Bool} (hca : S.ca k = some (C, fs)) (T : ErC X.K C) (hki : PySem.W.kitOne X.K (.ref C) (.type t) = some b) (hz : Zc cls d oe) (hf : ∃ vs, oe.data = .fields vs) (hg : Gl X "isinstance") (hm : X.mg "isinstance" = none) (hgx : Gl X x) (hmx : X.mg x = none) (hvx : bootBuiltins x = some (.type t)) (hN : X.N[i]? = some n := by rfl)
    (hnx : x ≠ "__name__" := by decide) (hdx : (x == ("__debug__" : Str)) = false := by decide) (hvi : bootBuiltins "isinstance" = some (.builtin "isinstance") := by decide +kernel)
    (hv : Vis X.env.scope n := by first | exact Or.inl rfl | exact Or.inr (Or.inl rfl) | exact Or.inr (Or.inr rfl)) (hd : (n == ("__debug__" : Str)) = false := by decide) (hcd : (n == ("__classdict__" : Str)) = false := by decide) :
    PE (X.suite a ((a, oe) :: pn)) (.Call (.Name "isinstance" p3) [.Name n p1, .Name x p2] [] pos) (TM (Hk S (.exc k as) cls d a (some i)) W0 (xCst (.bl b))) := by
  by_cases hc : cls = .ref C
  · subst hc
    refine PE.imp (pe_callB (X := X.suite a ((a, oe) :: pn)) (call_isEX T hz hf) hg hm hvi (pa_cons (pe_var (X := X.suite a ((a, oe) :: pn)) hN hv hd hcd) (pa_cons (pe_bltn (v := .ty t) (X := X.suite a ((a, oe) :: pn)) hgx hmx hvx rfl hnx hdx) pa_nil))) fun σ H Q ⟨ρ, τ, h, R, s, p⟩ => ?_
    refine ⟨.ref a, s.sl.2 i rfl, t, b, rfl, hki, fun dd e => ?_, PoE.val R (.bl b) p⟩
    have er := R.inv.2
    cases e
    generalize ew : EV.exc k as = w at er
    cases er with
    | mk1 h e r => exact ⟨_, e⟩
  · refine ⟨fun pins s σ H Q I ⟨ρ, τ, h, R, sr, p⟩ => False.elim (hc ?_)⟩
    have er := R.inv.2
    generalize ew : EV.exc k as = w at er
    cases er with
    | mk0 h => cases ew; rw [hca] at h; cases h; rfl
    | mk1 h e r => cases ew; rw [hca] at h; cases h; rfl
end
end RT
end
section
set_option Elab.async false
set_option linter.all false
set_option maxRecDepth 100000
set_option maxHeartbeats 1000000
namespace RT
open PySem PySem.Spec PyProof.Rows L2
section
variable {S : Kit} {P : Program} {w : World} {mg : Str → Option Value} {base : Heap}
/-- as def_ok; the def's code object is told too -/
theorem def_okC {x qual : Str} {st : Stmt} {f : Addr} {fd : FuncData} {N ps : List Str} {k kk np : Nat} {mb : MS} (F : Fun S.K x qual st f fd) (Sc : FnScope N ps (defScope st)) (hsl : ∀ σ, S.sl σ) (hp : ps.length = np) (hN : N.length = np + kk)
    (hb : ∀ (cdv : Value), fd.code = cdv → ∀ (A : Around) (outer : List Env) (s : Shared) (H : Hp) (E : XK), Room k (A.deeper (envOfC qual (defScope st) s.heap.objs.size f cdv)) →
      PSs (cxOf (L2.CX P w) P w S.K mg base N qual (defScope st) f cdv A outer s H E) (defBody st) (TS' S (fun c d _ H => E c d H) mb)) :
    FnOk P w S.K mg base (L2.CX P w) (k + 1) f fd ps (spF S (mkF np kk mb)) := by
  have arity : ∀ vs H Q E, spF S (mkF np kk mb) vs H Q E → vs.length = ps.length := by
    rintro vs H Q E ⟨ρ, h, es, R, r, p⟩
    obtain ⟨c, _⟩ := ifB p
    have := Nat.eq_of_beq_eq_true c
    rw [hp, ← r.length]; exact this
  obtain ⟨oc, od, kV, doc, pm, an, cdv, ct, osl, rfl, lk, hcd⟩ := F.ex
  refine fn_of lk hcd Sc arity fun A outer s H vs Q E hr hsp => ?_
  have ar := arity _ _ _ _ hsp
  obtain ⟨ρ, h, es, R, r, p⟩ := hsp
  obtain ⟨c, p⟩ := ifB p
  refine ⟨_, hb cdv rfl A outer s H E hr, ρ, pad es kk, h, R, sr_start r ?_ hsl, ?_⟩
  · rw [hN, r.length, ar, hp]
  · have p1 : PoE S E Q ρ H (mb (pad es kk) h).ret := p
    cases q : mb (pad es kk) h with
    | nx τ h1 => rw [q] at p1; exact fun a b c e r z => p1 a b .non e r .non
    | rt v h1 => rw [q] at p1; exact p1
    | exc v τ h1 => rw [q] at p1; exact fun a b c d f e r z y => p1 a b d f e r y
    | bk τ h1 => rw [q] at p1; exact False.elim p1
    | ct τ h1 => rw [q] at p1; exact False.elim p1
    | bad => rw [q] at p1; exact False.elim p1
/-- nothing is promised -/
theorem fn_bot {K : PySem.W.Frag} {k : Nat} {f : Addr} {fd : FuncData} {ps : List Str} {S : Kit} {cf : CF} {i : Nat} (hc : ∀ vs h, cf i vs h = .bad) : FnOk P w K mg base (L2.CX P w) k f fd ps (spF S (cf i)) := by
  have no : ∀ vs H Q E, spF S (cf i) vs H Q E → False := by
    rintro vs H Q E ⟨ρ, h, es, R, r, p⟩
    rw [hc] at p
    exact p
  exact ⟨fun vs H Q E h => (no _ _ _ _ h).elim, fun A outer s H args us vs Q E _ _ _ _ h => (no _ _ _ _ h).elim⟩
end
/-- the defs of the text do what the small machine's do -/
structure Cls2 (P : Program) (w : World) (K : PySem.W.Frag) (mg : Str → Option Value) (base : Heap) (pn : Nat → List Str) (S : Kit) (k : Nat) (cf : CF) : Prop where
  at' : ∀ i f, S.fa i = some f → ∃ fd, FnOk P w K mg base (L2.CX P w) k f fd (pn i) (spF S (cf i)) ∧ PySem.W.keepIn K (.ref f) = true ∧ Binds K fd (pn i) [] ∧ ∃ oc od osl, K.lookup f = some ⟨oc, od, .func fd, osl⟩
section
variable {X : Cx} {S : Kit} {W : WX} {p pos kpos : Pos} {e fe : Expr} {es : List Expr} {ml : ML} {mf ma : M} {x : Str} {f : Addr} {k i : Nat} {cf : CF} {kws : List Keyword} {pn : Nat → List Str}
theorem c_call (i : Nat) (C : Cls2 X.prog X.w X.K X.mg X.base pn S k cf) (hf : S.fa i = some f) (hr : Room k X.A) (hg : Gl X x) (hm : X.mg x = some (.ref f)) (tk : Takes X W) (ha : PA X (e :: es) (TL S W ml)) (hdb : (x == ("__debug__" : Str)) = false := by decide)
    (he : starEach (e :: es) X.env = (false, eval e X.env) :: starEach es X.env := by rfl) (hpl : (backTo pos (starEach es X.env)).any (·.1) = false := by rfl) : PE X (.Call (.Name x p) (e :: es) [] pos) (TM S W (xCall0 cf i ml)) := by
  obtain ⟨fd, F, kp, b, _⟩ := C.at' i f hf
  refine PE.imp (pe_callS F hr hg hm kp b (passAt tk) ha hdb he hpl) fun σ H Q ⟨ρ, τ, h, R, s, p⟩ => ⟨ρ, τ, h, R, s, PoL.imp (PoL.then (o := ml τ h) p) ?_⟩
  rintro x' H1 ⟨ρ1, h1, x, e1, R1, r1, p1⟩
  exact ⟨ρ1, h1, x, R1, r1, p1⟩
theorem c_call0 (i : Nat) (C : Cls2 X.prog X.w X.K X.mg X.base pn S k cf) (hf : S.fa i = some f) (hr : Room k X.A) (hg : Gl X x) (hm : X.mg x = some (.ref f)) (tk : Takes X W) (hdb : (x == ("__debug__" : Str)) = false := by decide) : PE X (.Call (.Name x p) [] [] pos) (TM S W (xCall0 cf i lNil)) := by
  obtain ⟨fd, F, kp, b, _⟩ := C.at' i f hf
  exact x_call0 F hr hg hm kp b tk hdb
/-- the positions of the keywords, and how the def binds them -/
theorem c_callK (i : Nat) {ord : List Nat} {ks : List Str} {nm qual : Str} {st : Stmt} {fd' : FuncData} (C : Cls2 X.prog X.w X.K X.mg X.base pn S k cf) (hf : S.fa i = some f) (F' : Fun X.K nm qual st f fd') (hr : Room k X.A) (hg : Gl X x) (hm : X.mg x = some (.ref f)) (tk : Takes X W)
    (h : ∀ (kV doc pm : Value) (an : Option Addr) (cdv ct : Value) (ws : List Value), ws.length = ks.length → bindArgs (PySem.W.fnOf nm qual (defArgs st) (defBody st) (defScope st) .none kV doc pm an cdv ct) ⟨[], ks.zip ws⟩ = pure ((pn i).zip (permV .none ord ws)))
    (hkw : PK X kws (TL S W ml)) (hlen : ∀ τ h l h', ml τ h = .vals l h' → l.length = ks.length) (hall : (backToKw pos (keywordEach kws X.env)).all (·.1.isSome) = true := by rfl) (hks : (backToKw pos (keywordEach kws X.env)).filterMap (·.1) = ks := by rfl) (hdb : (x == ("__debug__" : Str)) = false := by decide)
    (hpl : ((backTo pos (starEach [] X.env)).any (·.1) || (backToKw pos (keywordEach kws X.env)).any (·.1.isNone)) = false := by rfl) : PE X (.Call (.Name x p) [] kws pos) (TM S W (xCall cf i ord ml)) := by
  obtain ⟨fd, F, kp, b, oc, od, osl, lk⟩ := C.at' i f hf
  have e : fd = fd' := by
    obtain ⟨_, _, _, _, _, _, _, _, _, _, lk', _⟩ := F'.ex
    rw [lk] at lk'
    have z := congrArg Obj.data (Option.some.inj lk')
    exact Data.func.inj z
  exact x_callK F hr hg hm kp (e ▸ kb_of F' ord ks h) tk hkw hlen hall hks hdb hpl
theorem c_callV (C : Cls2 X.prog X.w X.K X.mg X.base pn S k cf) (hr : Room k X.A) (tk : Takes X W) (hf : PE X fe (TM S W mf)) (ha : PA X (e :: es) (TL S W ml))
    (ht : eval (.Call fe (e :: es) [] pos) X.env = (do callWith pos (← eval fe X.env) [] (backTo pos (starEach (e :: es) X.env)) (backToKw pos (keywordEach [] X.env))) := by rfl)
    (he : starEach (e :: es) X.env = (false, eval e X.env) :: starEach es X.env := by rfl) (hpl : (backTo pos (starEach es X.env)).any (·.1) = false := by rfl) : PE X (.Call fe (e :: es) [] pos) (TM S W (xCallV cf mf ml)) := by
  refine ⟨fun pins s σ H Q I ⟨ρ, τ, h, R, sr, q⟩ => ?_⟩
  refine Call_ (thn (hf.run pins s σ H _ I ⟨ρ, τ, h, R, sr, PoE.then (o := mf τ h) q⟩) fun u s1 ⟨x', H1, I1, rx, ρ1, h1, gv, e1, R1, r1, p1⟩ => ?_) ht
  cases r1 with
  | fn hi =>
    rename_i i f
    have p2 := PoL.then (o := ml τ h1) (k := fun vs h => cf i vs h) p1
    cases rx
    obtain ⟨fd, F, kp, b, _⟩ := C.at' i f hi
    refine PySem.W.callWith_K (h₀ := X.base) I.ok.mod.kin kp (thn (ha.run pos pins s1 σ H1 _ I1 ⟨ρ1, τ, h1, R1, sr.mono e1, p2⟩) fun us s2 ⟨vs', H2, I2, r, ρ2, h2, vs, e2, R2, r2, p3⟩ => ⟨I2.kIn, ?_⟩) he hpl
    exact run_fnS F hr b (passAt tk σ) I2 r ⟨ρ2, h2, vs, R2, r2, p3⟩
  | _ => exact False.elim p1
theorem hu64 {k : Nat} {A : Around} (hr : Room k A) : A.units + 64 < cLine := by have := hr.un; omega
theorem len_nil : ∀ τ h l h', lNil τ h = .vals l h' → l.length = 0 := by
  intro τ h l h' e
  cases e; rfl
theorem len_cons {n : Nat} (ih : ∀ τ h l h', ml τ h = .vals l h' → l.length = n) : ∀ τ h l h', lCons ma ml τ h = .vals l h' → l.length = n + 1 := by
  intro τ h l h' e
  have e0 : ((ma τ h).thenL fun x h1 => (ml τ h1).thenL fun xs h2 => .vals (x :: xs) h2) = .vals l h' := e
  cases q : ma τ h with
  | val v h1 =>
    rw [q] at e0
    have e1 : ((ml τ h1).thenL fun xs h2 => .vals (v :: xs) h2) = .vals l h' := e0
    cases q1 : ml τ h1 with
    | vals xs h2 => rw [q1] at e1; cases e1; rw [List.length_cons, ih _ _ _ _ q1]
    | exc _ _ => rw [q1] at e1; cases e1
    | bad => rw [q1] at e1; cases e1
  | exc _ _ => rw [q] at e0; cases e0
  | bad => rw [q] at e0; cases e0
end
/-! the end -/
open PySem.W in
theorem walk_rt {l : PySem.W.OpenLaw} {n k : Nat} {q : Program} {loose : List Str} {XP : (Str → Option Value) → Heap → Prop} {YP : World → Heap → Prop} {d : DefRec} {K : Params → PySem.W.Frag} {CX : World → CXT} {x : Str} (hn : l.most = some n) (hn2 : n ≤ sizeLine) (hdf : d.params.defaults = []) (hr : Room k callerA)
    (hY : ∀ (w : World) (h : Heap), YP w h → (K w.params).In h)
    (F : ∀ (w : World) (mean : ExcName → Option Value) (mg mb : Str → Option Value) (fa : Addr) (h : Heap), (K w.params).In h → Top q (looseW q loose) mean mg mb h → mg d.name = some (.ref fa) → LamX.LawAtS l w (K w.params) (CX w) k n x mg fa h)
    (hCX : ∀ (w : World) (H : Hp) (s : Shared) (e : Value) (s' : Shared), CX w [] H s (fun _ _ _ => False) e s' → False) : PySem.W.WalkO q loose XP YP l.row.toRowW d [] (fun f vs => PySem.call f vs) :=
  Att.attach_callB hn hdf fun w s₀ s₁ mg mb fa o pm cd doc a vs ns G Y _ _ _ named obj iv few bits gens => by
    have X := hY w _ Y
    obtain ⟨fd, cs, sp, t1, t2, t3, b, p, f⟩ := F w _ mg mb fa _ X G.T named
    exact LamX.law_callTs X G.T.g G.T.b G.T.builtins G.T.nolimit gens t1 t2 t3 G.T.bmain obj iv (Nat.le_trans few hn2) hr f b (fun H hT hS => p H a ns few bits hT hS) fun H e s' => hCX w H s₁ e s'
/-- no table stands among what is written -/
def noTab (K : PySem.W.Frag) : Bool := K.all fun p => match p.2.data with | .fields vs => vs.size != 0 | _ => true
theorem noTab_ok : ∀ {K : PySem.W.Frag} {a : Addr} {o : Obj}, noTab K = true → List.lookup a K = some o → o.data ≠ .fields #[]
  | [], _, _, _, e, _ => by cases e
  | (b, u) :: K, a, o, h, e, z => by
    have h' : ((match u.data with | .fields vs => vs.size != 0 | _ => true) && noTab K) = true := h
    rw [Bool.and_eq_true] at h'
    by_cases q : a = b
    · subst q
      have e' : u = o := by simpa [List.lookup] using e
      subst e'
      rw [z] at h'
      exact absurd h'.1 (by decide)
    · have q' : (a == b) = false := by simpa using q
      exact noTab_ok h'.2 (by simpa [List.lookup, q'] using e) z
open PySem.W in
/-- a def's code object and its table at the law's start -/
theorem tab_at {p : Program} {loose : List Str} {mean : ExcName → Option Value} {mg mb : Str → Option Value} {h : Heap} {K : PySem.W.Frag} {x qual : Str} {st : Stmt} {f : Addr} {fd : FuncData} {d : DefRec} (T : Top p loose mean mg mb h) (X : K.In h) (no : noTab K = true) (hr : (recsOf p).find? (fun e => e.name == x) = some d) (F : Fun K x qual st f fd) (hm : mg x = some (.ref f)) :
    ∃ c P, fd.code = .ref c ∧ h.get? P = some { cls := .none, data := .fields #[] } ∧ K.lookup P = none ∧ CodeHd h c P := by
  have hn : d.name = x := beq_iff_eq.mp (List.find?_some (p := fun e : DefRec => e.name == x) hr)
  obtain ⟨a, o, fd2, c, P, h1, h2, h3, h4, h5, h6⟩ := T.tab d (List.mem_of_find?_eq_some hr)
  rw [hn, hm] at h1
  cases h1
  obtain ⟨_, _, _, _, _, _, _, _, _, rfl, lk, _⟩ := F.ex
  have e := X _ _ lk
  rw [h2] at e
  cases e
  cases h3
  refine ⟨c, P, h4, h6.2, ?_, CodeHd.of h5 h6⟩
  cases q : K.lookup P with
  | none => rfl
  | some o =>
    have z := X _ _ q
    rw [h6.2] at z
    cases z
    exact absurd rfl (noTab_ok no q)
end RT
end
section
set_option Elab.async false
set_option linter.all false
set_option maxRecDepth 100000
set_option maxHeartbeats 1000000
/-! the end of a closed law: what the top has left, by a Hook; the law's own call by the small machine -/
namespace RT
open PySem PySem.Spec PyProof.Rows L2
theorem fun_of {K : PySem.W.Frag} {x qual : Str} {st : Stmt} {f : Addr} {fd : FuncData} (F : FunD K x qual (defArgs st) (defBody st) (defScope st) [] [] f fd) : Fun K x qual st f fd := by
  obtain ⟨oc, od, dV, kV, doc, pm, an, cdv, ct, osl, e, lk, hc, hD, _⟩ := F.ex
  rcases hD with ⟨_, rfl⟩ | ⟨z, _⟩
  · exact ⟨⟨oc, od, kV, doc, pm, an, cdv, ct, osl, e, lk, hc⟩, F.kp⟩
  · exact absurd rfl z
def dD (x : Str) (st : Stmt) : He.DefD := ⟨(x, none), x, x, defArgs st, defBody st, defScope st, [], []⟩
theorem def_at {fa : List He.Fa} {fn : List He.DefD} {K : PySem.W.Frag} (c : He.SaysD fa fn K) (i : Nat) {x : Str} {st : Stmt} (h : fn[i]? = some (dD x st)) : ∃ fd, Fun K x x st (He.ga K x) fd := by
  obtain ⟨fd, F⟩ := c.def_ i h
  exact ⟨fd, fun_of F⟩
theorem code_at {K : PySem.W.Frag} {x : Str} {st : Stmt} {fd : FuncData} (F : Fun K x x st (He.ga K x) fd) : fd.code = .ref (He.codeOf K (x, none)) := by
  obtain ⟨oc, od, kV, doc, pm, an, cdv, ct, osl, e, lk, hc⟩ := F.ex
  obtain ⟨c, rfl⟩ := He.codeIn_ref hc
  subst e
  have q : He.codeOf K (x, none) = c := He.codeOf_eq (p := (x, none)) lk rfl
  rw [q]
/-- what is told of an own error's class -/
def erB (K : PySem.W.Frag) (C : Addr) : Bool := xfB K C && (decide (PySem.W.findIn K (.ref C) "__class__" = some (some (.builtin "object.__class__"))) && (decide (PySem.W.specialIn K (.builtin "object.__class__") "__get__" = some (some (.builtin "getset_descriptor.__get__"))) && (decide (PySem.W.takesIn K (.builtin "object.__class__") = some true) && decide (PySem.W.mroIn K C (.type "object") = some true))))
theorem erB_ok {K : PySem.W.Frag} {C : Addr} (h : erB K C = true) : ErC K C := by
  obtain ⟨h1, h⟩ := Bool.and_eq_true_iff.mp h
  obtain ⟨h2, h⟩ := Bool.and_eq_true_iff.mp h
  obtain ⟨h3, h⟩ := Bool.and_eq_true_iff.mp h
  obtain ⟨h4, h5⟩ := Bool.and_eq_true_iff.mp h
  exact ⟨xfB_ok h1, of_decide_eq_true h2, of_decide_eq_true h3, of_decide_eq_true h4, of_decide_eq_true h5⟩
/-- the class's object, to the sign -/
def excClsB (K : PySem.W.Frag) (C : Addr) (tail : List Value) (nw : String) : Bool := match K.lookup C with
  | some ⟨.type "type", _, .cls cd, sl⟩ => (match cd.mro, sl.toList with
    | .ref D :: bm, [_, _, _, _, some (.builtin n), _] => D == C && n == nw && !cd.hasDel && cd.hasDict && bm == tail
    | _, _ => false)
  | _ => false
theorem excClsB_ok {K : PySem.W.Frag} {C : Addr} {tail : List Value} {nw : String} (q : excClsB K C tail nw = true) : ∃ nm q N bs sn sub ab col dd k0 k1 k2 k3 k5, K.lookup C = some (PySem.excClassObj nm q C N bs tail true sn sub ab col dd k0 k1 k2 k3 k5 nw) := by
  unfold excClsB at q
  split at q
  · rename_i dd cd sl ho
    split at q
    · rename_i D bm k0 k1 k2 k3 n k5 hm hs
      simp only [Bool.and_eq_true, beq_iff_eq, Bool.not_eq_true'] at q
      obtain ⟨⟨⟨⟨rfl, rfl⟩, hdel⟩, hdct⟩, rfl⟩ := q
      obtain ⟨nm, bs, mro, ns, qn, hd, sn, sub, ab, col, del⟩ := cd
      dsimp only at hm hdel hdct
      subst hm hdel hdct
      have hsl : sl = #[k0, k1, k2, k3, some (.builtin n), k5] := by
        obtain ⟨l⟩ := sl
        simp only at hs
        rw [hs]
      subst hsl
      exact ⟨nm, qn, ns, bs, sn, sub, ab, col, dd, k0, k1, k2, k3, k5, ho⟩
    · cases q
  · cases q
def plcB (K : PySem.W.Frag) (C fI : Addr) : Bool := excClsB K C Plc.lkT "LookupError.__new__" && (decide (PySem.W.findIn K (.ref C) "__setattr__" = some (some (.builtin "object.__setattr__"))) && (PySem.W.excOver K C Plc.lkT && (decide (PySem.W.takerIn K C "place" = some none) && (decide (PySem.W.findIn K (.ref C) "place" = some none) && (decide (PySem.W.findIn K (.ref C) "__init__" = some (some (.ref fI))) && (decide (PySem.W.typeIn K (.ref fI) = some (.type "function")) && (PySem.W.keepIn K (.ref C) && decide (PySem.W.typeIn K (.ref C) = some (.type "type")))))))))
theorem plcB_ok {K : PySem.W.Frag} {mg : Str → Option Value} {C fI : Addr} (h : plcB K C fI = true) (g : mg "NoPlace" = some (.ref C)) (xf : XfC K C)
    (fn : ∃ (oc : Value) (od : Option Addr) (kV doc pm : Value) (an : Option Addr) (cdv ct : Value) (osl : Array (Option Value)) (p1 p2 q1 q2 q3 q4 : Pos),
      K.lookup fI = some ⟨oc, od, .func (PySem.W.fnOf "__init__" "NoPlace.__init__" (Plc.iA p1 p2) (Plc.iB q1 q2 q3 q4) Plc.iS .none kV doc pm an cdv ct), osl⟩ ∧ PySem.W.codeIn K cdv "NoPlace.__init__" = true) : Plc.Txt K mg C fI := by
  obtain ⟨h1, h⟩ := Bool.and_eq_true_iff.mp h
  obtain ⟨h2, h⟩ := Bool.and_eq_true_iff.mp h
  obtain ⟨h3, h⟩ := Bool.and_eq_true_iff.mp h
  obtain ⟨h4, h⟩ := Bool.and_eq_true_iff.mp h
  obtain ⟨h5, h⟩ := Bool.and_eq_true_iff.mp h
  obtain ⟨h6, h⟩ := Bool.and_eq_true_iff.mp h
  obtain ⟨h7, h⟩ := Bool.and_eq_true_iff.mp h
  obtain ⟨h8, h9⟩ := Bool.and_eq_true_iff.mp h
  exact ⟨g, excClsB_ok h1, of_decide_eq_true h2, h3, of_decide_eq_true h4, of_decide_eq_true h5, xf, of_decide_eq_true h6, of_decide_eq_true h7, h8, of_decide_eq_true h9, fn⟩
/-- the answer is True -/
def isT (o : Out) : Bool := match o with | .val (.bl true) _ => true | _ => false
theorem sp_done {S : Kit} {c : List EV → EH → Out} {a : Addr} {H : Hp} {cs : List (Addr × Addr)} (ho : isT (c [.opq] ⟨0, .nil⟩) = true) (htb : ∀ P, S.tb P → ∃ p ∈ cs, p.2 = P) (hH : ∀ p ∈ cs, H p.2 = some (.tbl #[])) (hinv : S.inv [] H) :
    spF S c [.ref a] H (fun v _ => v = .bl true) (fun _ _ _ => False) := by
  refine ⟨[], ⟨0, .nil⟩, [.opq], ⟨List.nodup_nil, rfl, fun _ h => absurd h List.not_mem_nil, fun P hP => ?_, hinv, fun i o e => ?_⟩, .cons (.opq _) .nil, ?_⟩
  · obtain ⟨p, hp, rfl⟩ := htb P hP
    exact ⟨#[], hH p hp, trivial⟩
  · cases (show (none : Option EO) = some o from e)
  · generalize c [.opq] ⟨0, .nil⟩ = o at ho
    cases o with
    | val v h =>
      cases v with
      | bl b =>
        cases b with
        | true =>
          intro ρ1 H1 v' _ _ r
          cases r
          rfl
        | false => cases ho
      | _ => cases ho
    | exc _ _ => cases ho
    | bad => cases ho
theorem roomC (k : Nat) (h : k ≤ 120) : Room k callerA := by
  have r : Room 120 callerA := ⟨rfl, by decide, by decide⟩
  exact r.mono h
end RT
namespace RT
open PySem PySem.Spec PyProof.Rows L2
theorem init_at {K : PySem.W.Frag} {fI : Addr} {oc : Value} {od an : Option Addr} {osl : Array (Option Value)} {kV doc pm cdv ct : Value} {p1 p2 q1 q2 q3 q4 : Pos}
    (lk : K.lookup fI = some ⟨oc, od, .func (PySem.W.fnOf "__init__" "NoPlace.__init__" (Plc.iA p1 p2) (Plc.iB q1 q2 q3 q4) Plc.iS .none kV doc pm an cdv ct), osl⟩) (hc : PySem.W.codeIn K cdv "NoPlace.__init__" = true) :
    ∃ (oc : Value) (od : Option Addr) (kV doc pm : Value) (an : Option Addr) (cdv ct : Value) (osl : Array (Option Value)) (p1 p2 q1 q2 q3 q4 : Pos),
      K.lookup fI = some ⟨oc, od, .func (PySem.W.fnOf "__init__" "NoPlace.__init__" (Plc.iA p1 p2) (Plc.iB q1 q2 q3 q4) Plc.iS .none kV doc pm an cdv ct), osl⟩ ∧ PySem.W.codeIn K cdv "NoPlace.__init__" = true := by
  exact ⟨_, _, _, _, _, _, _, _, _, _, _, _, _, _, _, lk, hc⟩
theorem binds_law {K : PySem.W.Frag} {x qual : Str} {st : Stmt} {f : Addr} {fd : FuncData} (F : Fun K x qual st f fd) (h : ∀ (kV doc pm : Value) (an : Option Addr) (cdv ct : Value) (us : List Value), us.length = 1 → bindArgs (PySem.W.fnOf x qual (defArgs st) (defBody st) (defScope st) .none kV doc pm an cdv ct) ⟨us, []⟩ = pure ((["script"] : List Str).zip us)) :
    ∀ (s : Shared) (u : Value), BindsTo s fd ⟨[u], []⟩ [("script", u)] := by
  obtain ⟨oc, od, kV, doc, pm, an, cdv, ct, osl, rfl, lk, hc⟩ := F.ex
  exact fun s u => .of_eq (h kV doc pm an cdv ct [u] rfl)
end RT
end
section
set_option Elab.async false
set_option linter.all false
set_option maxRecDepth 100000
set_option maxHeartbeats 4000000
namespace RT.K01
open PySem PySem.Spec PyProof.Rows L2 RT
abbrev NN : Nat := 10000
def top (i : Nat) : Stmt := PySem.Challenge.pw_roundtold_k01_rings_by_hand_and_refused.main.body.getD i (.Pass ⟨0, 0, 0, 0⟩)
noncomputable def m0 (cf : CF) : MS := (sRet (xAnd (xB bIsi (lCons (xVar 0) (lCons (xCst (.ty 0)) lNil))) (xNot (xB bIsi (lCons (xVar 0) (lCons (xCst (.ty 1)) lNil))))))
noncomputable def f0 (cf : CF) : List EV → EH → Out := mkF 1 0 (m0 cf)
abbrev s0 : Stmt := top 4
theorem sc0 : FnScope (["thing"] : List Str) (["thing"] : List Str) (defScope s0) := ⟨rfl, rfl, rfl, by decide +kernel, rfl, by decide +kernel, by decide +kernel⟩
noncomputable def m1 (cf : CF) : MS := (sRet (xAnd (xB bIsi (lCons (xVar 1) (lCons (xCst (.ty 2)) lNil))) (xAA NN [2] true (xAnd (xCall0 cf 0 (lCons (xVar 2) lNil)) (xChain vLe vLe (xCst (.int 1)) (xVar 2) (xVar 0))) (gVar 2) (xVar 1) none)))
noncomputable def f1 (cf : CF) : List EV → EH → Out := mkF 2 1 (m1 cf)
abbrev s1 : Stmt := top 6
theorem sc1 : FnScope (["wide", "thing", "letter"] : List Str) (["wide", "thing"] : List Str) (defScope s1) := ⟨rfl, rfl, rfl, by decide +kernel, rfl, by decide +kernel, by decide +kernel⟩
noncomputable def m2 (cf : CF) : MS := (sRet (xAnd (xCall0 cf 1 (lCons (xVar 0) (lCons (xVar 1) lNil))) (xCmp vGt (xB bLen (lCons (xVar 1) lNil)) (xCst (.int 0)))))
noncomputable def f2 (cf : CF) : List EV → EH → Out := mkF 2 0 (m2 cf)
abbrev s2 : Stmt := top 7
theorem sc2 : FnScope (["wide", "thing"] : List Str) (["wide", "thing"] : List Str) (defScope s2) := ⟨rfl, rfl, rfl, by decide +kernel, rfl, by decide +kernel, by decide +kernel⟩
noncomputable def m3 (cf : CF) : MS := (sSeq (sAsg (gVar 2) (xB bTuple (lCons (xVar 0) lNil))) (sSeq (sAsg (gVar 3) (xBin vMod (xVar 1) (xB bLen (lCons (xVar 2) lNil)))) (sRet (xBin vAdd (xSl (xVar 2) (some (xVar 3)) none) (xSl (xVar 2) none (some (xVar 3)))))))
noncomputable def f3 (cf : CF) : List EV → EH → Out := mkF 2 2 (m3 cf)
abbrev s3 : Stmt := top 8
theorem sc3 : FnScope (["ring", "number", "rooms", "begin"] : List Str) (["ring", "number"] : List Str) (defScope s3) := ⟨rfl, rfl, rfl, by decide +kernel, rfl, by decide +kernel, by decide +kernel⟩
noncomputable def m4 (cf : CF) : MS := (sRet (xB (bBest .lt) (lCons (xLc NN [1] (xCall0 cf 3 (lCons (xVar 0) (lCons (xVar 1) lNil))) (gVar 1) (xB bRange1 (lCons (xB bLen (lCons (xVar 0) lNil)) lNil)) none) lNil)))
noncomputable def f4 (cf : CF) : List EV → EH → Out := mkF 1 1 (m4 cf)
abbrev s4 : Stmt := top 9
theorem sc4 : FnScope (["ring", "room"] : List Str) (["ring"] : List Str) (defScope s4) := ⟨rfl, rfl, rfl, by decide +kernel, rfl, by decide +kernel, by decide +kernel⟩
noncomputable def m5 (cf : CF) : MS := (sRet (xCmp vEq (xCall0 cf 4 (lCons (xVar 0) lNil)) (xCall0 cf 4 (lCons (xVar 1) lNil))))
noncomputable def f5 (cf : CF) : List EV → EH → Out := mkF 2 0 (m5 cf)
abbrev s5 : Stmt := top 10
theorem sc5 : FnScope (["one", "other"] : List Str) (["one", "other"] : List Str) (defScope s5) := ⟨rfl, rfl, rfl, by decide +kernel, rfl, by decide +kernel, by decide +kernel⟩
noncomputable def m6 (cf : CF) : MS := (sSeq (sAsg (gVar 1) (xB bTuple (lCons (xVar 0) lNil))) (sSeq (sAsg (gVar 2) (xCst (.int 1))) (sSeq (sWhl NN (xCmp vNe (xCall0 cf 3 (lCons (xVar 1) (lCons (xVar 2) lNil))) (xVar 1)) (sAug 2 vAddI (xCst (.int 1)))) (sRet (xTup (lCons (xSl (xVar 1) none (some (xVar 2))) (lCons (xBin vFdiv (xB bLen (lCons (xVar 1) lNil)) (xVar 2)) lNil)))))))
noncomputable def f6 (cf : CF) : List EV → EH → Out := mkF 1 2 (m6 cf)
abbrev s6 : Stmt := top 11
theorem sc6 : FnScope (["ring", "rooms", "size"] : List Str) (["ring"] : List Str) (defScope s6) := ⟨rfl, rfl, rfl, by decide +kernel, rfl, by decide +kernel, by decide +kernel⟩
noncomputable def m7 (cf : CF) : MS := (sIf (xNot (xChain vLe vLt (xCst (.int 0)) (xVar 1) (xB bLen (lCons (xVar 0) lNil)))) (sRz1 0 (lCons (xVar 1) lNil)) sNil)
noncomputable def f7 (cf : CF) : List EV → EH → Out := mkF 2 0 (m7 cf)
abbrev s7 : Stmt := top 12
theorem sc7 : FnScope (["ring", "room"] : List Str) (["ring", "room"] : List Str) (defScope s7) := ⟨rfl, rfl, rfl, by decide +kernel, rfl, by decide +kernel, by decide +kernel⟩
noncomputable def m8 (cf : CF) : MS := (sSeq (sExp (xCall0 cf 7 (lCons (xVar 0) (lCons (xVar 1) lNil)))) (sRet (xBin vIx (xVar 0) (xBin vMod (xBin vAdd (xVar 1) (xVar 2)) (xB bLen (lCons (xVar 0) lNil))))))
noncomputable def f8 (cf : CF) : List EV → EH → Out := mkF 3 0 (m8 cf)
abbrev s8 : Stmt := top 13
theorem sc8 : FnScope (["ring", "room", "step"] : List Str) (["ring", "room", "step"] : List Str) (defScope s8) := ⟨rfl, rfl, rfl, by decide +kernel, rfl, by decide +kernel, by decide +kernel⟩
noncomputable def m9 (cf : CF) : MS := (sSeq (sExp (xCall0 cf 7 (lCons (xVar 0) (lCons (xVar 1) lNil)))) (sRet (xGe NN [3] bTuple (xBin vIx (xVar 0) (xBin vMod (xBin vAdd (xVar 1) (xVar 3)) (xB bLen (lCons (xVar 0) lNil)))) (gVar 3) (xB bRange1 (lCons (xVar 2) lNil)) none)))
noncomputable def f9 (cf : CF) : List EV → EH → Out := mkF 3 1 (m9 cf)
abbrev s9 : Stmt := top 14
theorem sc9 : FnScope (["ring", "room", "steps", "step"] : List Str) (["ring", "room", "steps"] : List Str) (defScope s9) := ⟨rfl, rfl, rfl, by decide +kernel, rfl, by decide +kernel, by decide +kernel⟩
noncomputable def m10 (cf : CF) : MS := (sSeq (sPar2 2 3 (lCons (xB bTuple (lCons (xVar 0) lNil)) (lCons (xB bTuple (lCons (xVar 1) lNil)) lNil))) (sRet (xCmp vEq (xBin vAdd (xVar 2) (xVar 3)) (xBin vAdd (xVar 3) (xVar 2)))))
noncomputable def f10 (cf : CF) : List EV → EH → Out := mkF 2 2 (m10 cf)
abbrev s10 : Stmt := top 15
theorem sc10 : FnScope (["one", "other", "first", "second"] : List Str) (["one", "other"] : List Str) (defScope s10) := ⟨rfl, rfl, rfl, by decide +kernel, rfl, by decide +kernel, by decide +kernel⟩
noncomputable def m11 (cf : CF) : MS := (sSeq (sIf (xCall0 cf 10 (lCons (xVar 0) (lCons (xVar 1) lNil))) (sRz0 1) sNil) (sSeq (sAsg (gVar 2) (xCst (.int 0))) (sSeq (sWhl NN (xCmp vEq (xCall0 cf 8 (lCons (xVar 0) (lCons (xCst (.int 0)) (lCons (xVar 2) lNil)))) (xCall0 cf 8 (lCons (xVar 1) (lCons (xCst (.int 0)) (lCons (xVar 2) lNil))))) (sAug 2 vAddI (xCst (.int 1)))) (sRet (xVar 2)))))
noncomputable def f11 (cf : CF) : List EV → EH → Out := mkF 2 1 (m11 cf)
abbrev s11 : Stmt := top 16
theorem sc11 : FnScope (["one", "other", "step"] : List Str) (["one", "other"] : List Str) (defScope s11) := ⟨rfl, rfl, rfl, by decide +kernel, rfl, by decide +kernel, by decide +kernel⟩
noncomputable def m12 (cf : CF) : MS := (sRet (xIte (xB bIsi (lCons (xVar 0) (lCons (xTup (lCons (xCst (.ty 3)) (lCons (xCst (.ty 2)) lNil))) lNil))) (xLc NN [1] (xCall0 cf 12 (lCons (xVar 1) lNil)) (gVar 1) (xVar 0) none) (xVar 0)))
noncomputable def f12 (cf : CF) : List EV → EH → Out := mkF 1 1 (m12 cf)
abbrev s12 : Stmt := top 18
theorem sc12 : FnScope (["matter", "own"] : List Str) (["matter"] : List Str) (defScope s12) := ⟨rfl, rfl, rfl, by decide +kernel, rfl, by decide +kernel, by decide +kernel⟩
noncomputable def m13 (cf : CF) : MS := (sSeq (sIf (xB bIsi (lCons (xVar 1) (lCons (xTup (lCons (xCst (.ty 3)) (lCons (xCst (.ty 2)) lNil))) lNil))) (sSeq (sIf (xOr (xCmp vNe (xB bIsi (lCons (xVar 0) (lCons (xCst (.ty 3)) lNil))) (xB bIsi (lCons (xVar 1) (lCons (xCst (.ty 3)) lNil)))) (xCmp vNe (xB bIsi (lCons (xVar 0) (lCons (xCst (.ty 2)) lNil))) (xB bIsi (lCons (xVar 1) (lCons (xCst (.ty 2)) lNil))))) (sRet (xCst (.bl false))) sNil) (sRet (xAnd (xCmp vEq (xB bLen (lCons (xVar 0) lNil)) (xB bLen (lCons (xVar 1) lNil))) (xB bAll (lCons (xLc NN [2, 3] (xCall0 cf 13 (lCons (xVar 2) (lCons (xVar 3) lNil))) (gTup [(gVar 2), (gVar 3)]) (xB bZip (lCons (xVar 0) (lCons (xVar 1) lNil))) none) lNil))))) sNil) (sSeq (sIf (xOr (xCmp vIs (xVar 1) (xCst .non)) (xB bIsi (lCons (xVar 1) (lCons (xTup (lCons (xCst (.ty 1)) (lCons (xCst (.ty 4)) lNil))) lNil)))) (sRet (xAnd (xCmp vEq (xVar 0) (xVar 1)) (xAnd (xCmp vEq (xB bIsi (lCons (xVar 0) (lCons (xCst (.ty 1)) lNil))) (xB bIsi (lCons (xVar 1) (lCons (xCst (.ty 1)) lNil)))) (xCmp vEq (xCmp vIs (xVar 0) (xCst .non)) (xCmp vIs (xVar 1) (xCst .non)))))) sNil) (sRet (xAnd (xB bIsi (lCons (xVar 0) (lCons (xCst (.ty 0)) lNil))) (xAnd (xNot (xB bIsi (lCons (xVar 0) (lCons (xCst (.ty 1)) lNil)))) (xCmp vEq (xVar 0) (xVar 1)))))))
noncomputable def f13 (cf : CF) : List EV → EH → Out := mkF 2 2 (m13 cf)
abbrev s13 : Stmt := top 19
theorem sc13 : FnScope (["got", "goal", "mine_so", "own"] : List Str) (["got", "goal"] : List Str) (defScope s13) := ⟨rfl, rfl, rfl, by decide +kernel, rfl, by decide +kernel, by decide +kernel⟩
noncomputable def m14 (cf : CF) : MS := (sTry (sRet (xIte (xCmp vLt (xVar 0) (xCst (.int 2))) (xCallV cf (xBin vIx (xLst (lCons (xCst (.fn 8)) (lCons (xCst (.fn 9)) (lCons (xCst (.fn 11)) lNil)))) (xVar 0)) (lCons (xBin vIx (xVar 1) (xCst (.int 0))) (lCons (xBin vIx (xVar 1) (xCst (.int 1))) (lCons (xBin vIx (xVar 1) (xCst (.int 2))) lNil)))) (xCall0 cf 11 (lCons (xBin vIx (xVar 1) (xCst (.int 0))) (lCons (xBin vIx (xVar 1) (xCst (.int 1))) lNil))))) [(0, some 2, (fun v => (sRet (xLst (lCons (xCst (.str [112, 108, 97, 99, 101])) (lCons (xErr v 0) (lCons (xCst (.bl true)) lNil))))))), (1, some 2, (fun v => (sRet (xLst (lCons (xCst (.str [99, 97, 110, 110, 111, 116])) (lCons (xCst (.bl true)) lNil))))))])
noncomputable def f14 (cf : CF) : List EV → EH → Out := mkF 2 1 (m14 cf)
abbrev s14 : Stmt := top 20
theorem sc14 : FnScope (["door", "own", "error"] : List Str) (["door", "own"] : List Str) (defScope s14) := ⟨rfl, rfl, rfl, by decide +kernel, rfl, by decide +kernel, by decide +kernel⟩
noncomputable def m15 (cf : CF) : MS := (sSeq (sAsg (gVar 0) (xTup (lCons (xCst (.int 2)) (lCons (xCst (.int 1)) (lCons (xCst (.int 1)) (lCons (xCst (.int 2)) lNil)))))) (sSeq (sAsg (gVar 1) (xLst (lCons (xLc NN [2] (xCall0 cf 3 (lCons (xVar 0) (lCons (xVar 2) lNil))) (gVar 2) (xTup (lCons (xCst (.int 0)) (lCons (xCst (.int 1)) (lCons (xCst (.int 2)) (lCons (xCst (.int 3)) (lCons (xCst (.int 4)) (lCons (xNeg (xCst (.int 1))) (lCons (xNeg (xCst (.int 6))) (lCons (xBin vAdd (xBin vPow (xCst (.int 10)) (xCst (.int 12))) (xCst (.int 1))) lNil))))))))) none) (lCons (xCall cf 3 [1, 0] (lCons (xCst (.int 1)) (lCons (xLst (lCons (xCst (.int 3)) lNil)) lNil))) (lCons (xCall0 cf 3 (lCons (xTup (lCons (xCst (.int 1)) (lCons (xCst (.int 2)) (lCons (xCst (.int 3)) lNil)))) (lCons (xNeg (xBin vPow (xCst (.int 10)) (xCst (.int 9)))) lNil))) lNil))))) (sSeq (sAsg (gVar 3) (xLst (lCons (xLst (lCons (xVar 0) (lCons (xTup (lCons (xCst (.int 1)) (lCons (xCst (.int 1)) (lCons (xCst (.int 2)) (lCons (xCst (.int 2)) lNil))))) (lCons (xTup (lCons (xCst (.int 1)) (lCons (xCst (.int 2)) (lCons (xCst (.int 2)) (lCons (xCst (.int 1)) lNil))))) (lCons (xTup (lCons (xCst (.int 2)) (lCons (xCst (.int 2)) (lCons (xCst (.int 1)) (lCons (xCst (.int 1)) lNil))))) (lCons (xVar 0) (lCons (xTup (lCons (xCst (.int 2)) (lCons (xCst (.int 2)) (lCons (xCst (.int 1)) (lCons (xCst (.int 1)) lNil))))) (lCons (xTup (lCons (xCst (.int 1)) (lCons (xCst (.int 2)) (lCons (xCst (.int 2)) (lCons (xCst (.int 1)) lNil))))) (lCons (xTup (lCons (xCst (.int 1)) (lCons (xCst (.int 1)) (lCons (xCst (.int 2)) (lCons (xCst (.int 2)) lNil))))) lNil))))))))) (lCons (xTup (lCons (xCst (.int 3)) lNil)) (lCons (xTup (lCons (xCst (.int 3)) (lCons (xCst (.int 1)) (lCons (xCst (.int 2)) lNil)))) lNil))))) (sSeq (sAsg (gVar 1) (xBin vAdd (xVar 1) (xLst (lCons (xCall cf 4 [0] (lCons (xB bList (lCons (xVar 0) lNil)) lNil)) (lCons (xCall0 cf 4 (lCons (xTup (lCons (xCst (.int 3)) (lCons (xCst (.int 1)) (lCons (xCst (.int 2)) (lCons (xCst (.int 1)) lNil))))) lNil)) (lCons (xCall0 cf 4 (lCons (xTup (lCons (xCst (.int 2)) (lCons (xCst (.int 2)) lNil))) lNil)) (lCons (xCall0 cf 4 (lCons (xTup (lCons (xCst (.int 2)) (lCons (xCst (.int 1)) (lCons (xCst (.int 2)) (lCons (xCst (.int 1)) lNil))))) lNil)) lNil))))))) (sSeq (sAsg (gVar 3) (xBin vAdd (xVar 3) (xLst (lCons (xTup (lCons (xCst (.int 1)) (lCons (xCst (.int 1)) (lCons (xCst (.int 2)) (lCons (xCst (.int 2)) lNil))))) (lCons (xTup (lCons (xCst (.int 1)) (lCons (xCst (.int 2)) (lCons (xCst (.int 1)) (lCons (xCst (.int 3)) lNil))))) (lCons (xTup (lCons (xCst (.int 2)) (lCons (xCst (.int 2)) lNil))) (lCons (xTup (lCons (xCst (.int 1)) (lCons (xCst (.int 2)) (lCons (xCst (.int 1)) (lCons (xCst (.int 2)) lNil))))) lNil))))))) (sSeq (sAsg (gVar 4) (xLst (lCons (xVar 0) (lCons (xTup (lCons (xCst (.int 1)) (lCons (xCst (.int 2)) (lCons (xCst (.int 2)) (lCons (xCst (.int 1)) lNil))))) (lCons (xTup (lCons (xCst (.int 1)) (lCons (xCst (.int 2)) (lCons (xCst (.int 1)) (lCons (xCst (.int 2)) lNil))))) (lCons (xTup (lCons (xCst (.int 1)) (lCons (xCst (.int 1)) (lCons (xCst (.int 2)) lNil)))) (lCons (xTup (lCons (xCst (.int 2)) (lCons (xCst (.int 1)) (lCons (xCst (.int 1)) (lCons (xCst (.int 2)) (lCons (xCst (.int 2)) (lCons (xCst (.int 1)) (lCons (xCst (.int 1)) (lCons (xCst (.int 2)) lNil))))))))) (lCons (xTup (lCons (xCst (.int 1)) (lCons (xCst (.int 1)) (lCons (xCst (.int 2)) (lCons (xCst (.int 2)) lNil))))) lNil)))))))) (sSeq (sAsg (gVar 1) (xBin vAdd (xVar 1) (xLst (lCons (xLc NN [2] (xCall0 cf 5 (lCons (xVar 0) (lCons (xVar 2) lNil))) (gVar 2) (xVar 4) none) (lCons (xCall cf 5 [1, 0] (lCons (xLst (lCons (xCst (.int 1)) lNil)) (lCons (xLst (lCons (xCst (.int 1)) lNil)) lNil))) (lCons (xCall0 cf 5 (lCons (xTup (lCons (xCst (.int 1)) (lCons (xCst (.int 2)) (lCons (xCst (.int 3)) lNil)))) (lCons (xTup (lCons (xCst (.int 1)) (lCons (xCst (.int 3)) (lCons (xCst (.int 2)) lNil)))) lNil))) (lCons (xCall0 cf 5 (lCons (xTup (lCons (xCst (.int 1)) (lCons (xCst (.int 2)) (lCons (xCst (.int 3)) lNil)))) (lCons (xTup (lCons (xCst (.int 3)) (lCons (xCst (.int 1)) (lCons (xCst (.int 2)) lNil)))) lNil))) lNil))))))) (sSeq (sAsg (gVar 3) (xBin vAdd (xVar 3) (xLst (lCons (xLst (lCons (xCst (.bl true)) (lCons (xCst (.bl true)) (lCons (xCst (.bl false)) (lCons (xCst (.bl false)) (lCons (xCst (.bl false)) (lCons (xCst (.bl true)) lNil))))))) (lCons (xCst (.bl true)) (lCons (xCst (.bl false)) (lCons (xCst (.bl true)) lNil))))))) (sSeq (sAsg (gVar 1) (xBin vAdd (xVar 1) (xLst (lCons (xLc NN [2] (xCall0 cf 6 (lCons (xVar 2) lNil)) (gVar 2) (xTup (lCons (xTup (lCons (xCst (.int 1)) lNil)) (lCons (xTup (lCons (xCst (.int 1)) (lCons (xCst (.int 1)) (lCons (xCst (.int 1)) lNil)))) (lCons (xTup (lCons (xCst (.int 1)) (lCons (xCst (.int 2)) (lCons (xCst (.int 1)) (lCons (xCst (.int 2)) lNil))))) (lCons (xTup (lCons (xCst (.int 1)) (lCons (xCst (.int 2)) (lCons (xCst (.int 1)) lNil)))) (lCons (xVar 0) (lCons (xBin vMul (xTup (lCons (xCst (.int 1)) (lCons (xCst (.int 2)) (lCons (xCst (.int 2)) lNil)))) (xCst (.int 3))) lNil))))))) none) (lCons (xCall cf 6 [0] (lCons (xLst (lCons (xCst (.int 2)) (lCons (xCst (.int 2)) lNil))) lNil)) (lCons (xCall0 cf 6 (lCons (xTup (lCons (xCst (.int 1)) (lCons (xCst (.int 1)) (lCons (xCst (.int 2)) (lCons (xCst (.int 1)) (lCons (xCst (.int 1)) (lCons (xCst (.int 2)) lNil))))))) lNil)) lNil)))))) (sRet (xCall0 cf 13 (lCons (xVar 1) (lCons (xBin vAdd (xVar 3) (xLst (lCons (xLst (lCons (xTup (lCons (xTup (lCons (xCst (.int 1)) lNil)) (lCons (xCst (.int 1)) lNil))) (lCons (xTup (lCons (xTup (lCons (xCst (.int 1)) lNil)) (lCons (xCst (.int 3)) lNil))) (lCons (xTup (lCons (xTup (lCons (xCst (.int 1)) (lCons (xCst (.int 2)) lNil))) (lCons (xCst (.int 2)) lNil))) (lCons (xTup (lCons (xTup (lCons (xCst (.int 1)) (lCons (xCst (.int 2)) (lCons (xCst (.int 1)) lNil)))) (lCons (xCst (.int 1)) lNil))) (lCons (xTup (lCons (xVar 0) (lCons (xCst (.int 1)) lNil))) (lCons (xTup (lCons (xTup (lCons (xCst (.int 1)) (lCons (xCst (.int 2)) (lCons (xCst (.int 2)) lNil)))) (lCons (xCst (.int 3)) lNil))) lNil))))))) (lCons (xTup (lCons (xTup (lCons (xCst (.int 2)) lNil)) (lCons (xCst (.int 2)) lNil))) (lCons (xTup (lCons (xTup (lCons (xCst (.int 1)) (lCons (xCst (.int 1)) (lCons (xCst (.int 2)) lNil)))) (lCons (xCst (.int 2)) lNil))) lNil))))) lNil)))))))))))))
noncomputable def f15 (cf : CF) : List EV → EH → Out := mkF 0 5 (m15 cf)
abbrev s15 : Stmt := top 21
theorem sc15 : FnScope (["row", "got", "own", "due", "others"] : List Str) ([] : List Str) (defScope s15) := ⟨rfl, rfl, rfl, by decide +kernel, rfl, by decide +kernel, by decide +kernel⟩
noncomputable def m16 (cf : CF) : MS := (sSeq (sAsg (gVar 0) (xTup (lCons (xCst (.int 2)) (lCons (xCst (.int 1)) (lCons (xCst (.int 1)) (lCons (xCst (.int 2)) lNil)))))) (sSeq (sAsg (gVar 1) (xLst (lCons (xLc NN [2] (xCall0 cf 8 (lCons (xVar 0) (lCons (xCst (.int 1)) (lCons (xVar 2) lNil)))) (gVar 2) (xTup (lCons (xCst (.int 0)) (lCons (xCst (.int 1)) (lCons (xCst (.int 2)) (lCons (xCst (.int 3)) (lCons (xCst (.int 4)) lNil)))))) none) (lCons (xCall0 cf 8 (lCons (xVar 0) (lCons (xCst (.int 1)) (lCons (xBin vPow (xCst (.int 10)) (xCst (.int 30))) lNil)))) (lCons (xCall cf 8 [2, 1, 0] (lCons (xBin vSub (xBin vPow (xCst (.int 10)) (xCst (.int 30))) (xCst (.int 2))) (lCons (xCst (.int 3)) (lCons (xB bList (lCons (xVar 0) lNil)) lNil)))) (lCons (xCall0 cf 8 (lCons (xTup (lCons (xCst (.int 1)) (lCons (xCst (.int 2)) (lCons (xCst (.int 3)) lNil)))) (lCons (xCst (.int 2)) (lCons (xBin vPow (xCst (.int 10)) (xCst (.int 30))) lNil)))) lNil)))))) (sSeq (sAsg (gVar 3) (xLst (lCons (xLst (lCons (xCst (.int 1)) (lCons (xCst (.int 1)) (lCons (xCst (.int 2)) (lCons (xCst (.int 2)) (lCons (xCst (.int 1)) lNil)))))) (lCons (xCst (.int 1)) (lCons (xCst (.int 1)) (lCons (xCst (.int 1)) lNil)))))) (sSeq (sAsg (gVar 1) (xBin vAdd (xVar 1) (xLst (lCons (xCall0 cf 9 (lCons (xVar 0) (lCons (xCst (.int 3)) (lCons (xCst (.int 6)) lNil)))) (lCons (xCall0 cf 9 (lCons (xVar 0) (lCons (xCst (.int 0)) (lCons (xCst (.int 0)) lNil)))) (lCons (xCall cf 9 [2, 1, 0] (lCons (xCst (.int 5)) (lCons (xCst (.int 1)) (lCons (xLst (lCons (xCst (.int 1)) (lCons (xCst (.int 2)) lNil))) lNil)))) (lCons (xCall0 cf 9 (lCons (xTup (lCons (xCst (.int 3)) lNil)) (lCons (xCst (.int 0)) (lCons (xCst (.int 4)) lNil)))) (lCons (xB bLen (lCons (xCall0 cf 9 (lCons (xVar 0) (lCons (xCst (.int 2)) (lCons (xCst (.int 300)) lNil)))) lNil)) (lCons (xSl (xCall0 cf 9 (lCons (xVar 0) (lCons (xCst (.int 2)) (lCons (xCst (.int 300)) lNil)))) (some (xCst (.int 296))) none) lNil))))))))) (sSeq (sAsg (gVar 3) (xBin vAdd (xVar 3) (xLst (lCons (xTup (lCons (xCst (.int 2)) (lCons (xCst (.int 2)) (lCons (xCst (.int 1)) (lCons (xCst (.int 1)) (lCons (xCst (.int 2)) (lCons (xCst (.int 2)) lNil))))))) (lCons (xTup lNil) (lCons (xTup (lCons (xCst (.int 2)) (lCons (xCst (.int 1)) (lCons (xCst (.int 2)) (lCons (xCst (.int 1)) (lCons (xCst (.int 2)) lNil)))))) (lCons (xTup (lCons (xCst (.int 3)) (lCons (xCst (.int 3)) (lCons (xCst (.int 3)) (lCons (xCst (.int 3)) lNil))))) (lCons (xCst (.int 300)) (lCons (xTup (lCons (xCst (.int 1)) (lCons (xCst (.int 2)) (lCons (xCst (.int 2)) (lCons (xCst (.int 1)) lNil))))) lNil))))))))) (sSeq (sAsg (gVar 4) (xLst (lCons (xTup (lCons (xTup (lCons (xCst (.int 1)) (lCons (xCst (.int 2)) lNil))) (lCons (xTup (lCons (xCst (.int 1)) (lCons (xCst (.int 2)) (lCons (xCst (.int 1)) (lCons (xCst (.int 2)) lNil))))) lNil))) (lCons (xTup (lCons (xTup (lCons (xCst (.int 1)) (lCons (xCst (.int 2)) lNil))) (lCons (xTup (lCons (xCst (.int 2)) (lCons (xCst (.int 1)) lNil))) lNil))) (lCons (xTup (lCons (xTup (lCons (xCst (.int 1)) lNil)) (lCons (xTup (lCons (xCst (.int 1)) (lCons (xCst (.int 1)) (lCons (xCst (.int 1)) lNil)))) lNil))) (lCons (xTup (lCons (xTup (lCons (xCst (.int 1)) (lCons (xCst (.int 1)) (lCons (xCst (.int 2)) lNil)))) (lCons (xTup (lCons (xCst (.int 1)) (lCons (xCst (.int 1)) (lCons (xCst (.int 2)) (lCons (xCst (.int 1)) lNil))))) lNil))) (lCons (xTup (lCons (xBin vMul (xTup (lCons (xCst (.int 1)) (lCons (xCst (.int 2)) lNil))) (xCst (.int 3))) (lCons (xBin vMul (xTup (lCons (xCst (.int 1)) (lCons (xCst (.int 2)) lNil))) (xCst (.int 2))) lNil))) (lCons (xTup (lCons (xTup (lCons (xCst (.int 1)) (lCons (xCst (.int 2)) (lCons (xCst (.int 1)) lNil)))) (lCons (xTup (lCons (xCst (.int 1)) (lCons (xCst (.int 2)) lNil))) lNil))) lNil)))))))) (sSeq (sAsg (gVar 1) (xBin vAdd (xVar 1) (xLst (lCons (xLc NN [2] (xCall0 cf 10 (lCons (xBin vIx (xVar 2) (xCst (.int 0))) (lCons (xBin vIx (xVar 2) (xCst (.int 1))) lNil))) (gVar 2) (xVar 4) none) (lCons (xCall cf 10 [1, 0] (lCons (xLst (lCons (xCst (.int 2)) (lCons (xCst (.int 2)) lNil))) (lCons (xLst (lCons (xCst (.int 2)) lNil)) lNil))) (lCons (xLc NN [2] (xCall0 cf 14 (lCons (xCst (.int 2)) (lCons (xVar 2) lNil))) (gVar 2) (xVar 4) none) lNil)))))) (sSeq (sAsg (gVar 5) (xLst (lCons (xCst (.str [99, 97, 110, 110, 111, 116])) (lCons (xCst (.bl true)) lNil)))) (sSeq (sAsg (gVar 3) (xBin vAdd (xVar 3) (xLst (lCons (xLst (lCons (xCst (.bl true)) (lCons (xCst (.bl false)) (lCons (xCst (.bl true)) (lCons (xCst (.bl false)) (lCons (xCst (.bl true)) (lCons (xCst (.bl false)) lNil))))))) (lCons (xCst (.bl true)) (lCons (xLst (lCons (xVar 5) (lCons (xCst (.int 0)) (lCons (xVar 5) (lCons (xCst (.int 5)) (lCons (xVar 5) (lCons (xCst (.int 3)) lNil))))))) lNil)))))) (sSeq (sAsg (gVar 6) (xLst (lCons (xTup (lCons (xTup (lCons (xCst (.int 1)) (lCons (xCst (.int 1)) (lCons (xCst (.int 2)) lNil)))) (lCons (xTup (lCons (xCst (.int 1)) (lCons (xCst (.int 1)) lNil))) lNil))) (lCons (xTup (lCons (xTup (lCons (xCst (.int 1)) (lCons (xCst (.int 2)) (lCons (xCst (.int 1)) (lCons (xCst (.int 1)) (lCons (xCst (.int 2)) lNil)))))) (lCons (xTup (lCons (xCst (.int 1)) (lCons (xCst (.int 2)) (lCons (xCst (.int 1)) lNil)))) lNil))) (lCons (xTup (lCons (xTup (lCons (xCst (.int 1)) (lCons (xCst (.int 1)) (lCons (xCst (.int 1)) (lCons (xCst (.int 1)) (lCons (xCst (.int 1)) (lCons (xCst (.int 2)) lNil))))))) (lCons (xTup (lCons (xCst (.int 1)) lNil)) lNil))) (lCons (xTup (lCons (xTup (lCons (xCst (.int 1)) (lCons (xCst (.int 1)) (lCons (xCst (.int 2)) (lCons (xCst (.int 1)) (lCons (xCst (.int 1)) lNil)))))) (lCons (xTup (lCons (xCst (.int 1)) (lCons (xCst (.int 1)) (lCons (xCst (.int 2)) lNil)))) lNil))) (lCons (xTup (lCons (xTup (lCons (xCst (.int 3)) (lCons (xCst (.int 3)) lNil))) (lCons (xTup (lCons (xCst (.int 3)) (lCons (xCst (.int 1)) lNil))) lNil))) lNil))))))) (sSeq (sAsg (gVar 1) (xBin vAdd (xVar 1) (xLst (lCons (xLc NN [2] (xCall0 cf 14 (lCons (xCst (.int 2)) (lCons (xVar 2) lNil))) (gVar 2) (xVar 6) none) (lCons (xCall cf 11 [1, 0] (lCons (xLst (lCons (xCst (.int 1)) (lCons (xCst (.int 2)) (lCons (xCst (.int 1)) lNil)))) (lCons (xLst (lCons (xCst (.int 1)) (lCons (xCst (.int 2)) lNil))) lNil))) (lCons (xCall0 cf 11 (lCons (xTup (lCons (xCst (.int 1)) (lCons (xCst (.int 1)) (lCons (xCst (.int 1)) (lCons (xCst (.int 2)) lNil))))) (lCons (xTup (lCons (xCst (.int 1)) (lCons (xCst (.int 1)) (lCons (xCst (.int 1)) (lCons (xCst (.int 1)) (lCons (xCst (.int 1)) (lCons (xCst (.int 1)) (lCons (xCst (.int 2)) lNil)))))))) lNil))) lNil)))))) (sRet (xCall0 cf 13 (lCons (xVar 1) (lCons (xBin vAdd (xVar 3) (xLst (lCons (xLst (lCons (xCst (.int 2)) (lCons (xCst (.int 6)) (lCons (xCst (.int 5)) (lCons (xCst (.int 5)) (lCons (xCst (.int 1)) lNil)))))) (lCons (xCst (.int 3)) (lCons (xCst (.int 3)) lNil))))) lNil)))))))))))))))
noncomputable def f16 (cf : CF) : List EV → EH → Out := mkF 0 7 (m16 cf)
abbrev s16 : Stmt := top 22
theorem sc16 : FnScope (["row", "got", "own", "due", "pairs", "none", "far"] : List Str) ([] : List Str) (defScope s16) := ⟨rfl, rfl, rfl, by decide +kernel, rfl, by decide +kernel, by decide +kernel⟩
noncomputable def m17 (cf : CF) : MS := (sSeq (sAsg (gTup [(gVar 0), (gVar 1)]) (xTup (lCons (xTup (lCons (xCst (.int 2)) (lCons (xCst (.int 1)) (lCons (xCst (.int 1)) (lCons (xCst (.int 2)) lNil))))) (lCons (xTup (lCons (xCst (.int 4)) (lCons (xNeg (xCst (.int 1))) (lCons (xBin vPow (xCst (.int 10)) (xCst (.int 9))) lNil)))) lNil)))) (sSeq (sAsg (gVar 2) (xLst (lCons (xLc NN [3] (xCall0 cf 14 (lCons (xCst (.int 0)) (lCons (xTup (lCons (xVar 0) (lCons (xVar 3) (lCons (xCst (.int 0)) lNil)))) lNil))) (gVar 3) (xVar 1) none) (lCons (xLc NN [3] (xCall0 cf 14 (lCons (xCst (.int 1)) (lCons (xTup (lCons (xVar 0) (lCons (xVar 3) (lCons (xCst (.int 1)) lNil)))) lNil))) (gVar 3) (xVar 1) none) (lCons (xCall0 cf 14 (lCons (xCst (.int 0)) (lCons (xTup (lCons (xTup (lCons (xCst (.int 1)) lNil)) (lCons (xCst (.int 1)) (lCons (xBin vPow (xCst (.int 10)) (xCst (.int 30))) lNil)))) lNil))) lNil))))) (sSeq (sAsg (gVar 4) (xBin vAdd (xBin vMul (xLst (lCons (xLc NN [3] (xLst (lCons (xCst (.str [112, 108, 97, 99, 101])) (lCons (xVar 3) (lCons (xCst (.bl true)) lNil)))) (gVar 3) (xVar 1) none) lNil)) (xCst (.int 2))) (xLst (lCons (xLst (lCons (xCst (.str [112, 108, 97, 99, 101])) (lCons (xCst (.int 1)) (lCons (xCst (.bl true)) lNil)))) lNil)))) (sSeq (sPar2 5 6 (lCons (xLst (lCons (xTup lNil) (lCons (xTup (lCons (xCst (.int 1)) lNil)) (lCons (xTup (lCons (xCst (.int 2)) (lCons (xCst (.int 1)) (lCons (xCst (.int 2)) lNil)))) (lCons (xBin vMul (xTup (lCons (xCst (.int 1)) lNil)) (xCst (.int 70))) lNil))))) (lCons (xLst (lCons (xTup (lCons (xCst (.int 3)) lNil)) (lCons (xTup (lCons (xCst (.int 0)) lNil)) (lCons (xTup (lCons (xNeg (xCst (.int 1))) lNil)) (lCons (xTup (lCons (xCst (.bl true)) lNil)) (lCons (xLst (lCons (xCst (.int 1)) lNil)) (lCons (xTup (lCons (xCst (.int 1)) (lCons (xCst .non) lNil))) (lCons (xTup (lCons (xCst (.str [49])) lNil)) (lCons (xCst .non) (lCons (xCst (.int 1)) (lCons (xTup (lCons (xTup (lCons (xCst (.int 1)) lNil)) lNil)) (lCons (xCst (.str [49, 50])) (lCons (xTup (lCons (xCst (.int 2)) (lCons (xCst (.bl false)) lNil))) lNil))))))))))))) lNil))) (sSeq (sAsg (gVar 2) (xBin vAdd (xVar 2) (xLst (lCons (xLc NN [3] (xCall0 cf 1 (lCons (xCst (.int 2)) (lCons (xVar 3) lNil))) (gVar 3) (xVar 5) none) (lCons (xLc NN [3] (xCall0 cf 1 (lCons (xCst (.int 2)) (lCons (xVar 3) lNil))) (gVar 3) (xVar 6) none) (lCons (xLc NN [3] (xCall0 cf 2 (lCons (xCst (.int 2)) (lCons (xVar 3) lNil))) (gVar 3) (xVar 5) none) (lCons (xLc NN [3] (xCall0 cf 2 (lCons (xCst (.int 2)) (lCons (xVar 3) lNil))) (gVar 3) (xVar 6) none) lNil))))))) (sSeq (sAsg (gVar 4) (xBin vAdd (xVar 4) (xLst (lCons (xBin vMul (xLst (lCons (xCst (.bl true)) lNil)) (xCst (.int 4))) (lCons (xBin vMul (xLst (lCons (xCst (.bl false)) lNil)) (xCst (.int 12))) (lCons (xBin vAdd (xLst (lCons (xCst (.bl false)) lNil)) (xBin vMul (xLst (lCons (xCst (.bl true)) lNil)) (xCst (.int 3)))) (lCons (xBin vMul (xLst (lCons (xCst (.bl false)) lNil)) (xCst (.int 12))) lNil))))))) (sSeq (sAsg (gVar 2) (xBin vAdd (xVar 2) (xLst (lCons (xCall cf 1 [1, 0] (lCons (xTup (lCons (xCst (.int 3)) lNil)) (lCons (xCst (.int 3)) lNil))) (lCons (xCall cf 2 [1, 0] (lCons (xTup (lCons (xCst (.int 1)) (lCons (xCst (.int 3)) lNil))) (lCons (xCst (.int 3)) lNil))) (lCons (xCall0 cf 2 (lCons (xCst (.int 1)) (lCons (xTup (lCons (xCst (.int 1)) (lCons (xCst (.int 2)) lNil))) lNil))) (lCons (xCall0 cf 1 (lCons (xCst (.int 1)) (lCons (xTup (lCons (xCst (.int 1)) (lCons (xCst (.int 1)) lNil))) lNil))) lNil))))))) (sRet (xCall0 cf 13 (lCons (xVar 2) (lCons (xBin vAdd (xVar 4) (xLst (lCons (xCst (.bl true)) (lCons (xCst (.bl true)) (lCons (xCst (.bl false)) (lCons (xCst (.bl true)) lNil)))))) lNil)))))))))))
noncomputable def f17 (cf : CF) : List EV → EH → Out := mkF 0 7 (m17 cf)
abbrev s17 : Stmt := top 23
theorem sc17 : FnScope (["row", "rooms", "got", "own", "due", "goods", "bads"] : List Str) ([] : List Str) (defScope s17) := ⟨rfl, rfl, rfl, by decide +kernel, rfl, by decide +kernel, by decide +kernel⟩
noncomputable def m18 (cf : CF) : MS := (sRet (xAnd (xCall0 cf 15 lNil) (xAnd (xCall0 cf 16 lNil) (xCall0 cf 17 lNil))))
noncomputable def f18 (cf : CF) : List EV → EH → Out := mkF 1 0 (m18 cf)
abbrev s18 : Stmt := top 24
theorem sc18 : FnScope (["script"] : List Str) (["script"] : List Str) (defScope s18) := ⟨rfl, rfl, rfl, by decide +kernel, rfl, by decide +kernel, by decide +kernel⟩
noncomputable def tab : List (CF → List EV → EH → Out) := [f0, f1, f2, f3, f4, f5, f6, f7, f8, f9, f10, f11, f12, f13, f14, f15, f16, f17, f18]
noncomputable def cfN (n : Nat) : CF := n.rec (fun _ _ _ => .bad) fun _ cf i vs h => (nth tab i).rec .bad fun f => f cf vs h
theorem ran : isT (f18 (cfN 15) [.opq] ⟨0, .nil⟩) = true := by decide +kernel
theorem hv_LookupError : bootBuiltins "LookupError" = some (.type "LookupError") := by decide +kernel
theorem hv_ValueError : bootBuiltins "ValueError" = some (.type "ValueError") := by decide +kernel
theorem hv_all : bootBuiltins "all" = some (.builtin "all") := by decide +kernel
theorem hv_bool : bootBuiltins "bool" = some (.type "bool") := by decide +kernel
theorem hv_int : bootBuiltins "int" = some (.type "int") := by decide +kernel
theorem hv_isinstance : bootBuiltins "isinstance" = some (.builtin "isinstance") := by decide +kernel
theorem hv_len : bootBuiltins "len" = some (.builtin "len") := by decide +kernel
theorem hv_list : bootBuiltins "list" = some (.type "list") := by decide +kernel
theorem hv_min : bootBuiltins "min" = some (.builtin "min") := by decide +kernel
theorem hv_range : bootBuiltins "range" = some (.type "range") := by decide +kernel
theorem hv_str : bootBuiltins "str" = some (.type "str") := by decide +kernel
theorem hv_tuple : bootBuiltins "tuple" = some (.type "tuple") := by decide +kernel
theorem hv_zip : bootBuiltins "zip" = some (.type "zip") := by decide +kernel
/-- where things stand -/
structure Ad where
  a0 : Addr
  d0 : FuncData
  a1 : Addr
  d1 : FuncData
  a2 : Addr
  d2 : FuncData
  a3 : Addr
  d3 : FuncData
  a4 : Addr
  d4 : FuncData
  a5 : Addr
  d5 : FuncData
  a6 : Addr
  d6 : FuncData
  a7 : Addr
  d7 : FuncData
  a8 : Addr
  d8 : FuncData
  a9 : Addr
  d9 : FuncData
  a10 : Addr
  d10 : FuncData
  a11 : Addr
  d11 : FuncData
  a12 : Addr
  d12 : FuncData
  a13 : Addr
  d13 : FuncData
  a14 : Addr
  d14 : FuncData
  a15 : Addr
  d15 : FuncData
  a16 : Addr
  d16 : FuncData
  a17 : Addr
  d17 : FuncData
  a18 : Addr
  d18 : FuncData
  c0 : Addr
  c1 : Addr
  t1 : Addr
  q1 : Addr
  t9 : Addr
  q9 : Addr
def Ad.fa (a : Ad) (i : Nat) : Option Addr := [a.a0, a.a1, a.a2, a.a3, a.a4, a.a5, a.a6, a.a7, a.a8, a.a9, a.a10, a.a11, a.a12, a.a13, a.a14, a.a15, a.a16, a.a17, a.a18][i]?
def Ad.ca (a : Ad) (i : Nat) : Option (Addr × List Str) := [(a.c0, [("place" : Str)]), (a.c1, [])][i]?
noncomputable def pn (i : Nat) : List Str := (nth [(["thing"] : List Str), (["wide", "thing"] : List Str), (["wide", "thing"] : List Str), (["ring", "number"] : List Str), (["ring"] : List Str), (["one", "other"] : List Str), (["ring"] : List Str), (["ring", "room"] : List Str), (["ring", "room", "step"] : List Str), (["ring", "room", "steps"] : List Str), (["one", "other"] : List Str), (["one", "other"] : List Str), (["matter"] : List Str), (["got", "goal"] : List Str), (["door", "own"] : List Str), ([] : List Str), ([] : List Str), ([] : List Str), (["script"] : List Str)] i).getD []
def KT (K : PySem.W.Frag) (a : Ad) : Kit where
  K := K
  fa := a.fa
  ca := a.ca
  tb := fun P => P = a.q1 ∨ P = a.q9
  inv := fun _ _ => True
  sl := fun _ => True
  fr := fun _ => true
  cl := fun _ _ _ _ h => h
  mon := fun _ _ _ _ h _ _ _ => h
structure Tx (K : PySem.W.Frag) (mg : Str → Option Value) (a : Ad) (fI : Addr) : Prop where
  f0 : Fun K "is_number" "is_number" s0 a.a0 a.d0
  g0 : mg "is_number" = some (.ref a.a0)
  f1 : Fun K "is_word" "is_word" s1 a.a1 a.d1
  g1 : mg "is_word" = some (.ref a.a1)
  f2 : Fun K "is_ring" "is_ring" s2 a.a2 a.d2
  g2 : mg "is_ring" = some (.ref a.a2)
  f3 : Fun K "turned" "turned" s3 a.a3 a.d3
  g3 : mg "turned" = some (.ref a.a3)
  f4 : Fun K "least_turned" "least_turned" s4 a.a4 a.d4
  g4 : mg "least_turned" = some (.ref a.a4)
  f5 : Fun K "are_turned" "are_turned" s5 a.a5 a.d5
  g5 : mg "are_turned" = some (.ref a.a5)
  f6 : Fun K "root" "root" s6 a.a6 a.d6
  g6 : mg "root" = some (.ref a.a6)
  f7 : Fun K "check_room" "check_room" s7 a.a7 a.d7
  g7 : mg "check_room" = some (.ref a.a7)
  f8 : Fun K "letter_at" "letter_at" s8 a.a8 a.d8
  g8 : mg "letter_at" = some (.ref a.a8)
  f9 : Fun K "read" "read" s9 a.a9 a.d9
  g9 : mg "read" = some (.ref a.a9)
  f10 : Fun K "look_alike" "look_alike" s10 a.a10 a.d10
  g10 : mg "look_alike" = some (.ref a.a10)
  f11 : Fun K "first_apart" "first_apart" s11 a.a11 a.d11
  g11 : mg "first_apart" = some (.ref a.a11)
  f12 : Fun K "_law_lists" "_law_lists" s12 a.a12 a.d12
  g12 : mg "_law_lists" = some (.ref a.a12)
  f13 : Fun K "_law_same" "_law_same" s13 a.a13 a.d13
  g13 : mg "_law_same" = some (.ref a.a13)
  f14 : Fun K "_law_heard" "_law_heard" s14 a.a14 a.d14
  g14 : mg "_law_heard" = some (.ref a.a14)
  f15 : Fun K "_law_turned_right" "_law_turned_right" s15 a.a15 a.d15
  g15 : mg "_law_turned_right" = some (.ref a.a15)
  f16 : Fun K "_law_read_right" "_law_read_right" s16 a.a16 a.d16
  g16 : mg "_law_read_right" = some (.ref a.a16)
  f17 : Fun K "_law_refused_right" "_law_refused_right" s17 a.a17 a.d17
  g17 : mg "_law_refused_right" = some (.ref a.a17)
  f18 : Fun K "law" "law" s18 a.a18 a.d18
  g18 : mg "law" = some (.ref a.a18)
  z_LookupError : mg "LookupError" = none
  z_ValueError : mg "ValueError" = none
  z_all : mg "all" = none
  z_bool : mg "bool" = none
  z_int : mg "int" = none
  z_isinstance : mg "isinstance" = none
  z_len : mg "len" = none
  z_list : mg "list" = none
  z_min : mg "min" = none
  z_range : mg "range" = none
  z_str : mg "str" = none
  z_tuple : mg "tuple" = none
  z_zip : mg "zip" = none
  gc0 : mg "NoPlace" = some (.ref a.c0)
  kc0 : PySem.W.keepIn K (.ref a.c0) = true
  e0 : ErC K a.c0
  ki0 : PySem.W.kitOne K (.ref a.c0) (.type "LookupError") = some true
  plc : Plc.Txt K mg a.c0 fI
  gc1 : mg "CanNot" = some (.ref a.c1)
  kc1 : PySem.W.keepIn K (.ref a.c1) = true
  e1 : ErC K a.c1
  ki1 : PySem.W.kitOne K (.ref a.c1) (.type "ValueError") = some true
  ex1 : PySem.W.excIn K a.c1 [.type "ValueError", .type "Exception", .type "BaseException", .type "object"] "ValueError.__new__" = true
  tc1 : PySem.W.typeIn K (.ref a.c1) = some (.type "type")
  exm : ExmT (KT K a)
  cd1 : a.d1.code = .ref a.t1
  cd9 : a.d9.code = .ref a.t9
section
variable {P : Program} {w : World} {K : PySem.W.Frag} {mg : Str → Option Value} {base : Heap} {a : Ad} {fI : Addr}
theorem Tx.ca0 (T : Tx K mg a fI) : (KT K a).ca 0 = some (a.c0, [("place" : Str)]) := rfl
theorem Tx.xf0 (T : Tx K mg a fI) : XfC K a.c0 := T.e0.xf
theorem Tx.no0 (T : Tx K mg a fI) : PySem.W.findIn K (.ref a.c0) "place" = some none := T.plc.noN
theorem Tx.ca1 (T : Tx K mg a fI) : (KT K a).ca 1 = some (a.c1, []) := rfl
theorem Tx.xf1 (T : Tx K mg a fI) : XfC K a.c1 := T.e1.xf
theorem Tx.p1 (T : Tx K mg a fI) : (KT K a).tb a.q1 := by unfold KT; simp
theorem Tx.p9 (T : Tx K mg a fI) : (KT K a).tb a.q9 := by unfold KT; simp
/-- the tables behind the defs that make generator expressions -/
structure Tb (base : Heap) (mg : Str → Option Value) (a : Ad) : Prop where
  b1 : GxR.TabB base mg a.t1 a.q1
  b9 : GxR.TabB base mg a.t9 a.q9
variable {n : Nat} {cf : CF}
theorem b0 (T : Tx K mg a fI) (B : Tb base mg a) (C : Cls2 P w K mg base pn (KT K a) (4 * n) cf) : FnOk P w K mg base (L2.CX P w) (4 * n + 4) a.a0 a.d0 (["thing"] : List Str) (spF (KT K a) (f0 cf)) := by
  refine def_okC (S := KT K a) T.f0 sc0 (fun _ => trivial) rfl rfl fun cdv hcd0 A outer s H E hr => ?_
  have hr0 : Room (4 * n) (A.deeper (envOfC "is_number" (defScope s0) s.heap.objs.size a.a0 cdv)) := hr.mono (by omega)
  have hr2 : Room (4 * n + 1 + 1) (A.deeper (envOfC "is_number" (defScope s0) s.heap.objs.size a.a0 cdv)) := hr.mono (by omega)
  have tk : Takes (cxOf (L2.CX P w) P w K mg base (["thing"] : List Str) "is_number" (defScope s0) a.a0 cdv A outer s H E) (fun c d _ H => E c d H) := takes_of rfl rfl rfl rfl
  exact (s_one (s_ret (x_and rfl (x_blt call_isA rfl T.z_isinstance hv_isinstance v_isi (l_cons (x_var 0) (l_cons (x_ty (n := 0) rfl rfl T.z_int hv_int) l_nil))) (x_one (x_not rfl (x_blt call_isA rfl T.z_isinstance hv_isinstance v_isi (l_cons (x_var 0) (l_cons (x_ty (n := 1) rfl rfl T.z_bool hv_bool) l_nil))))))))
theorem b1 (T : Tx K mg a fI) (B : Tb base mg a) (C : Cls2 P w K mg base pn (KT K a) (4 * n) cf) : FnOk P w K mg base (L2.CX P w) (4 * n + 4) a.a1 a.d1 (["wide", "thing"] : List Str) (spF (KT K a) (f1 cf)) := by
  refine def_okC (S := KT K a) T.f1 sc1 (fun _ => trivial) rfl rfl fun cdv hcd0 A outer s H E hr => ?_
  have hr0 : Room (4 * n) (A.deeper (envOfC "is_word" (defScope s1) s.heap.objs.size a.a1 cdv)) := hr.mono (by omega)
  have hr2 : Room (4 * n + 1 + 1) (A.deeper (envOfC "is_word" (defScope s1) s.heap.objs.size a.a1 cdv)) := hr.mono (by omega)
  have tk : Takes (cxOf (L2.CX P w) P w K mg base (["wide", "thing", "letter"] : List Str) "is_word" (defScope s1) a.a1 cdv A outer s H E) (fun c d _ H => E c d H) := takes_of rfl rfl rfl rfl
  have hcd : cdv = .ref a.t1 := hcd0.symm.trans T.cd1
  exact (s_one (s_ret (x_and rfl (x_blt call_isA rfl T.z_isinstance hv_isinstance v_isi (l_cons (x_var 1) (l_cons (x_ty (n := 2) rfl rfl T.z_tuple hv_tuple) l_nil))) (x_one (x_boolGx (all := true) (N := NN) (own := [("letter", 2)]) (t := none) rfl rfl (fun _ _ => rfl) T.p1 hr2 rfl T.z_all B.b1 hcd (gxOk_by (N := (["wide", "thing", "letter"] : List Str)) (sc := defScope s1) (by decide +kernel)) sc1.nd (i_seq rfl (x_var 1)) ⟨fun _ _ _ _ _ _ _ _ r => (pg_name (i := 2) sc1.nd rfl (by first | exact .inl rfl | exact .inr rfl)), fun _ _ _ _ _ _ _ _ r => pts_nil, fun _ _ _ _ _ _ _ _ r => (x_and rfl (c_call 0 C rfl (r.mono (by omega) : Room (4 * n) _) rfl T.g0 takes0 (l_cons (x_var 2) l_nil)) (x_one (x_chain (op_leO rfl (r.mono (by omega) : Room (4 * n) _)) (op_leO rfl (r.mono (by omega) : Room (4 * n) _)) v_le v_le (x_int) (x_var 2) (x_var 0))))⟩ (own_var 2 _ (by decide)) (fun _ => rfl))))))
theorem b2 (T : Tx K mg a fI) (B : Tb base mg a) (C : Cls2 P w K mg base pn (KT K a) (4 * n) cf) : FnOk P w K mg base (L2.CX P w) (4 * n + 4) a.a2 a.d2 (["wide", "thing"] : List Str) (spF (KT K a) (f2 cf)) := by
  refine def_okC (S := KT K a) T.f2 sc2 (fun _ => trivial) rfl rfl fun cdv hcd0 A outer s H E hr => ?_
  have hr0 : Room (4 * n) (A.deeper (envOfC "is_ring" (defScope s2) s.heap.objs.size a.a2 cdv)) := hr.mono (by omega)
  have hr2 : Room (4 * n + 1 + 1) (A.deeper (envOfC "is_ring" (defScope s2) s.heap.objs.size a.a2 cdv)) := hr.mono (by omega)
  have tk : Takes (cxOf (L2.CX P w) P w K mg base (["wide", "thing"] : List Str) "is_ring" (defScope s2) a.a2 cdv A outer s H E) (fun c d _ H => E c d H) := takes_of rfl rfl rfl rfl
  exact (s_one (s_ret (x_and rfl (c_call 1 C rfl hr0 rfl T.g1 tk (l_cons (x_var 0) (l_cons (x_var 1) l_nil))) (x_one (x_cmp (op_gtO rfl hr0) v_gt rfl (x_blt call_len_seq rfl T.z_len hv_len v_len (l_cons (x_var 1) l_nil)) (x_int))))))
theorem b3 (T : Tx K mg a fI) (B : Tb base mg a) (C : Cls2 P w K mg base pn (KT K a) (4 * n) cf) : FnOk P w K mg base (L2.CX P w) (4 * n + 4) a.a3 a.d3 (["ring", "number"] : List Str) (spF (KT K a) (f3 cf)) := by
  refine def_okC (S := KT K a) T.f3 sc3 (fun _ => trivial) rfl rfl fun cdv hcd0 A outer s H E hr => ?_
  have hr0 : Room (4 * n) (A.deeper (envOfC "turned" (defScope s3) s.heap.objs.size a.a3 cdv)) := hr.mono (by omega)
  have hr2 : Room (4 * n + 1 + 1) (A.deeper (envOfC "turned" (defScope s3) s.heap.objs.size a.a3 cdv)) := hr.mono (by omega)
  have tk : Takes (cxOf (L2.CX P w) P w K mg base (["ring", "number", "rooms", "begin"] : List Str) "turned" (defScope s3) a.a3 cdv A outer s H E) (fun c d _ H => E c d H) := takes_of rfl rfl rfl rfl
  exact (s_cons (s_set 2 sc3.nd rfl (by first | exact .inl rfl | exact .inr rfl) (x_typ call_tuple_of rfl T.z_tuple hv_tuple v_tuple (l_cons (x_var 0) l_nil)))
      (s_cons (s_set 3 sc3.nd rfl (by first | exact .inl rfl | exact .inr rfl) (x_mod (x_var 1) (x_blt call_len_seq rfl T.z_len hv_len v_len (l_cons (x_var 2) l_nil))))
      (s_one (s_ret (x_add rfl (x_sl rfl (x_var 2) (o_some (x_var 3)) o_none) (x_sl rfl (x_var 2) o_none (o_some (x_var 3))))))))
theorem b4 (T : Tx K mg a fI) (B : Tb base mg a) (C : Cls2 P w K mg base pn (KT K a) (4 * n) cf) : FnOk P w K mg base (L2.CX P w) (4 * n + 4) a.a4 a.d4 (["ring"] : List Str) (spF (KT K a) (f4 cf)) := by
  refine def_okC (S := KT K a) T.f4 sc4 (fun _ => trivial) rfl rfl fun cdv hcd0 A outer s H E hr => ?_
  have hr0 : Room (4 * n) (A.deeper (envOfC "least_turned" (defScope s4) s.heap.objs.size a.a4 cdv)) := hr.mono (by omega)
  have hr2 : Room (4 * n + 1 + 1) (A.deeper (envOfC "least_turned" (defScope s4) s.heap.objs.size a.a4 cdv)) := hr.mono (by omega)
  have tk : Takes (cxOf (L2.CX P w) P w K mg base (["ring", "room"] : List Str) "least_turned" (defScope s4) a.a4 cdv A outer s H E) (fun c d _ H => E c d H) := takes_of rfl rfl rfl rfl
  exact (s_one (s_ret (x_blt (call_minO rfl hr0) rfl T.z_min hv_min v_best (l_cons (x_lc (N := NN) (own := [("room", 1)]) (t := none) (by decide) (fun _ _ => rfl) rfl sc4.nd (i_range1 rfl T.z_range (l_cons (x_blt call_len_seq rfl T.z_len hv_len v_len (l_cons (x_var 0) l_nil)) l_nil)) (blkOk_by (N := (["ring", "room"] : List Str)) (sc := defScope s4) (by decide +kernel)) (fun _ _ _ _ _ => (pg_name (i := 1) sc4.nd rfl (by first | exact .inl rfl | exact .inr rfl))) (own_var 1 _ (by decide)) (fun _ _ _ _ _ => pts_nil) (fun _ _ _ _ _ => (c_call 3 C rfl hr0 rfl T.g3 takes0 (l_cons (x_var 0) (l_cons (x_var 1) l_nil))))) l_nil))))
theorem b5 (T : Tx K mg a fI) (B : Tb base mg a) (C : Cls2 P w K mg base pn (KT K a) (4 * n) cf) : FnOk P w K mg base (L2.CX P w) (4 * n + 4) a.a5 a.d5 (["one", "other"] : List Str) (spF (KT K a) (f5 cf)) := by
  refine def_okC (S := KT K a) T.f5 sc5 (fun _ => trivial) rfl rfl fun cdv hcd0 A outer s H E hr => ?_
  have hr0 : Room (4 * n) (A.deeper (envOfC "are_turned" (defScope s5) s.heap.objs.size a.a5 cdv)) := hr.mono (by omega)
  have hr2 : Room (4 * n + 1 + 1) (A.deeper (envOfC "are_turned" (defScope s5) s.heap.objs.size a.a5 cdv)) := hr.mono (by omega)
  have tk : Takes (cxOf (L2.CX P w) P w K mg base (["one", "other"] : List Str) "are_turned" (defScope s5) a.a5 cdv A outer s H E) (fun c d _ H => E c d H) := takes_of rfl rfl rfl rfl
  exact (s_one (s_ret (x_cmp (op_eqD (hu64 hr0)) v_eq rfl (c_call 4 C rfl hr0 rfl T.g4 tk (l_cons (x_var 0) l_nil)) (c_call 4 C rfl hr0 rfl T.g4 tk (l_cons (x_var 1) l_nil)))))
theorem b6 (T : Tx K mg a fI) (B : Tb base mg a) (C : Cls2 P w K mg base pn (KT K a) (4 * n) cf) : FnOk P w K mg base (L2.CX P w) (4 * n + 4) a.a6 a.d6 (["ring"] : List Str) (spF (KT K a) (f6 cf)) := by
  refine def_okC (S := KT K a) T.f6 sc6 (fun _ => trivial) rfl rfl fun cdv hcd0 A outer s H E hr => ?_
  have hr0 : Room (4 * n) (A.deeper (envOfC "root" (defScope s6) s.heap.objs.size a.a6 cdv)) := hr.mono (by omega)
  have hr2 : Room (4 * n + 1 + 1) (A.deeper (envOfC "root" (defScope s6) s.heap.objs.size a.a6 cdv)) := hr.mono (by omega)
  have tk : Takes (cxOf (L2.CX P w) P w K mg base (["ring", "rooms", "size"] : List Str) "root" (defScope s6) a.a6 cdv A outer s H E) (fun c d _ H => E c d H) := takes_of rfl rfl rfl rfl
  exact (s_cons (s_set 1 sc6.nd rfl (by first | exact .inl rfl | exact .inr rfl) (x_typ call_tuple_of rfl T.z_tuple hv_tuple v_tuple (l_cons (x_var 0) l_nil)))
      (s_cons (s_set 2 sc6.nd rfl (by first | exact .inl rfl | exact .inr rfl) (x_int))
      (s_cons (s_whl (N := NN) (passes_of rfl) (t_cmp (op_neD (hu64 hr0)) v_ne rfl (c_call 3 C rfl hr0 rfl T.g3 tk (l_cons (x_var 1) (l_cons (x_var 2) l_nil))) (x_var 1)) (s_one (s_aug 2 sc6.nd rfl (by first | exact .inl rfl | exact .inr rfl) ip_add v_addI (x_int))))
      (s_one (s_ret (x_tup (l_cons (x_sl rfl (x_var 1) o_none (o_some (x_var 2))) (l_cons (x_fdiv (x_blt call_len_seq rfl T.z_len hv_len v_len (l_cons (x_var 1) l_nil)) (x_var 2)) l_nil))))))))
theorem b7 (T : Tx K mg a fI) (B : Tb base mg a) (C : Cls2 P w K mg base pn (KT K a) (4 * n) cf) : FnOk P w K mg base (L2.CX P w) (4 * n + 4) a.a7 a.d7 (["ring", "room"] : List Str) (spF (KT K a) (f7 cf)) := by
  refine def_okC (S := KT K a) T.f7 sc7 (fun _ => trivial) rfl rfl fun cdv hcd0 A outer s H E hr => ?_
  have hr0 : Room (4 * n) (A.deeper (envOfC "check_room" (defScope s7) s.heap.objs.size a.a7 cdv)) := hr.mono (by omega)
  have hr2 : Room (4 * n + 1 + 1) (A.deeper (envOfC "check_room" (defScope s7) s.heap.objs.size a.a7 cdv)) := hr.mono (by omega)
  have tk : Takes (cxOf (L2.CX P w) P w K mg base (["ring", "room"] : List Str) "check_room" (defScope s7) a.a7 cdv A outer s H E) (fun c d _ H => E c d H) := takes_of rfl rfl rfl rfl
  exact (s_one (s_if (t_not (t_chain (op_leO rfl hr0) (op_ltO rfl hr0) v_le v_lt (x_int) (x_var 1) (x_blt call_len_seq rfl T.z_len hv_len v_len (l_cons (x_var 0) l_nil)))) (s_one (s_rz1 (c := 0) rfl T.ca0 T.plc hr0 tk rfl (l_cons (x_var 1) l_nil))) s_nil))
theorem b8 (T : Tx K mg a fI) (B : Tb base mg a) (C : Cls2 P w K mg base pn (KT K a) (4 * n) cf) : FnOk P w K mg base (L2.CX P w) (4 * n + 4) a.a8 a.d8 (["ring", "room", "step"] : List Str) (spF (KT K a) (f8 cf)) := by
  refine def_okC (S := KT K a) T.f8 sc8 (fun _ => trivial) rfl rfl fun cdv hcd0 A outer s H E hr => ?_
  have hr0 : Room (4 * n) (A.deeper (envOfC "letter_at" (defScope s8) s.heap.objs.size a.a8 cdv)) := hr.mono (by omega)
  have hr2 : Room (4 * n + 1 + 1) (A.deeper (envOfC "letter_at" (defScope s8) s.heap.objs.size a.a8 cdv)) := hr.mono (by omega)
  have tk : Takes (cxOf (L2.CX P w) P w K mg base (["ring", "room", "step"] : List Str) "letter_at" (defScope s8) a.a8 cdv A outer s H E) (fun c d _ H => E c d H) := takes_of rfl rfl rfl rfl
  exact (s_cons (s_expr (c_call 7 C rfl hr0 rfl T.g7 tk (l_cons (x_var 0) (l_cons (x_var 1) l_nil))))
      (s_one (s_ret (x_ix rfl (fun _ _ => rfl) (x_var 0) (x_mod (x_add rfl (x_var 1) (x_var 2)) (x_blt call_len_seq rfl T.z_len hv_len v_len (l_cons (x_var 0) l_nil)))))))
theorem b9 (T : Tx K mg a fI) (B : Tb base mg a) (C : Cls2 P w K mg base pn (KT K a) (4 * n) cf) : FnOk P w K mg base (L2.CX P w) (4 * n + 4) a.a9 a.d9 (["ring", "room", "steps"] : List Str) (spF (KT K a) (f9 cf)) := by
  refine def_okC (S := KT K a) T.f9 sc9 (fun _ => trivial) rfl rfl fun cdv hcd0 A outer s H E hr => ?_
  have hr0 : Room (4 * n) (A.deeper (envOfC "read" (defScope s9) s.heap.objs.size a.a9 cdv)) := hr.mono (by omega)
  have hr2 : Room (4 * n + 1 + 1) (A.deeper (envOfC "read" (defScope s9) s.heap.objs.size a.a9 cdv)) := hr.mono (by omega)
  have tk : Takes (cxOf (L2.CX P w) P w K mg base (["ring", "room", "steps", "step"] : List Str) "read" (defScope s9) a.a9 cdv A outer s H E) (fun c d _ H => E c d H) := takes_of rfl rfl rfl rfl
  have hcd : cdv = .ref a.t9 := hcd0.symm.trans T.cd9
  exact (s_cons (s_expr (c_call 7 C rfl hr0 rfl T.g7 tk (l_cons (x_var 0) (l_cons (x_var 1) l_nil))))
      (s_one (s_ret (x_tupGx (N := NN) (own := [("step", 3)]) (t := none) (by decide) (fun _ _ => rfl) T.p9 hr2 rfl T.z_tuple hv_tuple B.b9 hcd (gxOk_by (N := (["ring", "room", "steps", "step"] : List Str)) (sc := defScope s9) (by decide +kernel)) sc9.nd (i_range1 rfl T.z_range (l_cons (x_var 2) l_nil)) ⟨fun _ _ _ _ _ _ _ _ r => (pg_name (i := 3) sc9.nd rfl (by first | exact .inl rfl | exact .inr rfl)), fun _ _ _ _ _ _ _ _ r => pts_nil, fun _ _ _ _ _ _ _ _ r => (x_ix rfl (fun _ _ => rfl) (x_var 0) (x_mod (x_add rfl (x_var 1) (x_var 3)) (x_blt call_len_seq rfl T.z_len hv_len v_len (l_cons (x_var 0) l_nil))))⟩ (own_var 3 _ (by decide)) (fun _ => rfl)))))
theorem b10 (T : Tx K mg a fI) (B : Tb base mg a) (C : Cls2 P w K mg base pn (KT K a) (4 * n) cf) : FnOk P w K mg base (L2.CX P w) (4 * n + 4) a.a10 a.d10 (["one", "other"] : List Str) (spF (KT K a) (f10 cf)) := by
  refine def_okC (S := KT K a) T.f10 sc10 (fun _ => trivial) rfl rfl fun cdv hcd0 A outer s H E hr => ?_
  have hr0 : Room (4 * n) (A.deeper (envOfC "look_alike" (defScope s10) s.heap.objs.size a.a10 cdv)) := hr.mono (by omega)
  have hr2 : Room (4 * n + 1 + 1) (A.deeper (envOfC "look_alike" (defScope s10) s.heap.objs.size a.a10 cdv)) := hr.mono (by omega)
  have tk : Takes (cxOf (L2.CX P w) P w K mg base (["one", "other", "first", "second"] : List Str) "look_alike" (defScope s10) a.a10 cdv A outer s H E) (fun c d _ H => E c d H) := takes_of rfl rfl rfl rfl
  exact (s_cons (s_par2 2 3 rfl sc10.nd rfl rfl (by decide) rfl rfl (l_cons (x_typ call_tuple_of rfl T.z_tuple hv_tuple v_tuple (l_cons (x_var 0) l_nil)) (l_cons (x_typ call_tuple_of rfl T.z_tuple hv_tuple v_tuple (l_cons (x_var 1) l_nil)) l_nil)) rfl)
      (s_one (s_ret (x_cmp (op_eqD (hu64 hr0)) v_eq rfl (x_add rfl (x_var 2) (x_var 3)) (x_add rfl (x_var 3) (x_var 2))))))
theorem b11 (T : Tx K mg a fI) (B : Tb base mg a) (C : Cls2 P w K mg base pn (KT K a) (4 * n) cf) : FnOk P w K mg base (L2.CX P w) (4 * n + 4) a.a11 a.d11 (["one", "other"] : List Str) (spF (KT K a) (f11 cf)) := by
  refine def_okC (S := KT K a) T.f11 sc11 (fun _ => trivial) rfl rfl fun cdv hcd0 A outer s H E hr => ?_
  have hr0 : Room (4 * n) (A.deeper (envOfC "first_apart" (defScope s11) s.heap.objs.size a.a11 cdv)) := hr.mono (by omega)
  have hr2 : Room (4 * n + 1 + 1) (A.deeper (envOfC "first_apart" (defScope s11) s.heap.objs.size a.a11 cdv)) := hr.mono (by omega)
  have tk : Takes (cxOf (L2.CX P w) P w K mg base (["one", "other", "step"] : List Str) "first_apart" (defScope s11) a.a11 cdv A outer s H E) (fun c d _ H => E c d H) := takes_of rfl rfl rfl rfl
  exact (s_cons (s_if (t_gen rfl (fun _ => rfl) (c_call 10 C rfl hr0 rfl T.g10 tk (l_cons (x_var 0) (l_cons (x_var 1) l_nil)))) (s_one (s_rz0 (c := 1) rfl T.ca1 PySem.F.excBase_ValueError T.ex1 T.gc1 T.kc1 (raises_own T.e1.xf.exC T.tc1) tk rfl)) s_nil)
      (s_cons (s_set 2 sc11.nd rfl (by first | exact .inl rfl | exact .inr rfl) (x_int))
      (s_cons (s_whl (N := NN) (passes_of rfl) (t_cmp (op_eqD (hu64 hr0)) v_eq rfl (c_call 8 C rfl hr0 rfl T.g8 tk (l_cons (x_var 0) (l_cons (x_int) (l_cons (x_var 2) l_nil)))) (c_call 8 C rfl hr0 rfl T.g8 tk (l_cons (x_var 1) (l_cons (x_int) (l_cons (x_var 2) l_nil))))) (s_one (s_aug 2 sc11.nd rfl (by first | exact .inl rfl | exact .inr rfl) ip_add v_addI (x_int))))
      (s_one (s_ret (x_var 2))))))
theorem b12 (T : Tx K mg a fI) (B : Tb base mg a) (C : Cls2 P w K mg base pn (KT K a) (4 * n) cf) : FnOk P w K mg base (L2.CX P w) (4 * n + 4) a.a12 a.d12 (["matter"] : List Str) (spF (KT K a) (f12 cf)) := by
  refine def_okC (S := KT K a) T.f12 sc12 (fun _ => trivial) rfl rfl fun cdv hcd0 A outer s H E hr => ?_
  have hr0 : Room (4 * n) (A.deeper (envOfC "_law_lists" (defScope s12) s.heap.objs.size a.a12 cdv)) := hr.mono (by omega)
  have hr2 : Room (4 * n + 1 + 1) (A.deeper (envOfC "_law_lists" (defScope s12) s.heap.objs.size a.a12 cdv)) := hr.mono (by omega)
  have tk : Takes (cxOf (L2.CX P w) P w K mg base (["matter", "own"] : List Str) "_law_lists" (defScope s12) a.a12 cdv A outer s H E) (fun c d _ H => E c d H) := takes_of rfl rfl rfl rfl
  exact (s_one (s_ret (x_ite (t_gen rfl (fun _ => rfl) (x_blt call_isA rfl T.z_isinstance hv_isinstance v_isi (l_cons (x_var 0) (l_cons (x_tup (l_cons (x_ty (n := 3) rfl rfl T.z_list hv_list) (l_cons (x_ty (n := 2) rfl rfl T.z_tuple hv_tuple) l_nil))) l_nil)))) (x_lc (N := NN) (own := [("own", 1)]) (t := none) (by decide) (fun _ _ => rfl) rfl sc12.nd (i_seq rfl (x_var 0)) (blkOk_by (N := (["matter", "own"] : List Str)) (sc := defScope s12) (by decide +kernel)) (fun _ _ _ _ _ => (pg_name (i := 1) sc12.nd rfl (by first | exact .inl rfl | exact .inr rfl))) (own_var 1 _ (by decide)) (fun _ _ _ _ _ => pts_nil) (fun _ _ _ _ _ => (c_call 12 C rfl hr0 rfl T.g12 takes0 (l_cons (x_var 1) l_nil)))) (x_var 0))))
theorem b13 (T : Tx K mg a fI) (B : Tb base mg a) (C : Cls2 P w K mg base pn (KT K a) (4 * n) cf) : FnOk P w K mg base (L2.CX P w) (4 * n + 4) a.a13 a.d13 (["got", "goal"] : List Str) (spF (KT K a) (f13 cf)) := by
  refine def_okC (S := KT K a) T.f13 sc13 (fun _ => trivial) rfl rfl fun cdv hcd0 A outer s H E hr => ?_
  have hr0 : Room (4 * n) (A.deeper (envOfC "_law_same" (defScope s13) s.heap.objs.size a.a13 cdv)) := hr.mono (by omega)
  have hr2 : Room (4 * n + 1 + 1) (A.deeper (envOfC "_law_same" (defScope s13) s.heap.objs.size a.a13 cdv)) := hr.mono (by omega)
  have tk : Takes (cxOf (L2.CX P w) P w K mg base (["got", "goal", "mine_so", "own"] : List Str) "_law_same" (defScope s13) a.a13 cdv A outer s H E) (fun c d _ H => E c d H) := takes_of rfl rfl rfl rfl
  exact (s_cons (s_if (t_gen rfl (fun _ => rfl) (x_blt call_isA rfl T.z_isinstance hv_isinstance v_isi (l_cons (x_var 1) (l_cons (x_tup (l_cons (x_ty (n := 3) rfl rfl T.z_list hv_list) (l_cons (x_ty (n := 2) rfl rfl T.z_tuple hv_tuple) l_nil))) l_nil)))) (s_cons (s_if (PW.pt (t_or (t_cmp (op_neD (hu64 hr0)) v_ne rfl (x_blt call_isA rfl T.z_isinstance hv_isinstance v_isi (l_cons (x_var 0) (l_cons (x_ty (n := 3) rfl rfl T.z_list hv_list) l_nil))) (x_blt call_isA rfl T.z_isinstance hv_isinstance v_isi (l_cons (x_var 1) (l_cons (x_ty (n := 3) rfl rfl T.z_list hv_list) l_nil)))) (t_or1 (t_cmp (op_neD (hu64 hr0)) v_ne rfl (x_blt call_isA rfl T.z_isinstance hv_isinstance v_isi (l_cons (x_var 0) (l_cons (x_ty (n := 2) rfl rfl T.z_tuple hv_tuple) l_nil))) (x_blt call_isA rfl T.z_isinstance hv_isinstance v_isi (l_cons (x_var 1) (l_cons (x_ty (n := 2) rfl rfl T.z_tuple hv_tuple) l_nil))))))) (s_one (s_ret (x_bl))) s_nil)
      (s_one (s_ret (x_and rfl (x_cmp (op_eqD (hu64 hr0)) v_eq rfl (x_blt call_len_seq rfl T.z_len hv_len v_len (l_cons (x_var 0) l_nil)) (x_blt call_len_seq rfl T.z_len hv_len v_len (l_cons (x_var 1) l_nil))) (x_one (x_blt (cr_all rfl) rfl T.z_all hv_all v_all (l_cons (x_lc (N := NN) (own := [("mine_so", 2), ("own", 3)]) (t := none) (by decide) (fun _ _ => rfl) rfl sc13.nd (i_zip rfl rfl T.z_zip (l_cons (x_var 0) (l_cons (x_var 1) l_nil))) (blkOk_by (N := (["got", "goal", "mine_so", "own"] : List Str)) (sc := defScope s13) (by decide +kernel)) (fun _ _ _ _ _ => (pg_tup rfl (pgs_cons (pg_name (i := 2) sc13.nd rfl (by first | exact .inl rfl | exact .inr rfl)) (pgs_cons (pg_name (i := 3) sc13.nd rfl (by first | exact .inl rfl | exact .inr rfl)) pgs_nil)))) (own_tup rfl (own_cons (own_var 2 _ (by decide)) (own_cons (own_var 3 _ (by decide)) own_nil))) (fun _ _ _ _ _ => pts_nil) (fun _ _ _ _ _ => (c_call 13 C rfl hr0 rfl T.g13 takes0 (l_cons (x_var 2) (l_cons (x_var 3) l_nil))))) l_nil))))))) s_nil)
      (s_cons (s_if (PW.pt (t_or (t_cmp op_isN v_is rfl (x_var 1) (x_non)) (t_or1 (t_gen rfl (fun _ => rfl) (x_blt call_isA rfl T.z_isinstance hv_isinstance v_isi (l_cons (x_var 1) (l_cons (x_tup (l_cons (x_ty (n := 1) rfl rfl T.z_bool hv_bool) (l_cons (x_ty (n := 4) rfl rfl T.z_str hv_str) l_nil))) l_nil))))))) (s_one (s_ret (x_and rfl (x_cmp (op_eqD (hu64 hr0)) v_eq rfl (x_var 0) (x_var 1)) (x_and rfl (x_cmp (op_eqD (hu64 hr0)) v_eq rfl (x_blt call_isA rfl T.z_isinstance hv_isinstance v_isi (l_cons (x_var 0) (l_cons (x_ty (n := 1) rfl rfl T.z_bool hv_bool) l_nil))) (x_blt call_isA rfl T.z_isinstance hv_isinstance v_isi (l_cons (x_var 1) (l_cons (x_ty (n := 1) rfl rfl T.z_bool hv_bool) l_nil)))) (x_one (x_cmp (op_eqD (hu64 hr0)) v_eq rfl (x_cmp op_isN v_is rfl (x_var 0) (x_non)) (x_cmp op_isN v_is rfl (x_var 1) (x_non)))))))) s_nil)
      (s_one (s_ret (x_and rfl (x_blt call_isA rfl T.z_isinstance hv_isinstance v_isi (l_cons (x_var 0) (l_cons (x_ty (n := 0) rfl rfl T.z_int hv_int) l_nil))) (x_and rfl (x_not rfl (x_blt call_isA rfl T.z_isinstance hv_isinstance v_isi (l_cons (x_var 0) (l_cons (x_ty (n := 1) rfl rfl T.z_bool hv_bool) l_nil)))) (x_one (x_cmp (op_eqD (hu64 hr0)) v_eq rfl (x_var 0) (x_var 1)))))))))
theorem b14 (T : Tx K mg a fI) (B : Tb base mg a) (C : Cls2 P w K mg base pn (KT K a) (4 * n) cf) : FnOk P w K mg base (L2.CX P w) (4 * n + 4) a.a14 a.d14 (["door", "own"] : List Str) (spF (KT K a) (f14 cf)) := by
  refine def_okC (S := KT K a) T.f14 sc14 (fun _ => trivial) rfl rfl fun cdv hcd0 A outer s H E hr => ?_
  have hr0 : Room (4 * n) (A.deeper (envOfC "_law_heard" (defScope s14) s.heap.objs.size a.a14 cdv)) := hr.mono (by omega)
  have hr2 : Room (4 * n + 1 + 1) (A.deeper (envOfC "_law_heard" (defScope s14) s.heap.objs.size a.a14 cdv)) := hr.mono (by omega)
  have tk : Takes (cxOf (L2.CX P w) P w K mg base (["door", "own", "error"] : List Str) "_law_heard" (defScope s14) a.a14 cdv A outer s H E) (fun c d _ H => E c d H) := takes_of rfl rfl rfl rfl
  exact (s_one (s_try rfl T.exm rfl rfl sc14.nd tk (fun W pn xe tk _ => (s_one (s_ret (x_ite (t_cmp (op_ltO rfl hr0) v_lt rfl (x_var 0) (x_int)) (c_callV C hr0 tk (x_ix rfl (fun _ _ => rfl) (x_lst (l_cons (x_fn (i := 8) rfl rfl T.g8) (l_cons (x_fn (i := 9) rfl rfl T.g9) (l_cons (x_fn (i := 11) rfl rfl T.g11) l_nil)))) (x_var 0)) (l_cons (x_ix rfl (fun _ _ => rfl) (x_var 1) (x_int)) (l_cons (x_ix rfl (fun _ _ => rfl) (x_var 1) (x_int)) (l_cons (x_ix rfl (fun _ _ => rfl) (x_var 1) (x_int)) l_nil)))) (c_call 11 C rfl hr0 rfl T.g11 tk (l_cons (x_ix rfl (fun _ _ => rfl) (x_var 1) (x_int)) (l_cons (x_ix rfl (fun _ _ => rfl) (x_var 1) (x_int)) l_nil)))))))
      (.cons (o := (some 2)) (.inr ⟨_, 2, rfl, rfl, rfl, rfl⟩) ⟨rfl, by decide, .inl T.gc0⟩ (fun a oe cls d pn hz hf => su_ok (k := 0) (ms := (fun v => (sRet (xLst (lCons (xCst (.str [112, 108, 97, 99, 101])) (lCons (xErr v 0) (lCons (xCst (.bl true)) lNil))))))) fun as => (s_one (s_ret (x_lst (l_cons (x_str (by first | rfl | decide +kernel)) (l_cons (x_err T.ca0 T.xf0 T.no0 hz hf) (l_cons (x_isE (t := "LookupError") T.ca0 T.e0 T.ki0 hz hf rfl T.z_isinstance rfl T.z_LookupError hv_LookupError) l_nil))))))) (.cons (o := (some 2)) (.inr ⟨_, 2, rfl, rfl, rfl, rfl⟩) ⟨rfl, by decide, .inl T.gc1⟩ (fun a oe cls d pn hz hf => su_ok (k := 1) (ms := (fun v => (sRet (xLst (lCons (xCst (.str [99, 97, 110, 110, 111, 116])) (lCons (xCst (.bl true)) lNil)))))) fun as => (s_one (s_ret (x_lst (l_cons (x_str (by first | rfl | decide +kernel)) (l_cons (x_isE (t := "ValueError") T.ca1 T.e1 T.ki1 hz hf rfl T.z_isinstance rfl T.z_ValueError hv_ValueError) l_nil)))))) .nil)) (.cons T.ca0 (fun _ _ => rfl) (.cons T.ca1 (fun _ _ => rfl) .nil))))
theorem b15 (T : Tx K mg a fI) (B : Tb base mg a) (C : Cls2 P w K mg base pn (KT K a) (4 * n) cf) : FnOk P w K mg base (L2.CX P w) (4 * n + 4) a.a15 a.d15 ([] : List Str) (spF (KT K a) (f15 cf)) := by
  refine def_okC (S := KT K a) T.f15 sc15 (fun _ => trivial) rfl rfl fun cdv hcd0 A outer s H E hr => ?_
  have hr0 : Room (4 * n) (A.deeper (envOfC "_law_turned_right" (defScope s15) s.heap.objs.size a.a15 cdv)) := hr.mono (by omega)
  have hr2 : Room (4 * n + 1 + 1) (A.deeper (envOfC "_law_turned_right" (defScope s15) s.heap.objs.size a.a15 cdv)) := hr.mono (by omega)
  have tk : Takes (cxOf (L2.CX P w) P w K mg base (["row", "got", "own", "due", "others"] : List Str) "_law_turned_right" (defScope s15) a.a15 cdv A outer s H E) (fun c d _ H => E c d H) := takes_of rfl rfl rfl rfl
  exact (s_cons (s_set 0 sc15.nd rfl (by first | exact .inl rfl | exact .inr rfl) (x_tup (l_cons (x_int) (l_cons (x_int) (l_cons (x_int) (l_cons (x_int) l_nil))))))
      (s_cons (s_set 1 sc15.nd rfl (by first | exact .inl rfl | exact .inr rfl) (x_lst (l_cons (x_lc (N := NN) (own := [("own", 2)]) (t := none) (by decide) (fun _ _ => rfl) rfl sc15.nd (i_seq rfl (x_tup (l_cons (x_int) (l_cons (x_int) (l_cons (x_int) (l_cons (x_int) (l_cons (x_int) (l_cons (x_neg (x_int)) (l_cons (x_neg (x_int)) (l_cons (x_add rfl (x_pow (x_int) (x_int)) (x_int)) l_nil)))))))))) (blkOk_by (N := (["row", "got", "own", "due", "others"] : List Str)) (sc := defScope s15) (by decide +kernel)) (fun _ _ _ _ _ => (pg_name (i := 2) sc15.nd rfl (by first | exact .inl rfl | exact .inr rfl))) (own_var 2 _ (by decide)) (fun _ _ _ _ _ => pts_nil) (fun _ _ _ _ _ => (c_call 3 C rfl hr0 rfl T.g3 takes0 (l_cons (x_var 0) (l_cons (x_var 2) l_nil))))) (l_cons (c_callK 3 (ord := [1, 0]) (ks := (["number", "ring"] : List Str)) C rfl T.f3 hr0 rfl T.g3 tk (fun _ _ _ _ _ _ ws hl => match ws, hl with | [_, _], _ => rfl) (k_cons (x_int) (k_cons (x_lst (l_cons (x_int) l_nil)) k_nil)) (len_cons (len_cons len_nil))) (l_cons (c_call 3 C rfl hr0 rfl T.g3 tk (l_cons (x_tup (l_cons (x_int) (l_cons (x_int) (l_cons (x_int) l_nil)))) (l_cons (x_neg (x_pow (x_int) (x_int))) l_nil))) l_nil)))))
      (s_cons (s_set 3 sc15.nd rfl (by first | exact .inl rfl | exact .inr rfl) (x_lst (l_cons (x_lst (l_cons (x_var 0) (l_cons (x_tup (l_cons (x_int) (l_cons (x_int) (l_cons (x_int) (l_cons (x_int) l_nil))))) (l_cons (x_tup (l_cons (x_int) (l_cons (x_int) (l_cons (x_int) (l_cons (x_int) l_nil))))) (l_cons (x_tup (l_cons (x_int) (l_cons (x_int) (l_cons (x_int) (l_cons (x_int) l_nil))))) (l_cons (x_var 0) (l_cons (x_tup (l_cons (x_int) (l_cons (x_int) (l_cons (x_int) (l_cons (x_int) l_nil))))) (l_cons (x_tup (l_cons (x_int) (l_cons (x_int) (l_cons (x_int) (l_cons (x_int) l_nil))))) (l_cons (x_tup (l_cons (x_int) (l_cons (x_int) (l_cons (x_int) (l_cons (x_int) l_nil))))) l_nil))))))))) (l_cons (x_tup (l_cons (x_int) l_nil)) (l_cons (x_tup (l_cons (x_int) (l_cons (x_int) (l_cons (x_int) l_nil)))) l_nil)))))
      (s_cons (s_set 1 sc15.nd rfl (by first | exact .inl rfl | exact .inr rfl) (x_add rfl (x_var 1) (x_lst (l_cons (c_callK 4 (ord := [0]) (ks := (["ring"] : List Str)) C rfl T.f4 hr0 rfl T.g4 tk (fun _ _ _ _ _ _ ws hl => match ws, hl with | [_], _ => rfl) (k_cons (x_typ call_list_of rfl T.z_list hv_list v_list (l_cons (x_var 0) l_nil)) k_nil) (len_cons len_nil)) (l_cons (c_call 4 C rfl hr0 rfl T.g4 tk (l_cons (x_tup (l_cons (x_int) (l_cons (x_int) (l_cons (x_int) (l_cons (x_int) l_nil))))) l_nil)) (l_cons (c_call 4 C rfl hr0 rfl T.g4 tk (l_cons (x_tup (l_cons (x_int) (l_cons (x_int) l_nil))) l_nil)) (l_cons (c_call 4 C rfl hr0 rfl T.g4 tk (l_cons (x_tup (l_cons (x_int) (l_cons (x_int) (l_cons (x_int) (l_cons (x_int) l_nil))))) l_nil)) l_nil)))))))
      (s_cons (s_set 3 sc15.nd rfl (by first | exact .inl rfl | exact .inr rfl) (x_add rfl (x_var 3) (x_lst (l_cons (x_tup (l_cons (x_int) (l_cons (x_int) (l_cons (x_int) (l_cons (x_int) l_nil))))) (l_cons (x_tup (l_cons (x_int) (l_cons (x_int) (l_cons (x_int) (l_cons (x_int) l_nil))))) (l_cons (x_tup (l_cons (x_int) (l_cons (x_int) l_nil))) (l_cons (x_tup (l_cons (x_int) (l_cons (x_int) (l_cons (x_int) (l_cons (x_int) l_nil))))) l_nil)))))))
      (s_cons (s_set 4 sc15.nd rfl (by first | exact .inl rfl | exact .inr rfl) (x_lst (l_cons (x_var 0) (l_cons (x_tup (l_cons (x_int) (l_cons (x_int) (l_cons (x_int) (l_cons (x_int) l_nil))))) (l_cons (x_tup (l_cons (x_int) (l_cons (x_int) (l_cons (x_int) (l_cons (x_int) l_nil))))) (l_cons (x_tup (l_cons (x_int) (l_cons (x_int) (l_cons (x_int) l_nil)))) (l_cons (x_tup (l_cons (x_int) (l_cons (x_int) (l_cons (x_int) (l_cons (x_int) (l_cons (x_int) (l_cons (x_int) (l_cons (x_int) (l_cons (x_int) l_nil))))))))) (l_cons (x_tup (l_cons (x_int) (l_cons (x_int) (l_cons (x_int) (l_cons (x_int) l_nil))))) l_nil))))))))
      (s_cons (s_set 1 sc15.nd rfl (by first | exact .inl rfl | exact .inr rfl) (x_add rfl (x_var 1) (x_lst (l_cons (x_lc (N := NN) (own := [("own", 2)]) (t := none) (by decide) (fun _ _ => rfl) rfl sc15.nd (i_seq rfl (x_var 4)) (blkOk_by (N := (["row", "got", "own", "due", "others"] : List Str)) (sc := defScope s15) (by decide +kernel)) (fun _ _ _ _ _ => (pg_name (i := 2) sc15.nd rfl (by first | exact .inl rfl | exact .inr rfl))) (own_var 2 _ (by decide)) (fun _ _ _ _ _ => pts_nil) (fun _ _ _ _ _ => (c_call 5 C rfl hr0 rfl T.g5 takes0 (l_cons (x_var 0) (l_cons (x_var 2) l_nil))))) (l_cons (c_callK 5 (ord := [1, 0]) (ks := (["other", "one"] : List Str)) C rfl T.f5 hr0 rfl T.g5 tk (fun _ _ _ _ _ _ ws hl => match ws, hl with | [_, _], _ => rfl) (k_cons (x_lst (l_cons (x_int) l_nil)) (k_cons (x_lst (l_cons (x_int) l_nil)) k_nil)) (len_cons (len_cons len_nil))) (l_cons (c_call 5 C rfl hr0 rfl T.g5 tk (l_cons (x_tup (l_cons (x_int) (l_cons (x_int) (l_cons (x_int) l_nil)))) (l_cons (x_tup (l_cons (x_int) (l_cons (x_int) (l_cons (x_int) l_nil)))) l_nil))) (l_cons (c_call 5 C rfl hr0 rfl T.g5 tk (l_cons (x_tup (l_cons (x_int) (l_cons (x_int) (l_cons (x_int) l_nil)))) (l_cons (x_tup (l_cons (x_int) (l_cons (x_int) (l_cons (x_int) l_nil)))) l_nil))) l_nil)))))))
      (s_cons (s_set 3 sc15.nd rfl (by first | exact .inl rfl | exact .inr rfl) (x_add rfl (x_var 3) (x_lst (l_cons (x_lst (l_cons (x_bl) (l_cons (x_bl) (l_cons (x_bl) (l_cons (x_bl) (l_cons (x_bl) (l_cons (x_bl) l_nil))))))) (l_cons (x_bl) (l_cons (x_bl) (l_cons (x_bl) l_nil)))))))
      (s_cons (s_set 1 sc15.nd rfl (by first | exact .inl rfl | exact .inr rfl) (x_add rfl (x_var 1) (x_lst (l_cons (x_lc (N := NN) (own := [("own", 2)]) (t := none) (by decide) (fun _ _ => rfl) rfl sc15.nd (i_seq rfl (x_tup (l_cons (x_tup (l_cons (x_int) l_nil)) (l_cons (x_tup (l_cons (x_int) (l_cons (x_int) (l_cons (x_int) l_nil)))) (l_cons (x_tup (l_cons (x_int) (l_cons (x_int) (l_cons (x_int) (l_cons (x_int) l_nil))))) (l_cons (x_tup (l_cons (x_int) (l_cons (x_int) (l_cons (x_int) l_nil)))) (l_cons (x_var 0) (l_cons (x_mul rfl (x_tup (l_cons (x_int) (l_cons (x_int) (l_cons (x_int) l_nil)))) (x_int)) l_nil)))))))) (blkOk_by (N := (["row", "got", "own", "due", "others"] : List Str)) (sc := defScope s15) (by decide +kernel)) (fun _ _ _ _ _ => (pg_name (i := 2) sc15.nd rfl (by first | exact .inl rfl | exact .inr rfl))) (own_var 2 _ (by decide)) (fun _ _ _ _ _ => pts_nil) (fun _ _ _ _ _ => (c_call 6 C rfl hr0 rfl T.g6 takes0 (l_cons (x_var 2) l_nil)))) (l_cons (c_callK 6 (ord := [0]) (ks := (["ring"] : List Str)) C rfl T.f6 hr0 rfl T.g6 tk (fun _ _ _ _ _ _ ws hl => match ws, hl with | [_], _ => rfl) (k_cons (x_lst (l_cons (x_int) (l_cons (x_int) l_nil))) k_nil) (len_cons len_nil)) (l_cons (c_call 6 C rfl hr0 rfl T.g6 tk (l_cons (x_tup (l_cons (x_int) (l_cons (x_int) (l_cons (x_int) (l_cons (x_int) (l_cons (x_int) (l_cons (x_int) l_nil))))))) l_nil)) l_nil))))))
      (s_one (s_ret (c_call 13 C rfl hr0 rfl T.g13 tk (l_cons (x_var 1) (l_cons (x_add rfl (x_var 3) (x_lst (l_cons (x_lst (l_cons (x_tup (l_cons (x_tup (l_cons (x_int) l_nil)) (l_cons (x_int) l_nil))) (l_cons (x_tup (l_cons (x_tup (l_cons (x_int) l_nil)) (l_cons (x_int) l_nil))) (l_cons (x_tup (l_cons (x_tup (l_cons (x_int) (l_cons (x_int) l_nil))) (l_cons (x_int) l_nil))) (l_cons (x_tup (l_cons (x_tup (l_cons (x_int) (l_cons (x_int) (l_cons (x_int) l_nil)))) (l_cons (x_int) l_nil))) (l_cons (x_tup (l_cons (x_var 0) (l_cons (x_int) l_nil))) (l_cons (x_tup (l_cons (x_tup (l_cons (x_int) (l_cons (x_int) (l_cons (x_int) l_nil)))) (l_cons (x_int) l_nil))) l_nil))))))) (l_cons (x_tup (l_cons (x_tup (l_cons (x_int) l_nil)) (l_cons (x_int) l_nil))) (l_cons (x_tup (l_cons (x_tup (l_cons (x_int) (l_cons (x_int) (l_cons (x_int) l_nil)))) (l_cons (x_int) l_nil))) l_nil))))) l_nil))))))))))))))
theorem b16 (T : Tx K mg a fI) (B : Tb base mg a) (C : Cls2 P w K mg base pn (KT K a) (4 * n) cf) : FnOk P w K mg base (L2.CX P w) (4 * n + 4) a.a16 a.d16 ([] : List Str) (spF (KT K a) (f16 cf)) := by
  refine def_okC (S := KT K a) T.f16 sc16 (fun _ => trivial) rfl rfl fun cdv hcd0 A outer s H E hr => ?_
  have hr0 : Room (4 * n) (A.deeper (envOfC "_law_read_right" (defScope s16) s.heap.objs.size a.a16 cdv)) := hr.mono (by omega)
  have hr2 : Room (4 * n + 1 + 1) (A.deeper (envOfC "_law_read_right" (defScope s16) s.heap.objs.size a.a16 cdv)) := hr.mono (by omega)
  have tk : Takes (cxOf (L2.CX P w) P w K mg base (["row", "got", "own", "due", "pairs", "none", "far"] : List Str) "_law_read_right" (defScope s16) a.a16 cdv A outer s H E) (fun c d _ H => E c d H) := takes_of rfl rfl rfl rfl
  exact (s_cons (s_set 0 sc16.nd rfl (by first | exact .inl rfl | exact .inr rfl) (x_tup (l_cons (x_int) (l_cons (x_int) (l_cons (x_int) (l_cons (x_int) l_nil))))))
      (s_cons (s_set 1 sc16.nd rfl (by first | exact .inl rfl | exact .inr rfl) (x_lst (l_cons (x_lc (N := NN) (own := [("own", 2)]) (t := none) (by decide) (fun _ _ => rfl) rfl sc16.nd (i_seq rfl (x_tup (l_cons (x_int) (l_cons (x_int) (l_cons (x_int) (l_cons (x_int) (l_cons (x_int) l_nil))))))) (blkOk_by (N := (["row", "got", "own", "due", "pairs", "none", "far"] : List Str)) (sc := defScope s16) (by decide +kernel)) (fun _ _ _ _ _ => (pg_name (i := 2) sc16.nd rfl (by first | exact .inl rfl | exact .inr rfl))) (own_var 2 _ (by decide)) (fun _ _ _ _ _ => pts_nil) (fun _ _ _ _ _ => (c_call 8 C rfl hr0 rfl T.g8 takes0 (l_cons (x_var 0) (l_cons (x_int) (l_cons (x_var 2) l_nil)))))) (l_cons (c_call 8 C rfl hr0 rfl T.g8 tk (l_cons (x_var 0) (l_cons (x_int) (l_cons (x_pow (x_int) (x_int)) l_nil)))) (l_cons (c_callK 8 (ord := [2, 1, 0]) (ks := (["step", "room", "ring"] : List Str)) C rfl T.f8 hr0 rfl T.g8 tk (fun _ _ _ _ _ _ ws hl => match ws, hl with | [_, _, _], _ => rfl) (k_cons (x_sub (x_pow (x_int) (x_int)) (x_int)) (k_cons (x_int) (k_cons (x_typ call_list_of rfl T.z_list hv_list v_list (l_cons (x_var 0) l_nil)) k_nil))) (len_cons (len_cons (len_cons len_nil)))) (l_cons (c_call 8 C rfl hr0 rfl T.g8 tk (l_cons (x_tup (l_cons (x_int) (l_cons (x_int) (l_cons (x_int) l_nil)))) (l_cons (x_int) (l_cons (x_pow (x_int) (x_int)) l_nil)))) l_nil))))))
      (s_cons (s_set 3 sc16.nd rfl (by first | exact .inl rfl | exact .inr rfl) (x_lst (l_cons (x_lst (l_cons (x_int) (l_cons (x_int) (l_cons (x_int) (l_cons (x_int) (l_cons (x_int) l_nil)))))) (l_cons (x_int) (l_cons (x_int) (l_cons (x_int) l_nil))))))
      (s_cons (s_set 1 sc16.nd rfl (by first | exact .inl rfl | exact .inr rfl) (x_add rfl (x_var 1) (x_lst (l_cons (c_call 9 C rfl hr0 rfl T.g9 tk (l_cons (x_var 0) (l_cons (x_int) (l_cons (x_int) l_nil)))) (l_cons (c_call 9 C rfl hr0 rfl T.g9 tk (l_cons (x_var 0) (l_cons (x_int) (l_cons (x_int) l_nil)))) (l_cons (c_callK 9 (ord := [2, 1, 0]) (ks := (["steps", "room", "ring"] : List Str)) C rfl T.f9 hr0 rfl T.g9 tk (fun _ _ _ _ _ _ ws hl => match ws, hl with | [_, _, _], _ => rfl) (k_cons (x_int) (k_cons (x_int) (k_cons (x_lst (l_cons (x_int) (l_cons (x_int) l_nil))) k_nil))) (len_cons (len_cons (len_cons len_nil)))) (l_cons (c_call 9 C rfl hr0 rfl T.g9 tk (l_cons (x_tup (l_cons (x_int) l_nil)) (l_cons (x_int) (l_cons (x_int) l_nil)))) (l_cons (x_blt call_len_seq rfl T.z_len hv_len v_len (l_cons (c_call 9 C rfl hr0 rfl T.g9 tk (l_cons (x_var 0) (l_cons (x_int) (l_cons (x_int) l_nil)))) l_nil)) (l_cons (x_sl rfl (c_call 9 C rfl hr0 rfl T.g9 tk (l_cons (x_var 0) (l_cons (x_int) (l_cons (x_int) l_nil)))) (o_some (x_int)) o_none) l_nil)))))))))
      (s_cons (s_set 3 sc16.nd rfl (by first | exact .inl rfl | exact .inr rfl) (x_add rfl (x_var 3) (x_lst (l_cons (x_tup (l_cons (x_int) (l_cons (x_int) (l_cons (x_int) (l_cons (x_int) (l_cons (x_int) (l_cons (x_int) l_nil))))))) (l_cons (x_tup l_nil) (l_cons (x_tup (l_cons (x_int) (l_cons (x_int) (l_cons (x_int) (l_cons (x_int) (l_cons (x_int) l_nil)))))) (l_cons (x_tup (l_cons (x_int) (l_cons (x_int) (l_cons (x_int) (l_cons (x_int) l_nil))))) (l_cons (x_int) (l_cons (x_tup (l_cons (x_int) (l_cons (x_int) (l_cons (x_int) (l_cons (x_int) l_nil))))) l_nil)))))))))
      (s_cons (s_set 4 sc16.nd rfl (by first | exact .inl rfl | exact .inr rfl) (x_lst (l_cons (x_tup (l_cons (x_tup (l_cons (x_int) (l_cons (x_int) l_nil))) (l_cons (x_tup (l_cons (x_int) (l_cons (x_int) (l_cons (x_int) (l_cons (x_int) l_nil))))) l_nil))) (l_cons (x_tup (l_cons (x_tup (l_cons (x_int) (l_cons (x_int) l_nil))) (l_cons (x_tup (l_cons (x_int) (l_cons (x_int) l_nil))) l_nil))) (l_cons (x_tup (l_cons (x_tup (l_cons (x_int) l_nil)) (l_cons (x_tup (l_cons (x_int) (l_cons (x_int) (l_cons (x_int) l_nil)))) l_nil))) (l_cons (x_tup (l_cons (x_tup (l_cons (x_int) (l_cons (x_int) (l_cons (x_int) l_nil)))) (l_cons (x_tup (l_cons (x_int) (l_cons (x_int) (l_cons (x_int) (l_cons (x_int) l_nil))))) l_nil))) (l_cons (x_tup (l_cons (x_mul rfl (x_tup (l_cons (x_int) (l_cons (x_int) l_nil))) (x_int)) (l_cons (x_mul rfl (x_tup (l_cons (x_int) (l_cons (x_int) l_nil))) (x_int)) l_nil))) (l_cons (x_tup (l_cons (x_tup (l_cons (x_int) (l_cons (x_int) (l_cons (x_int) l_nil)))) (l_cons (x_tup (l_cons (x_int) (l_cons (x_int) l_nil))) l_nil))) l_nil))))))))
      (s_cons (s_set 1 sc16.nd rfl (by first | exact .inl rfl | exact .inr rfl) (x_add rfl (x_var 1) (x_lst (l_cons (x_lc (N := NN) (own := [("own", 2)]) (t := none) (by decide) (fun _ _ => rfl) rfl sc16.nd (i_seq rfl (x_var 4)) (blkOk_by (N := (["row", "got", "own", "due", "pairs", "none", "far"] : List Str)) (sc := defScope s16) (by decide +kernel)) (fun _ _ _ _ _ => (pg_name (i := 2) sc16.nd rfl (by first | exact .inl rfl | exact .inr rfl))) (own_var 2 _ (by decide)) (fun _ _ _ _ _ => pts_nil) (fun _ _ _ _ _ => (c_call 10 C rfl hr0 rfl T.g10 takes0 (l_cons (x_ix rfl (fun _ _ => rfl) (x_var 2) (x_int)) (l_cons (x_ix rfl (fun _ _ => rfl) (x_var 2) (x_int)) l_nil))))) (l_cons (c_callK 10 (ord := [1, 0]) (ks := (["other", "one"] : List Str)) C rfl T.f10 hr0 rfl T.g10 tk (fun _ _ _ _ _ _ ws hl => match ws, hl with | [_, _], _ => rfl) (k_cons (x_lst (l_cons (x_int) (l_cons (x_int) l_nil))) (k_cons (x_lst (l_cons (x_int) l_nil)) k_nil)) (len_cons (len_cons len_nil))) (l_cons (x_lc (N := NN) (own := [("own", 2)]) (t := none) (by decide) (fun _ _ => rfl) rfl sc16.nd (i_seq rfl (x_var 4)) (blkOk_by (N := (["row", "got", "own", "due", "pairs", "none", "far"] : List Str)) (sc := defScope s16) (by decide +kernel)) (fun _ _ _ _ _ => (pg_name (i := 2) sc16.nd rfl (by first | exact .inl rfl | exact .inr rfl))) (own_var 2 _ (by decide)) (fun _ _ _ _ _ => pts_nil) (fun _ _ _ _ _ => (c_call 14 C rfl hr0 rfl T.g14 takes0 (l_cons (x_int) (l_cons (x_var 2) l_nil))))) l_nil))))))
      (s_cons (s_set 5 sc16.nd rfl (by first | exact .inl rfl | exact .inr rfl) (x_lst (l_cons (x_str (by first | rfl | decide +kernel)) (l_cons (x_bl) l_nil))))
      (s_cons (s_set 3 sc16.nd rfl (by first | exact .inl rfl | exact .inr rfl) (x_add rfl (x_var 3) (x_lst (l_cons (x_lst (l_cons (x_bl) (l_cons (x_bl) (l_cons (x_bl) (l_cons (x_bl) (l_cons (x_bl) (l_cons (x_bl) l_nil))))))) (l_cons (x_bl) (l_cons (x_lst (l_cons (x_var 5) (l_cons (x_int) (l_cons (x_var 5) (l_cons (x_int) (l_cons (x_var 5) (l_cons (x_int) l_nil))))))) l_nil))))))
      (s_cons (s_set 6 sc16.nd rfl (by first | exact .inl rfl | exact .inr rfl) (x_lst (l_cons (x_tup (l_cons (x_tup (l_cons (x_int) (l_cons (x_int) (l_cons (x_int) l_nil)))) (l_cons (x_tup (l_cons (x_int) (l_cons (x_int) l_nil))) l_nil))) (l_cons (x_tup (l_cons (x_tup (l_cons (x_int) (l_cons (x_int) (l_cons (x_int) (l_cons (x_int) (l_cons (x_int) l_nil)))))) (l_cons (x_tup (l_cons (x_int) (l_cons (x_int) (l_cons (x_int) l_nil)))) l_nil))) (l_cons (x_tup (l_cons (x_tup (l_cons (x_int) (l_cons (x_int) (l_cons (x_int) (l_cons (x_int) (l_cons (x_int) (l_cons (x_int) l_nil))))))) (l_cons (x_tup (l_cons (x_int) l_nil)) l_nil))) (l_cons (x_tup (l_cons (x_tup (l_cons (x_int) (l_cons (x_int) (l_cons (x_int) (l_cons (x_int) (l_cons (x_int) l_nil)))))) (l_cons (x_tup (l_cons (x_int) (l_cons (x_int) (l_cons (x_int) l_nil)))) l_nil))) (l_cons (x_tup (l_cons (x_tup (l_cons (x_int) (l_cons (x_int) l_nil))) (l_cons (x_tup (l_cons (x_int) (l_cons (x_int) l_nil))) l_nil))) l_nil)))))))
      (s_cons (s_set 1 sc16.nd rfl (by first | exact .inl rfl | exact .inr rfl) (x_add rfl (x_var 1) (x_lst (l_cons (x_lc (N := NN) (own := [("own", 2)]) (t := none) (by decide) (fun _ _ => rfl) rfl sc16.nd (i_seq rfl (x_var 6)) (blkOk_by (N := (["row", "got", "own", "due", "pairs", "none", "far"] : List Str)) (sc := defScope s16) (by decide +kernel)) (fun _ _ _ _ _ => (pg_name (i := 2) sc16.nd rfl (by first | exact .inl rfl | exact .inr rfl))) (own_var 2 _ (by decide)) (fun _ _ _ _ _ => pts_nil) (fun _ _ _ _ _ => (c_call 14 C rfl hr0 rfl T.g14 takes0 (l_cons (x_int) (l_cons (x_var 2) l_nil))))) (l_cons (c_callK 11 (ord := [1, 0]) (ks := (["other", "one"] : List Str)) C rfl T.f11 hr0 rfl T.g11 tk (fun _ _ _ _ _ _ ws hl => match ws, hl with | [_, _], _ => rfl) (k_cons (x_lst (l_cons (x_int) (l_cons (x_int) (l_cons (x_int) l_nil)))) (k_cons (x_lst (l_cons (x_int) (l_cons (x_int) l_nil))) k_nil)) (len_cons (len_cons len_nil))) (l_cons (c_call 11 C rfl hr0 rfl T.g11 tk (l_cons (x_tup (l_cons (x_int) (l_cons (x_int) (l_cons (x_int) (l_cons (x_int) l_nil))))) (l_cons (x_tup (l_cons (x_int) (l_cons (x_int) (l_cons (x_int) (l_cons (x_int) (l_cons (x_int) (l_cons (x_int) (l_cons (x_int) l_nil)))))))) l_nil))) l_nil))))))
      (s_one (s_ret (c_call 13 C rfl hr0 rfl T.g13 tk (l_cons (x_var 1) (l_cons (x_add rfl (x_var 3) (x_lst (l_cons (x_lst (l_cons (x_int) (l_cons (x_int) (l_cons (x_int) (l_cons (x_int) (l_cons (x_int) l_nil)))))) (l_cons (x_int) (l_cons (x_int) l_nil))))) l_nil))))))))))))))))
theorem b17 (T : Tx K mg a fI) (B : Tb base mg a) (C : Cls2 P w K mg base pn (KT K a) (4 * n) cf) : FnOk P w K mg base (L2.CX P w) (4 * n + 4) a.a17 a.d17 ([] : List Str) (spF (KT K a) (f17 cf)) := by
  refine def_okC (S := KT K a) T.f17 sc17 (fun _ => trivial) rfl rfl fun cdv hcd0 A outer s H E hr => ?_
  have hr0 : Room (4 * n) (A.deeper (envOfC "_law_refused_right" (defScope s17) s.heap.objs.size a.a17 cdv)) := hr.mono (by omega)
  have hr2 : Room (4 * n + 1 + 1) (A.deeper (envOfC "_law_refused_right" (defScope s17) s.heap.objs.size a.a17 cdv)) := hr.mono (by omega)
  have tk : Takes (cxOf (L2.CX P w) P w K mg base (["row", "rooms", "got", "own", "due", "goods", "bads"] : List Str) "_law_refused_right" (defScope s17) a.a17 cdv A outer s H E) (fun c d _ H => E c d H) := takes_of rfl rfl rfl rfl
  exact (s_cons (s_asg (x_tup (l_cons (x_tup (l_cons (x_int) (l_cons (x_int) (l_cons (x_int) (l_cons (x_int) l_nil))))) (l_cons (x_tup (l_cons (x_int) (l_cons (x_neg (x_int)) (l_cons (x_pow (x_int) (x_int)) l_nil)))) l_nil))) (g_tup rfl rfl (gs_cons (plain_var 0) (g_var 0 sc17.nd rfl (by first | exact .inl rfl | exact .inr rfl)) (gs_cons (plain_var 1) (g_var 1 sc17.nd rfl (by first | exact .inl rfl | exact .inr rfl)) gs_nil)) rfl) rfl rfl rfl (fun v τ h => ⟨fun w k => (plain_tup (by intro g hg; simp only [List.mem_cons, List.not_mem_nil, or_false] at hg; rcases hg with rfl | rfl <;> exact plain_var _)).rt v τ h w k, fun w k => (plain_tup (by intro g hg; simp only [List.mem_cons, List.not_mem_nil, or_false] at hg; rcases hg with rfl | rfl <;> exact plain_var _)).bk v τ h w k, fun w k => (plain_tup (by intro g hg; simp only [List.mem_cons, List.not_mem_nil, or_false] at hg; rcases hg with rfl | rfl <;> exact plain_var _)).ct v τ h w k⟩))
      (s_cons (s_set 2 sc17.nd rfl (by first | exact .inl rfl | exact .inr rfl) (x_lst (l_cons (x_lc (N := NN) (own := [("own", 3)]) (t := none) (by decide) (fun _ _ => rfl) rfl sc17.nd (i_seq rfl (x_var 1)) (blkOk_by (N := (["row", "rooms", "got", "own", "due", "goods", "bads"] : List Str)) (sc := defScope s17) (by decide +kernel)) (fun _ _ _ _ _ => (pg_name (i := 3) sc17.nd rfl (by first | exact .inl rfl | exact .inr rfl))) (own_var 3 _ (by decide)) (fun _ _ _ _ _ => pts_nil) (fun _ _ _ _ _ => (c_call 14 C rfl hr0 rfl T.g14 takes0 (l_cons (x_int) (l_cons (x_tup (l_cons (x_var 0) (l_cons (x_var 3) (l_cons (x_int) l_nil)))) l_nil))))) (l_cons (x_lc (N := NN) (own := [("own", 3)]) (t := none) (by decide) (fun _ _ => rfl) rfl sc17.nd (i_seq rfl (x_var 1)) (blkOk_by (N := (["row", "rooms", "got", "own", "due", "goods", "bads"] : List Str)) (sc := defScope s17) (by decide +kernel)) (fun _ _ _ _ _ => (pg_name (i := 3) sc17.nd rfl (by first | exact .inl rfl | exact .inr rfl))) (own_var 3 _ (by decide)) (fun _ _ _ _ _ => pts_nil) (fun _ _ _ _ _ => (c_call 14 C rfl hr0 rfl T.g14 takes0 (l_cons (x_int) (l_cons (x_tup (l_cons (x_var 0) (l_cons (x_var 3) (l_cons (x_int) l_nil)))) l_nil))))) (l_cons (c_call 14 C rfl hr0 rfl T.g14 tk (l_cons (x_int) (l_cons (x_tup (l_cons (x_tup (l_cons (x_int) l_nil)) (l_cons (x_int) (l_cons (x_pow (x_int) (x_int)) l_nil)))) l_nil))) l_nil)))))
      (s_cons (s_set 4 sc17.nd rfl (by first | exact .inl rfl | exact .inr rfl) (x_add rfl (x_mul rfl (x_lst (l_cons (x_lc (N := NN) (own := [("own", 3)]) (t := none) (by decide) (fun _ _ => rfl) rfl sc17.nd (i_seq rfl (x_var 1)) (blkOk_by (N := (["row", "rooms", "got", "own", "due", "goods", "bads"] : List Str)) (sc := defScope s17) (by decide +kernel)) (fun _ _ _ _ _ => (pg_name (i := 3) sc17.nd rfl (by first | exact .inl rfl | exact .inr rfl))) (own_var 3 _ (by decide)) (fun _ _ _ _ _ => pts_nil) (fun _ _ _ _ _ => (x_lst (l_cons (x_str (by first | rfl | decide +kernel)) (l_cons (x_var 3) (l_cons (x_bl) l_nil)))))) l_nil)) (x_int)) (x_lst (l_cons (x_lst (l_cons (x_str (by first | rfl | decide +kernel)) (l_cons (x_int) (l_cons (x_bl) l_nil)))) l_nil))))
      (s_cons (s_par2 5 6 rfl sc17.nd rfl rfl (by decide) rfl rfl (l_cons (x_lst (l_cons (x_tup l_nil) (l_cons (x_tup (l_cons (x_int) l_nil)) (l_cons (x_tup (l_cons (x_int) (l_cons (x_int) (l_cons (x_int) l_nil)))) (l_cons (x_mul rfl (x_tup (l_cons (x_int) l_nil)) (x_int)) l_nil))))) (l_cons (x_lst (l_cons (x_tup (l_cons (x_int) l_nil)) (l_cons (x_tup (l_cons (x_int) l_nil)) (l_cons (x_tup (l_cons (x_neg (x_int)) l_nil)) (l_cons (x_tup (l_cons (x_bl) l_nil)) (l_cons (x_lst (l_cons (x_int) l_nil)) (l_cons (x_tup (l_cons (x_int) (l_cons (x_non) l_nil))) (l_cons (x_tup (l_cons (x_str (by first | rfl | decide +kernel)) l_nil)) (l_cons (x_non) (l_cons (x_int) (l_cons (x_tup (l_cons (x_tup (l_cons (x_int) l_nil)) l_nil)) (l_cons (x_str (by first | rfl | decide +kernel)) (l_cons (x_tup (l_cons (x_int) (l_cons (x_bl) l_nil))) l_nil))))))))))))) l_nil)) rfl)
      (s_cons (s_set 2 sc17.nd rfl (by first | exact .inl rfl | exact .inr rfl) (x_add rfl (x_var 2) (x_lst (l_cons (x_lc (N := NN) (own := [("own", 3)]) (t := none) (by decide) (fun _ _ => rfl) rfl sc17.nd (i_seq rfl (x_var 5)) (blkOk_by (N := (["row", "rooms", "got", "own", "due", "goods", "bads"] : List Str)) (sc := defScope s17) (by decide +kernel)) (fun _ _ _ _ _ => (pg_name (i := 3) sc17.nd rfl (by first | exact .inl rfl | exact .inr rfl))) (own_var 3 _ (by decide)) (fun _ _ _ _ _ => pts_nil) (fun _ _ _ _ _ => (c_call 1 C rfl hr0 rfl T.g1 takes0 (l_cons (x_int) (l_cons (x_var 3) l_nil))))) (l_cons (x_lc (N := NN) (own := [("own", 3)]) (t := none) (by decide) (fun _ _ => rfl) rfl sc17.nd (i_seq rfl (x_var 6)) (blkOk_by (N := (["row", "rooms", "got", "own", "due", "goods", "bads"] : List Str)) (sc := defScope s17) (by decide +kernel)) (fun _ _ _ _ _ => (pg_name (i := 3) sc17.nd rfl (by first | exact .inl rfl | exact .inr rfl))) (own_var 3 _ (by decide)) (fun _ _ _ _ _ => pts_nil) (fun _ _ _ _ _ => (c_call 1 C rfl hr0 rfl T.g1 takes0 (l_cons (x_int) (l_cons (x_var 3) l_nil))))) (l_cons (x_lc (N := NN) (own := [("own", 3)]) (t := none) (by decide) (fun _ _ => rfl) rfl sc17.nd (i_seq rfl (x_var 5)) (blkOk_by (N := (["row", "rooms", "got", "own", "due", "goods", "bads"] : List Str)) (sc := defScope s17) (by decide +kernel)) (fun _ _ _ _ _ => (pg_name (i := 3) sc17.nd rfl (by first | exact .inl rfl | exact .inr rfl))) (own_var 3 _ (by decide)) (fun _ _ _ _ _ => pts_nil) (fun _ _ _ _ _ => (c_call 2 C rfl hr0 rfl T.g2 takes0 (l_cons (x_int) (l_cons (x_var 3) l_nil))))) (l_cons (x_lc (N := NN) (own := [("own", 3)]) (t := none) (by decide) (fun _ _ => rfl) rfl sc17.nd (i_seq rfl (x_var 6)) (blkOk_by (N := (["row", "rooms", "got", "own", "due", "goods", "bads"] : List Str)) (sc := defScope s17) (by decide +kernel)) (fun _ _ _ _ _ => (pg_name (i := 3) sc17.nd rfl (by first | exact .inl rfl | exact .inr rfl))) (own_var 3 _ (by decide)) (fun _ _ _ _ _ => pts_nil) (fun _ _ _ _ _ => (c_call 2 C rfl hr0 rfl T.g2 takes0 (l_cons (x_int) (l_cons (x_var 3) l_nil))))) l_nil)))))))
      (s_cons (s_set 4 sc17.nd rfl (by first | exact .inl rfl | exact .inr rfl) (x_add rfl (x_var 4) (x_lst (l_cons (x_mul rfl (x_lst (l_cons (x_bl) l_nil)) (x_int)) (l_cons (x_mul rfl (x_lst (l_cons (x_bl) l_nil)) (x_int)) (l_cons (x_add rfl (x_lst (l_cons (x_bl) l_nil)) (x_mul rfl (x_lst (l_cons (x_bl) l_nil)) (x_int))) (l_cons (x_mul rfl (x_lst (l_cons (x_bl) l_nil)) (x_int)) l_nil)))))))
      (s_cons (s_set 2 sc17.nd rfl (by first | exact .inl rfl | exact .inr rfl) (x_add rfl (x_var 2) (x_lst (l_cons (c_callK 1 (ord := [1, 0]) (ks := (["thing", "wide"] : List Str)) C rfl T.f1 hr0 rfl T.g1 tk (fun _ _ _ _ _ _ ws hl => match ws, hl with | [_, _], _ => rfl) (k_cons (x_tup (l_cons (x_int) l_nil)) (k_cons (x_int) k_nil)) (len_cons (len_cons len_nil))) (l_cons (c_callK 2 (ord := [1, 0]) (ks := (["thing", "wide"] : List Str)) C rfl T.f2 hr0 rfl T.g2 tk (fun _ _ _ _ _ _ ws hl => match ws, hl with | [_, _], _ => rfl) (k_cons (x_tup (l_cons (x_int) (l_cons (x_int) l_nil))) (k_cons (x_int) k_nil)) (len_cons (len_cons len_nil))) (l_cons (c_call 2 C rfl hr0 rfl T.g2 tk (l_cons (x_int) (l_cons (x_tup (l_cons (x_int) (l_cons (x_int) l_nil))) l_nil))) (l_cons (c_call 1 C rfl hr0 rfl T.g1 tk (l_cons (x_int) (l_cons (x_tup (l_cons (x_int) (l_cons (x_int) l_nil))) l_nil))) l_nil)))))))
      (s_one (s_ret (c_call 13 C rfl hr0 rfl T.g13 tk (l_cons (x_var 2) (l_cons (x_add rfl (x_var 4) (x_lst (l_cons (x_bl) (l_cons (x_bl) (l_cons (x_bl) (l_cons (x_bl) l_nil)))))) l_nil))))))))))))
theorem b18 (T : Tx K mg a fI) (B : Tb base mg a) (C : Cls2 P w K mg base pn (KT K a) (4 * n) cf) : FnOk P w K mg base (L2.CX P w) (4 * n + 4) a.a18 a.d18 (["script"] : List Str) (spF (KT K a) (f18 cf)) := by
  refine def_okC (S := KT K a) T.f18 sc18 (fun _ => trivial) rfl rfl fun cdv hcd0 A outer s H E hr => ?_
  have hr0 : Room (4 * n) (A.deeper (envOfC "law" (defScope s18) s.heap.objs.size a.a18 cdv)) := hr.mono (by omega)
  have hr2 : Room (4 * n + 1 + 1) (A.deeper (envOfC "law" (defScope s18) s.heap.objs.size a.a18 cdv)) := hr.mono (by omega)
  have tk : Takes (cxOf (L2.CX P w) P w K mg base (["script"] : List Str) "law" (defScope s18) a.a18 cdv A outer s H E) (fun c d _ H => E c d H) := takes_of rfl rfl rfl rfl
  exact (s_one (s_ret (x_and rfl (c_call0 15 C rfl hr0 rfl T.g15 tk) (x_and rfl (c_call0 16 C rfl hr0 rfl T.g16 tk) (x_one (c_call0 17 C rfl hr0 rfl T.g17 tk))))))
theorem all (T : Tx K mg a fI) (B : Tb base mg a) : ∀ n, Cls2 P w K mg base pn (KT K a) (4 * n) (cfN n) := by
  intro n
  induction n with
  | zero =>
    refine ⟨fun i f h => ?_⟩
    match i, h with
    | 0, h =>
      cases (show a.a0 = f from Option.some.inj h)
      exact ⟨a.d0, fn_bot fun _ _ => rfl, T.f0.kp, T.f0.binds fun _ _ _ _ _ _ us hl => match us, hl with | [_], _ => rfl, by obtain ⟨oc, od, _, _, _, _, _, _, osl, e, lk, _⟩ := T.f0.ex; exact ⟨oc, od, osl, lk⟩⟩
    | 1, h =>
      cases (show a.a1 = f from Option.some.inj h)
      exact ⟨a.d1, fn_bot fun _ _ => rfl, T.f1.kp, T.f1.binds fun _ _ _ _ _ _ us hl => match us, hl with | [_, _], _ => rfl, by obtain ⟨oc, od, _, _, _, _, _, _, osl, e, lk, _⟩ := T.f1.ex; exact ⟨oc, od, osl, lk⟩⟩
    | 2, h =>
      cases (show a.a2 = f from Option.some.inj h)
      exact ⟨a.d2, fn_bot fun _ _ => rfl, T.f2.kp, T.f2.binds fun _ _ _ _ _ _ us hl => match us, hl with | [_, _], _ => rfl, by obtain ⟨oc, od, _, _, _, _, _, _, osl, e, lk, _⟩ := T.f2.ex; exact ⟨oc, od, osl, lk⟩⟩
    | 3, h =>
      cases (show a.a3 = f from Option.some.inj h)
      exact ⟨a.d3, fn_bot fun _ _ => rfl, T.f3.kp, T.f3.binds fun _ _ _ _ _ _ us hl => match us, hl with | [_, _], _ => rfl, by obtain ⟨oc, od, _, _, _, _, _, _, osl, e, lk, _⟩ := T.f3.ex; exact ⟨oc, od, osl, lk⟩⟩
    | 4, h =>
      cases (show a.a4 = f from Option.some.inj h)
      exact ⟨a.d4, fn_bot fun _ _ => rfl, T.f4.kp, T.f4.binds fun _ _ _ _ _ _ us hl => match us, hl with | [_], _ => rfl, by obtain ⟨oc, od, _, _, _, _, _, _, osl, e, lk, _⟩ := T.f4.ex; exact ⟨oc, od, osl, lk⟩⟩
    | 5, h =>
      cases (show a.a5 = f from Option.some.inj h)
      exact ⟨a.d5, fn_bot fun _ _ => rfl, T.f5.kp, T.f5.binds fun _ _ _ _ _ _ us hl => match us, hl with | [_, _], _ => rfl, by obtain ⟨oc, od, _, _, _, _, _, _, osl, e, lk, _⟩ := T.f5.ex; exact ⟨oc, od, osl, lk⟩⟩
    | 6, h =>
      cases (show a.a6 = f from Option.some.inj h)
      exact ⟨a.d6, fn_bot fun _ _ => rfl, T.f6.kp, T.f6.binds fun _ _ _ _ _ _ us hl => match us, hl with | [_], _ => rfl, by obtain ⟨oc, od, _, _, _, _, _, _, osl, e, lk, _⟩ := T.f6.ex; exact ⟨oc, od, osl, lk⟩⟩
    | 7, h =>
      cases (show a.a7 = f from Option.some.inj h)
      exact ⟨a.d7, fn_bot fun _ _ => rfl, T.f7.kp, T.f7.binds fun _ _ _ _ _ _ us hl => match us, hl with | [_, _], _ => rfl, by obtain ⟨oc, od, _, _, _, _, _, _, osl, e, lk, _⟩ := T.f7.ex; exact ⟨oc, od, osl, lk⟩⟩
    | 8, h =>
      cases (show a.a8 = f from Option.some.inj h)
      exact ⟨a.d8, fn_bot fun _ _ => rfl, T.f8.kp, T.f8.binds fun _ _ _ _ _ _ us hl => match us, hl with | [_, _, _], _ => rfl, by obtain ⟨oc, od, _, _, _, _, _, _, osl, e, lk, _⟩ := T.f8.ex; exact ⟨oc, od, osl, lk⟩⟩
    | 9, h =>
      cases (show a.a9 = f from Option.some.inj h)
      exact ⟨a.d9, fn_bot fun _ _ => rfl, T.f9.kp, T.f9.binds fun _ _ _ _ _ _ us hl => match us, hl with | [_, _, _], _ => rfl, by obtain ⟨oc, od, _, _, _, _, _, _, osl, e, lk, _⟩ := T.f9.ex; exact ⟨oc, od, osl, lk⟩⟩
    | 10, h =>
      cases (show a.a10 = f from Option.some.inj h)
      exact ⟨a.d10, fn_bot fun _ _ => rfl, T.f10.kp, T.f10.binds fun _ _ _ _ _ _ us hl => match us, hl with | [_, _], _ => rfl, by obtain ⟨oc, od, _, _, _, _, _, _, osl, e, lk, _⟩ := T.f10.ex; exact ⟨oc, od, osl, lk⟩⟩
    | 11, h =>
      cases (show a.a11 = f from Option.some.inj h)
      exact ⟨a.d11, fn_bot fun _ _ => rfl, T.f11.kp, T.f11.binds fun _ _ _ _ _ _ us hl => match us, hl with | [_, _], _ => rfl, by obtain ⟨oc, od, _, _, _, _, _, _, osl, e, lk, _⟩ := T.f11.ex; exact ⟨oc, od, osl, lk⟩⟩
    | 12, h =>
      cases (show a.a12 = f from Option.some.inj h)
      exact ⟨a.d12, fn_bot fun _ _ => rfl, T.f12.kp, T.f12.binds fun _ _ _ _ _ _ us hl => match us, hl with | [_], _ => rfl, by obtain ⟨oc, od, _, _, _, _, _, _, osl, e, lk, _⟩ := T.f12.ex; exact ⟨oc, od, osl, lk⟩⟩
    | 13, h =>
      cases (show a.a13 = f from Option.some.inj h)
      exact ⟨a.d13, fn_bot fun _ _ => rfl, T.f13.kp, T.f13.binds fun _ _ _ _ _ _ us hl => match us, hl with | [_, _], _ => rfl, by obtain ⟨oc, od, _, _, _, _, _, _, osl, e, lk, _⟩ := T.f13.ex; exact ⟨oc, od, osl, lk⟩⟩
    | 14, h =>
      cases (show a.a14 = f from Option.some.inj h)
      exact ⟨a.d14, fn_bot fun _ _ => rfl, T.f14.kp, T.f14.binds fun _ _ _ _ _ _ us hl => match us, hl with | [_, _], _ => rfl, by obtain ⟨oc, od, _, _, _, _, _, _, osl, e, lk, _⟩ := T.f14.ex; exact ⟨oc, od, osl, lk⟩⟩
    | 15, h =>
      cases (show a.a15 = f from Option.some.inj h)
      exact ⟨a.d15, fn_bot fun _ _ => rfl, T.f15.kp, T.f15.binds fun _ _ _ _ _ _ us hl => match us, hl with | [], _ => rfl, by obtain ⟨oc, od, _, _, _, _, _, _, osl, e, lk, _⟩ := T.f15.ex; exact ⟨oc, od, osl, lk⟩⟩
    | 16, h =>
      cases (show a.a16 = f from Option.some.inj h)
      exact ⟨a.d16, fn_bot fun _ _ => rfl, T.f16.kp, T.f16.binds fun _ _ _ _ _ _ us hl => match us, hl with | [], _ => rfl, by obtain ⟨oc, od, _, _, _, _, _, _, osl, e, lk, _⟩ := T.f16.ex; exact ⟨oc, od, osl, lk⟩⟩
    | 17, h =>
      cases (show a.a17 = f from Option.some.inj h)
      exact ⟨a.d17, fn_bot fun _ _ => rfl, T.f17.kp, T.f17.binds fun _ _ _ _ _ _ us hl => match us, hl with | [], _ => rfl, by obtain ⟨oc, od, _, _, _, _, _, _, osl, e, lk, _⟩ := T.f17.ex; exact ⟨oc, od, osl, lk⟩⟩
    | 18, h =>
      cases (show a.a18 = f from Option.some.inj h)
      exact ⟨a.d18, fn_bot fun _ _ => rfl, T.f18.kp, T.f18.binds fun _ _ _ _ _ _ us hl => match us, hl with | [_], _ => rfl, by obtain ⟨oc, od, _, _, _, _, _, _, osl, e, lk, _⟩ := T.f18.ex; exact ⟨oc, od, osl, lk⟩⟩
    | i + 19, h => cases (show (none : Option Addr) = some f from h)
  | succ n ih =>
    refine ⟨fun i f h => ?_⟩
    match i, h with
    | 0, h =>
      cases (show a.a0 = f from Option.some.inj h)
      exact ⟨a.d0, b0 T B ih, T.f0.kp, T.f0.binds fun _ _ _ _ _ _ us hl => match us, hl with | [_], _ => rfl, by obtain ⟨oc, od, _, _, _, _, _, _, osl, e, lk, _⟩ := T.f0.ex; exact ⟨oc, od, osl, lk⟩⟩
    | 1, h =>
      cases (show a.a1 = f from Option.some.inj h)
      exact ⟨a.d1, b1 T B ih, T.f1.kp, T.f1.binds fun _ _ _ _ _ _ us hl => match us, hl with | [_, _], _ => rfl, by obtain ⟨oc, od, _, _, _, _, _, _, osl, e, lk, _⟩ := T.f1.ex; exact ⟨oc, od, osl, lk⟩⟩
    | 2, h =>
      cases (show a.a2 = f from Option.some.inj h)
      exact ⟨a.d2, b2 T B ih, T.f2.kp, T.f2.binds fun _ _ _ _ _ _ us hl => match us, hl with | [_, _], _ => rfl, by obtain ⟨oc, od, _, _, _, _, _, _, osl, e, lk, _⟩ := T.f2.ex; exact ⟨oc, od, osl, lk⟩⟩
    | 3, h =>
      cases (show a.a3 = f from Option.some.inj h)
      exact ⟨a.d3, b3 T B ih, T.f3.kp, T.f3.binds fun _ _ _ _ _ _ us hl => match us, hl with | [_, _], _ => rfl, by obtain ⟨oc, od, _, _, _, _, _, _, osl, e, lk, _⟩ := T.f3.ex; exact ⟨oc, od, osl, lk⟩⟩
    | 4, h =>
      cases (show a.a4 = f from Option.some.inj h)
      exact ⟨a.d4, b4 T B ih, T.f4.kp, T.f4.binds fun _ _ _ _ _ _ us hl => match us, hl with | [_], _ => rfl, by obtain ⟨oc, od, _, _, _, _, _, _, osl, e, lk, _⟩ := T.f4.ex; exact ⟨oc, od, osl, lk⟩⟩
    | 5, h =>
      cases (show a.a5 = f from Option.some.inj h)
      exact ⟨a.d5, b5 T B ih, T.f5.kp, T.f5.binds fun _ _ _ _ _ _ us hl => match us, hl with | [_, _], _ => rfl, by obtain ⟨oc, od, _, _, _, _, _, _, osl, e, lk, _⟩ := T.f5.ex; exact ⟨oc, od, osl, lk⟩⟩
    | 6, h =>
      cases (show a.a6 = f from Option.some.inj h)
      exact ⟨a.d6, b6 T B ih, T.f6.kp, T.f6.binds fun _ _ _ _ _ _ us hl => match us, hl with | [_], _ => rfl, by obtain ⟨oc, od, _, _, _, _, _, _, osl, e, lk, _⟩ := T.f6.ex; exact ⟨oc, od, osl, lk⟩⟩
    | 7, h =>
      cases (show a.a7 = f from Option.some.inj h)
      exact ⟨a.d7, b7 T B ih, T.f7.kp, T.f7.binds fun _ _ _ _ _ _ us hl => match us, hl with | [_, _], _ => rfl, by obtain ⟨oc, od, _, _, _, _, _, _, osl, e, lk, _⟩ := T.f7.ex; exact ⟨oc, od, osl, lk⟩⟩
    | 8, h =>
      cases (show a.a8 = f from Option.some.inj h)
      exact ⟨a.d8, b8 T B ih, T.f8.kp, T.f8.binds fun _ _ _ _ _ _ us hl => match us, hl with | [_, _, _], _ => rfl, by obtain ⟨oc, od, _, _, _, _, _, _, osl, e, lk, _⟩ := T.f8.ex; exact ⟨oc, od, osl, lk⟩⟩
    | 9, h =>
      cases (show a.a9 = f from Option.some.inj h)
      exact ⟨a.d9, b9 T B ih, T.f9.kp, T.f9.binds fun _ _ _ _ _ _ us hl => match us, hl with | [_, _, _], _ => rfl, by obtain ⟨oc, od, _, _, _, _, _, _, osl, e, lk, _⟩ := T.f9.ex; exact ⟨oc, od, osl, lk⟩⟩
    | 10, h =>
      cases (show a.a10 = f from Option.some.inj h)
      exact ⟨a.d10, b10 T B ih, T.f10.kp, T.f10.binds fun _ _ _ _ _ _ us hl => match us, hl with | [_, _], _ => rfl, by obtain ⟨oc, od, _, _, _, _, _, _, osl, e, lk, _⟩ := T.f10.ex; exact ⟨oc, od, osl, lk⟩⟩
    | 11, h =>
      cases (show a.a11 = f from Option.some.inj h)
      exact ⟨a.d11, b11 T B ih, T.f11.kp, T.f11.binds fun _ _ _ _ _ _ us hl => match us, hl with | [_, _], _ => rfl, by obtain ⟨oc, od, _, _, _, _, _, _, osl, e, lk, _⟩ := T.f11.ex; exact ⟨oc, od, osl, lk⟩⟩
    | 12, h =>
      cases (show a.a12 = f from Option.some.inj h)
      exact ⟨a.d12, b12 T B ih, T.f12.kp, T.f12.binds fun _ _ _ _ _ _ us hl => match us, hl with | [_], _ => rfl, by obtain ⟨oc, od, _, _, _, _, _, _, osl, e, lk, _⟩ := T.f12.ex; exact ⟨oc, od, osl, lk⟩⟩
    | 13, h =>
      cases (show a.a13 = f from Option.some.inj h)
      exact ⟨a.d13, b13 T B ih, T.f13.kp, T.f13.binds fun _ _ _ _ _ _ us hl => match us, hl with | [_, _], _ => rfl, by obtain ⟨oc, od, _, _, _, _, _, _, osl, e, lk, _⟩ := T.f13.ex; exact ⟨oc, od, osl, lk⟩⟩
    | 14, h =>
      cases (show a.a14 = f from Option.some.inj h)
      exact ⟨a.d14, b14 T B ih, T.f14.kp, T.f14.binds fun _ _ _ _ _ _ us hl => match us, hl with | [_, _], _ => rfl, by obtain ⟨oc, od, _, _, _, _, _, _, osl, e, lk, _⟩ := T.f14.ex; exact ⟨oc, od, osl, lk⟩⟩
    | 15, h =>
      cases (show a.a15 = f from Option.some.inj h)
      exact ⟨a.d15, b15 T B ih, T.f15.kp, T.f15.binds fun _ _ _ _ _ _ us hl => match us, hl with | [], _ => rfl, by obtain ⟨oc, od, _, _, _, _, _, _, osl, e, lk, _⟩ := T.f15.ex; exact ⟨oc, od, osl, lk⟩⟩
    | 16, h =>
      cases (show a.a16 = f from Option.some.inj h)
      exact ⟨a.d16, b16 T B ih, T.f16.kp, T.f16.binds fun _ _ _ _ _ _ us hl => match us, hl with | [], _ => rfl, by obtain ⟨oc, od, _, _, _, _, _, _, osl, e, lk, _⟩ := T.f16.ex; exact ⟨oc, od, osl, lk⟩⟩
    | 17, h =>
      cases (show a.a17 = f from Option.some.inj h)
      exact ⟨a.d17, b17 T B ih, T.f17.kp, T.f17.binds fun _ _ _ _ _ _ us hl => match us, hl with | [], _ => rfl, by obtain ⟨oc, od, _, _, _, _, _, _, osl, e, lk, _⟩ := T.f17.ex; exact ⟨oc, od, osl, lk⟩⟩
    | 18, h =>
      cases (show a.a18 = f from Option.some.inj h)
      exact ⟨a.d18, b18 T B ih, T.f18.kp, T.f18.binds fun _ _ _ _ _ _ us hl => match us, hl with | [_], _ => rfl, by obtain ⟨oc, od, _, _, _, _, _, _, osl, e, lk, _⟩ := T.f18.ex; exact ⟨oc, od, osl, lk⟩⟩
    | i + 19, h => cases (show (none : Option Addr) = some f from h)
end
abbrev RW : PySem.W.OpenRow := PySem.W.OpenLaw.row PySem.Challenge.rw_roundtold_k01_rings_by_hand_and_refused
def iD0 : He.DefD := ⟨("NoPlace", some "__init__"), "__init__", "NoPlace.__init__", Plc.iA ⟨4, 17, 4, 21⟩ ⟨4, 23, 4, 28⟩, Plc.iB ⟨5, 8, 5, 12⟩ ⟨5, 8, 5, 18⟩ ⟨5, 21, 5, 26⟩ ⟨5, 8, 5, 26⟩, Plc.iS, [], []⟩
def fnD : List He.DefD := [dD "is_number" s0, dD "is_word" s1, dD "is_ring" s2, dD "turned" s3, dD "least_turned" s4, dD "are_turned" s5, dD "root" s6, dD "check_room" s7, dD "letter_at" s8, dD "read" s9, dD "look_alike" s10, dD "first_apart" s11, dD "_law_lists" s12, dD "_law_same" s13, dD "_law_heard" s14, dD "_law_turned_right" s15, dD "_law_read_right" s16, dD "_law_refused_right" s17, dD "law" s18, iD0]
def fac : List He.Fa := [.glo "is_number", .glo "is_word", .glo "is_ring", .glo "turned", .glo "least_turned", .glo "are_turned", .glo "root", .glo "check_room", .glo "letter_at", .glo "read", .glo "look_alike", .glo "first_apart", .glo "_law_lists", .glo "_law_same", .glo "_law_heard", .glo "_law_turned_right", .glo "_law_read_right", .glo "_law_refused_right", .glo "law", .free "LookupError", .free "ValueError", .free "all", .free "bool", .free "int", .free "isinstance", .free "len", .free "list", .free "min", .free "range", .free "str", .free "tuple", .free "zip", .glo "NoPlace", .keep "NoPlace", .glo "CanNot", .keep "CanNot", .exm "NoPlace" "NoPlace" true, .exm "CanNot" "NoPlace" false, .exm "NoPlace" "CanNot" false, .exm "CanNot" "CanNot" true]
def tfs : List He.Defn := [("is_word", none), ("read", none)]
def exB (K : PySem.W.Frag) : Bool := erB K (He.ga K "NoPlace") && (decide (PySem.W.kitOne K (.ref (He.ga K "NoPlace")) (.type "LookupError") = some true) && (plcB K (He.ga K "NoPlace") (He.ma K (He.ga K "NoPlace") "__init__") && (erB K (He.ga K "CanNot") && (decide (PySem.W.kitOne K (.ref (He.ga K "CanNot")) (.type "ValueError") = some true) && (PySem.W.excIn K (He.ga K "CanNot") [.type "ValueError", .type "Exception", .type "BaseException", .type "object"] "ValueError.__new__" && (decide (PySem.W.typeIn K (.ref (He.ga K "CanNot")) = some (.type "type"))))))))
abbrev hk : PySem.W.Hook := He.hookX 6 fac fnD [] tfs exB
def ob (s : PySem.W.SharedT) : He.AlX := He.obsX 6 fac fnD [] tfs exB (HandSHeadRun.getT s)
theorem ob_eq (s : PySem.W.SharedT) : ob s = hk.obs s.abs := He.obsX_eq (HandSHeadRun.getT_eq s)
def lo0 : List Str := ["NoPlace", "CanNot", "is_number", "is_word", "is_ring", "turned", "least_turned", "are_turned", "root", "check_room", "letter_at", "read", "look_alike", "first_apart", "_law_lists", "_law_same", "_law_heard", "_law_turned_right", "_law_read_right", "_law_refused_right"]
def loose : List Str := ["NoPlace", "CanNot", "is_number", "is_word", "is_ring", "turned", "least_turned", "are_turned", "root", "check_room", "letter_at", "read", "look_alike", "first_apart", "_law_lists", "_law_same", "_law_heard", "_law_turned_right", "_law_read_right", "_law_refused_right"]
abbrev qv : Program := PySem.W.view RW.prog [24]
theorem run (w : World) : HandSHeadRun.RunEq RW qv hk ob 4000 loose w := by
  intro os
  kernel_rfl
theorem mkT {K : PySem.W.Frag} {h : Heap} {mg : Str → Option Value} {w : World} (X : K.In h) (G : h.Ns mainGlobals mg) (S : He.SaysX fac fnD [] tfs exB w h K) : ∃ a : Ad, Tx K mg a (He.ma K (He.ga K "NoPlace") "__init__") ∧ (a.t1, a.q1) = He.cT K ("is_word", none) ∧ (a.t9, a.q9) = He.cT K ("read", none) := by
  have c := S.t.d
  obtain ⟨d0, F0⟩ := def_at c 0 (x := "is_number") (st := s0) rfl
  obtain ⟨d1, F1⟩ := def_at c 1 (x := "is_word") (st := s1) rfl
  obtain ⟨d2, F2⟩ := def_at c 2 (x := "is_ring") (st := s2) rfl
  obtain ⟨d3, F3⟩ := def_at c 3 (x := "turned") (st := s3) rfl
  obtain ⟨d4, F4⟩ := def_at c 4 (x := "least_turned") (st := s4) rfl
  obtain ⟨d5, F5⟩ := def_at c 5 (x := "are_turned") (st := s5) rfl
  obtain ⟨d6, F6⟩ := def_at c 6 (x := "root") (st := s6) rfl
  obtain ⟨d7, F7⟩ := def_at c 7 (x := "check_room") (st := s7) rfl
  obtain ⟨d8, F8⟩ := def_at c 8 (x := "letter_at") (st := s8) rfl
  obtain ⟨d9, F9⟩ := def_at c 9 (x := "read") (st := s9) rfl
  obtain ⟨d10, F10⟩ := def_at c 10 (x := "look_alike") (st := s10) rfl
  obtain ⟨d11, F11⟩ := def_at c 11 (x := "first_apart") (st := s11) rfl
  obtain ⟨d12, F12⟩ := def_at c 12 (x := "_law_lists") (st := s12) rfl
  obtain ⟨d13, F13⟩ := def_at c 13 (x := "_law_same") (st := s13) rfl
  obtain ⟨d14, F14⟩ := def_at c 14 (x := "_law_heard") (st := s14) rfl
  obtain ⟨d15, F15⟩ := def_at c 15 (x := "_law_turned_right") (st := s15) rfl
  obtain ⟨d16, F16⟩ := def_at c 16 (x := "_law_read_right") (st := s16) rfl
  obtain ⟨d17, F17⟩ := def_at c 17 (x := "_law_refused_right") (st := s17) rfl
  obtain ⟨d18, F18⟩ := def_at c 18 (x := "law") (st := s18) rfl
  obtain ⟨e0, I0⟩ := c.def_ 19 (d := iD0) rfl
  have x0 := S.more
  obtain ⟨x0a, x1⟩ := Bool.and_eq_true_iff.mp x0
  obtain ⟨x1a, x2⟩ := Bool.and_eq_true_iff.mp x1
  obtain ⟨x2a, x3⟩ := Bool.and_eq_true_iff.mp x2
  obtain ⟨x3a, x4⟩ := Bool.and_eq_true_iff.mp x3
  obtain ⟨x4a, x5⟩ := Bool.and_eq_true_iff.mp x4
  obtain ⟨x5a, x6⟩ := Bool.and_eq_true_iff.mp x5
  have x6a := x6
  refine ⟨⟨He.ga K "is_number", d0, He.ga K "is_word", d1, He.ga K "is_ring", d2, He.ga K "turned", d3, He.ga K "least_turned", d4, He.ga K "are_turned", d5, He.ga K "root", d6, He.ga K "check_room", d7, He.ga K "letter_at", d8, He.ga K "read", d9, He.ga K "look_alike", d10, He.ga K "first_apart", d11, He.ga K "_law_lists", d12, He.ga K "_law_same", d13, He.ga K "_law_heard", d14, He.ga K "_law_turned_right", d15, He.ga K "_law_read_right", d16, He.ga K "_law_refused_right", d17, He.ga K "law", d18, He.ga K "NoPlace", He.ga K "CanNot", (He.cT K ("is_word", none)).1, (He.cT K ("is_word", none)).2, (He.cT K ("read", none)).1, (He.cT K ("read", none)).2⟩, ?_, rfl, rfl⟩
  exact { f0 := F0
          g0 := He.glo_ok X G (c.fact 0 (f := .glo "is_number") rfl)
          f1 := F1
          g1 := He.glo_ok X G (c.fact 1 (f := .glo "is_word") rfl)
          f2 := F2
          g2 := He.glo_ok X G (c.fact 2 (f := .glo "is_ring") rfl)
          f3 := F3
          g3 := He.glo_ok X G (c.fact 3 (f := .glo "turned") rfl)
          f4 := F4
          g4 := He.glo_ok X G (c.fact 4 (f := .glo "least_turned") rfl)
          f5 := F5
          g5 := He.glo_ok X G (c.fact 5 (f := .glo "are_turned") rfl)
          f6 := F6
          g6 := He.glo_ok X G (c.fact 6 (f := .glo "root") rfl)
          f7 := F7
          g7 := He.glo_ok X G (c.fact 7 (f := .glo "check_room") rfl)
          f8 := F8
          g8 := He.glo_ok X G (c.fact 8 (f := .glo "letter_at") rfl)
          f9 := F9
          g9 := He.glo_ok X G (c.fact 9 (f := .glo "read") rfl)
          f10 := F10
          g10 := He.glo_ok X G (c.fact 10 (f := .glo "look_alike") rfl)
          f11 := F11
          g11 := He.glo_ok X G (c.fact 11 (f := .glo "first_apart") rfl)
          f12 := F12
          g12 := He.glo_ok X G (c.fact 12 (f := .glo "_law_lists") rfl)
          f13 := F13
          g13 := He.glo_ok X G (c.fact 13 (f := .glo "_law_same") rfl)
          f14 := F14
          g14 := He.glo_ok X G (c.fact 14 (f := .glo "_law_heard") rfl)
          f15 := F15
          g15 := He.glo_ok X G (c.fact 15 (f := .glo "_law_turned_right") rfl)
          f16 := F16
          g16 := He.glo_ok X G (c.fact 16 (f := .glo "_law_read_right") rfl)
          f17 := F17
          g17 := He.glo_ok X G (c.fact 17 (f := .glo "_law_refused_right") rfl)
          f18 := F18
          g18 := He.glo_ok X G (c.fact 18 (f := .glo "law") rfl)
          z_LookupError := He.free_ok X G (c.fact 19 (f := .free "LookupError") rfl)
          z_ValueError := He.free_ok X G (c.fact 20 (f := .free "ValueError") rfl)
          z_all := He.free_ok X G (c.fact 21 (f := .free "all") rfl)
          z_bool := He.free_ok X G (c.fact 22 (f := .free "bool") rfl)
          z_int := He.free_ok X G (c.fact 23 (f := .free "int") rfl)
          z_isinstance := He.free_ok X G (c.fact 24 (f := .free "isinstance") rfl)
          z_len := He.free_ok X G (c.fact 25 (f := .free "len") rfl)
          z_list := He.free_ok X G (c.fact 26 (f := .free "list") rfl)
          z_min := He.free_ok X G (c.fact 27 (f := .free "min") rfl)
          z_range := He.free_ok X G (c.fact 28 (f := .free "range") rfl)
          z_str := He.free_ok X G (c.fact 29 (f := .free "str") rfl)
          z_tuple := He.free_ok X G (c.fact 30 (f := .free "tuple") rfl)
          z_zip := He.free_ok X G (c.fact 31 (f := .free "zip") rfl)
          gc0 := He.glo_ok X G (c.fact 32 (f := .glo "NoPlace") rfl)
          kc0 := He.keep_ok (c.fact 33 (f := .keep "NoPlace") rfl)
          e0 := erB_ok x0a
          ki0 := of_decide_eq_true x1a
          plc := plcB_ok x2a (He.glo_ok X G (c.fact 32 (f := .glo "NoPlace") rfl)) (erB_ok x0a).xf (by
        obtain ⟨oc, od, dV, kV, doc, pm, an, cdv, ct, osl, q, lk, hc, hD, hW⟩ := I0.ex
        subst q
        rcases hD with ⟨_, rfl⟩ | ⟨z, _⟩
        · exact init_at lk hc
        · exact absurd rfl z)
          gc1 := He.glo_ok X G (c.fact 34 (f := .glo "CanNot") rfl)
          kc1 := He.keep_ok (c.fact 35 (f := .keep "CanNot") rfl)
          e1 := erB_ok x3a
          ki1 := of_decide_eq_true x4a
          ex1 := x5a
          tc1 := of_decide_eq_true x6a
          exm := fun k C fs j D gs h1 h2 => by
            match k, h1, j, h2 with
            | 0, h1, 0, h2 => cases h1; cases h2; exact He.exm_ok (c.fact 36 (f := .exm "NoPlace" "NoPlace" true) rfl)
            | 0, h1, 1, h2 => cases h1; cases h2; exact He.exm_ok (c.fact 37 (f := .exm "CanNot" "NoPlace" false) rfl)
            | 0, h1, j + 2, h2 => cases (show (none : Option (Addr × List Str)) = some (D, gs) from h2)
            | 1, h1, 0, h2 => cases h1; cases h2; exact He.exm_ok (c.fact 38 (f := .exm "NoPlace" "CanNot" false) rfl)
            | 1, h1, 1, h2 => cases h1; cases h2; exact He.exm_ok (c.fact 39 (f := .exm "CanNot" "CanNot" true) rfl)
            | 1, h1, j + 2, h2 => cases (show (none : Option (Addr × List Str)) = some (D, gs) from h2)
            | k + 2, h1, _, _ => cases (show (none : Option (Addr × List Str)) = some (C, fs) from h1)
          cd1 := code_at F1
          cd9 := code_at F9 }
theorem lawAt (w : World) (mg : Str → Option Value) (f : Addr) (h : Heap) (Y : hk.says w h) (G : h.Ns mainGlobals mg) (hf : mg "law" = some (.ref f)) : ∃ K : PySem.W.Frag, K.In h ∧ LamX.LawAtS PySem.Challenge.rw_roundtold_k01_rings_by_hand_and_refused w K (L2.CX (PySem.Challenge.rw_roundtold_k01_rings_by_hand_and_refused).prog w) (4 * 15 + 4) 63 "script" mg f h := by
  obtain ⟨K, X, S⟩ := Y
  obtain ⟨a, T, u1, u9⟩ := mkT X G S
  have e := hf.symm.trans T.g18
  cases e
  refine ⟨K, X, a.d18, tfs.map (He.cT K), spF (KT K a) (f18 (cfN 15)), ?_, ?_, ?_, ?_, ?_, ?_⟩
  · intro p hp
    obtain ⟨q, hq, rfl⟩ := List.mem_map.mp hp
    exact S.empty q hq
  · intro p hp
    obtain ⟨q, hq, rfl⟩ := List.mem_map.mp hp
    exact S.out q hq
  · intro p hp
    obtain ⟨q, hq, rfl⟩ := List.mem_map.mp hp
    exact PySem.W.codeHd_of_K X (S.hd q hq)
  · exact binds_law T.f18 fun _ _ _ _ _ _ us hl => match us, hl with | [_], _ => rfl
  · intro H b ns _ _ hH _
    refine sp_done ran (fun P hP => ?_) hH trivial
    rcases (show P = a.q1 ∨ P = a.q9 from hP) with rfl | rfl
    · exact ⟨He.cT K ("is_word", none), List.mem_map.mpr ⟨_, by simp [tfs], rfl⟩, (congrArg (·.2) u1).symm⟩
    · exact ⟨He.cT K ("read", none), List.mem_map.mpr ⟨_, by simp [tfs], rfl⟩, (congrArg (·.2) u9).symm⟩
  · intro base hb hn tb
    exact b18 T ⟨by have z := tb (He.cT K ("is_word", none)) (List.mem_map.mpr ⟨_, by simp [tfs], rfl⟩); rw [← u1] at z; exact ⟨z.code, z.bm, z.gP⟩, by have z := tb (He.cT K ("read", none)) (List.mem_map.mpr ⟨_, by simp [tfs], rfl⟩); rw [← u9] at z; exact ⟨z.code, z.bm, z.gP⟩⟩ (all T ⟨by have z := tb (He.cT K ("is_word", none)) (List.mem_map.mpr ⟨_, by simp [tfs], rfl⟩); rw [← u1] at z; exact ⟨z.code, z.bm, z.gP⟩, by have z := tb (He.cT K ("read", none)) (List.mem_map.mpr ⟨_, by simp [tfs], rfl⟩); rw [← u9] at z; exact ⟨z.code, z.bm, z.gP⟩⟩ 15)
end RT.K01
open PySem PySem.W PySem.Calls PyProof.Rows
theorem PySem.Challenge.cw_roundtold_k01_rings_by_hand_and_refused_holds : PySem.Challenge.rw_roundtold_k01_rings_by_hand_and_refused.Holds := by
  w_on; o_law
  refine HandSHeadRun.head_any (r := OpenLaw.row PySem.Challenge.rw_roundtold_k01_rings_by_hand_and_refused) (q := RT.K01.qv) (H := RT.K01.hk) (ob := RT.K01.ob) (M := 4000) (loose := RT.K01.loose) (d := HandSHeadRun.topDef (OpenLaw.row PySem.Challenge.rw_roundtold_k01_rings_by_hand_and_refused).prog 24) (kwd := []) RT.K01.ob_eq
    (by kernel_rfl) (fun s => by kernel_rfl) RT.K01.run (by kernel_rfl) (by kernel_rfl) (by kernel_rfl) (by rfl) (by first | assumption | decide +kernel) (by decide +kernel) ⟨rfl, rfl, rfl, rfl, rfl, by decide +kernel⟩ ?hw ?hc
  case hw => w_witness2
  case hc =>
    refine LamX.walk_ofTsE (l := PySem.Challenge.rw_roundtold_k01_rings_by_hand_and_refused) (n := 63) (k := 4 * 15 + 4) (x := "script") (CX := fun w => L2.CX (PySem.Challenge.rw_roundtold_k01_rings_by_hand_and_refused).prog w) rfl (by decide) (by kernel_rfl) (RT.roomC _ (by decide)) (fun w mg fa h Y G hmg0 => ?_) (fun _ _ _ _ _ z => ?_)
    · have hmg : mg ("law" : PySem.Str) = some (.ref fa) := by
        have e : (HandSHeadRun.topDef (OpenLaw.row PySem.Challenge.rw_roundtold_k01_rings_by_hand_and_refused).prog 24).name = ("law" : PySem.Str) := by kernel_rfl
        rw [← e]
        exact hmg0
      exact RT.K01.lawAt w mg fa h Y G hmg
    · obtain ⟨_, _, _, _, _, _, _, _, _, _, _, _, z⟩ := z
      exact z
end
