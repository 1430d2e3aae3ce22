import PyProof.Rows.All
import HandS.ForMost
import HandS.TupAny
import HandS.Wide
import HandS.Walk
import HandS.Zip
import HandS.TupMul
import HandS.Style
import PyProof.ReprRoads
import Wide.All
import OpenK.AllK
import Wide.FinOn
import PyProof.ZipIter
import HandS.Zip0
import HandS.Iter
import HandS.Conv
import PyProof.Rows.CallKwBuiltin
import HandS.Deep
import HandS.IsInst
import HandS.Gcd
import HandS.FStrTup
import PyProof.Draws
import PyProof.EnumMake
import PyProof.Rows.SeqCalls
import PySem.Challenge.RW_paidahead_k05_steps_by_hand
set_option Elab.async false
set_option linter.all false
/-! PIa: a small Python over data: values, heap, written code, its runs. -/
namespace PI
open PySem

inductive IV where
  | non | bl (b : Bool) | int (i : Int) | str (x : Str) | tup (l : List IV) | ref (n : Nat) | rep (d : PyData)
  deriving Inhabited

inductive IO where
  | lst (l : List IV) | frz (l : List IV)
  deriving Inhabited
abbrev IH := List IO

/-- a constant -/
inductive CV where
  | non | bl (b : Bool) | int (i : Int) | str (x : Str)
def CV.v : CV → IV
  | .non => .non | .bl b => .bl b | .int i => .int i | .str x => .str x

inductive BOp where | add | sub | mul | fdiv | mod | pow
inductive COp where | eq | ne | lt | le | gt | ge | isN | notN | inn | notIn
inductive UOp where | not | neg
/-- the built-in calls -/
inductive BI where | len | int | tuple | list | repr | all | sum | abs | maxl | minl
/-- the built-in calls of two numbers -/
inductive B2 where | max | min | gcd
/-- the types that isinstance asks for -/
inductive TY where | int | bool | tuple
/-- methods of lists -/
inductive MI where | append | extend | index

/-- targets -/
inductive TG where
  | name (i : Nat) | tup (r : TG) | nil | cons (t r : TG)

inductive E where
  | var (i : Nat) | con (v : CV)
  | bin (op : BOp) (a b : E) | cmp (op : COp) (a b : E) | chain (o1 o2 : COp) (a b c : E)
  | un (op : UOp) (a : E)
  | and (a b : E) | or (a b : E) | ite (c a b : E)
  | tup (es : E) | lst (es : E)
  | sub (a b : E) | slice (a lo hi : E) | nopart
  | call (f : Nat) (es : E) | bcall (b : BI) (es : E) | bcall2 (b : B2) (x y : E)
  | meth (m : MI) (o es : E)
  | lc (vs : List Nat) (tg : TG) (it : E) (ifs : E) (elt : E)
  | lc2 (vs : List Nat) (tg : TG) (it : E) (ifs : E) (vs1 : List Nat) (tg1 : TG) (it1 : E) (ifs1 : E) (elt : E)
  | isi (e : E) (t : TY)
  | iseq (e : E) | irange (es : E) | ienum (e : E) | izip (st : Bool) (a b : E)
  | nil | cons (e es : E)

inductive S where
  | expr (e : E) | asg (tg : TG) (e : E) | asg2 (i j : Nat) (a b : E) | asg3 (i j l : Nat) (a b c : E) | setsub (e o i : E)
  | aug (i : Nat) (op : BOp) (e : E) | augsub (op : BOp) (o i e : E)
  | ret (e : E) | retN | ite (c : E) (a b : S) | whil (c : E) (b : S) | forr (tg : TG) (it : E) (b : S)
  | brk | cont | pass
  | nil | cons (s r : S)

/-! ### results -/
inductive Res (α : Type) where
  | ok (a : α) (h : IH) | bad
@[inline] def Res.bind {α β : Type} : Res α → (α → IH → Res β) → Res β
  | .ok a h, f => f a h
  | .bad, _ => .bad
/-- what a run reaches -/
def wpR {α : Type} (r : Res α) (Q : α → IH → Prop) : Prop := match r with
  | .ok a h => Q a h
  | .bad => False
theorem wpR_bind {α β : Type} {r : Res α} {f : α → IH → Res β} {Q : β → IH → Prop} : wpR (r.bind f) Q ↔ wpR r fun a h => wpR (f a h) Q := by
  cases r <;> exact Iff.rfl
theorem wpR_mono {α : Type} {r : Res α} {Q Q' : α → IH → Prop} (h : wpR r Q) (k : ∀ a h, Q a h → Q' a h) : wpR r Q' := by
  cases r with
  | ok a h' => exact k _ _ h
  | bad => exact h
theorem wpR_ok {α : Type} {r : Res α} {Q : α → IH → Prop} (h : wpR r Q) : ∃ a h', r = .ok a h' ∧ Q a h' := by
  cases r with
  | ok a h' => exact ⟨a, h', rfl, h⟩
  | bad => exact h.elim
def opt {α : Type} (o : Option α) (h : IH) : Res α := match o with
  | some a => .ok a h
  | none => .bad
theorem wpR_opt {α : Type} {o : Option α} {h : IH} {Q : α → IH → Prop} (w : wpR (opt o h) Q) : ∃ a, o = some a ∧ Q a h := by
  cases o with
  | some a => exact ⟨a, rfl, w⟩
  | none => exact w.elim

/-! ### reading lists -/
def getL (h : IH) (n : Nat) : Option (List IV) := match h[n]? with
  | some (.lst l) => some l
  | some (.frz l) => some l
  | none => none
def getM (h : IH) (n : Nat) : Option (List IV) := match h[n]? with
  | some (.lst l) => some l
  | _ => none
/-- a list's or a tuple's items -/
def seqI (h : IH) : IV → Option (List IV)
  | .tup l => some l
  | .ref n => getL h n
  | _ => none

/-! ### values as data -/
mutual
def dataOf : IV → Option PyData
  | .non => some .none
  | .bl b => some (.bool b)
  | .int i => some (.int i)
  | .str x => some (.str x)
  | .tup l => (datasOf l).map .tuple
  | .ref _ => none
  | .rep _ => none
def datasOf : List IV → Option (List PyData)
  | [] => some []
  | v :: r => match dataOf v with
    | some d => (datasOf r).map (d :: ·)
    | none => none
end
/-- lists one deep -/
def dataI (h : IH) : IV → Option PyData
  | .ref n => match getL h n with
    | some l => (datasOf l).map .list
    | none => none
  | v => dataOf v
mutual
def sameD : PyData → PyData → Bool
  | .none, .none => true
  | .bool a, .bool b => a == b
  | .int a, .int b => a == b
  | .str a, .str b => a == b
  | .tuple a, .tuple b => sameDs a b
  | .list a, .list b => sameDs a b
  | _, _ => false
def sameDs : List PyData → List PyData → Bool
  | [], [] => true
  | a :: l, b :: r => sameD a b && sameDs l r
  | _, _ => false
end
mutual
theorem sameD_eq : ∀ (d e : PyData), sameD d e = true → d = e
  | .none, e, h => by cases e <;> simp_all [sameD]
  | .bool _, e, h => by cases e <;> simp_all [sameD]
  | .int _, e, h => by cases e <;> simp_all [sameD]
  | .str _, e, h => by cases e <;> simp_all [sameD]
  | .tuple a, e, h => by
    cases e with
    | tuple b => rw [sameDs_eq a b (by simpa [sameD] using h)]
    | _ => simp [sameD] at h
  | .list a, e, h => by
    cases e with
    | list b => rw [sameDs_eq a b (by simpa [sameD] using h)]
    | _ => simp [sameD] at h
  | .dict _, e, h => by cases e <;> simp [sameD] at h
theorem sameDs_eq : ∀ (l r : List PyData), sameDs l r = true → l = r
  | [], [], _ => rfl
  | [], _ :: _, h => by simp [sameDs] at h
  | _ :: _, [], h => by simp [sameDs] at h
  | a :: l, b :: r, h => by
    rw [sameDs, Bool.and_eq_true] at h
    rw [sameD_eq a b h.1, sameDs_eq l r h.2]
end


mutual
def rb : PyData → Nat
  | .none => 10
  | .bool _ => 10
  | .int _ => 1921
  | .str x => 10 * x.length + 4
  | .list l => rbs l + 3
  | .tuple l => rbs l + 3
  | .dict _ => 0
def rbs : List PyData → Nat
  | [] => 0
  | d :: r => rb d + 2 + rbs r
end

/-! ### operations on values -/
def cmulB (i j : Int) : Bool := (decide (-(2 ^ 64) < i) && decide (i < 2 ^ 64)) || (decide (-(2 ^ 64) < j) && decide (j < 2 ^ 64))
/-- a new list -/
def newL (l : List IV) (h : IH) : Res IV := .ok (.ref h.length) (h ++ [.lst l])
def binI (op : BOp) (v w : IV) (h : IH) : Res IV := match op, v, w with
  | .add, .int i, .int j => .ok (.int (i + j)) h
  | .add, .tup a, .tup b => if a.length + b.length ≤ sizeLine then .ok (.tup (a ++ b)) h else .bad
  | .add, .ref a, .ref b => match getM h a, getM h b with
    | some x, some y => if x.length + y.length ≤ sizeLine then newL (x ++ y) h else .bad
    | _, _ => .bad
  | .sub, .int i, .int j => .ok (.int (i - j)) h
  | .mul, .int i, .int j => if cmulB i j then .ok (.int (i * j)) h else .bad
  | .mul, .ref a, .int k => match getM h a with
    | some x => if -(2 ^ 63) ≤ k ∧ k < 2 ^ 63 ∧ x.length * k.toNat ≤ sizeLine then newL (List.replicate k.toNat x).flatten h else .bad
    | none => .bad
  | .mul, .tup a, .int k => if k = 1 then .ok (.tup a) h else if 1 ≤ a.length ∧ 2 ≤ k ∧ k ≤ 1000 ∧ a.length ≤ 1000 then .ok (.tup (List.replicate k.toNat a).flatten) h else .bad
  | .fdiv, .int i, .int j => if 0 < j ∧ j < 1073741824 then .ok (.int (i / j)) h else .bad
  | .mod, .int i, .int j => if 0 < j then .ok (.int (i % j)) h else .bad
  | .pow, .int i, .int j => if 0 ≤ j ∧ j ≤ 1000000 ∧ i.natAbs < 2 ^ 64 then .ok (.int (i ^ j.toNat)) h else .bad
  | _, _, _ => .bad
def flatB : IV → Bool
  | .non => true | .bl _ => true | .int _ => true | .str _ => true | _ => false
def eqF : IV → IV → Bool
  | .non, .non => true
  | .bl a, .bl b => a == b
  | .bl a, .int b => (if a then 1 else 0) == b
  | .int a, .bl b => a == (if b then 1 else 0)
  | .int a, .int b => a == b
  | .str a, .str b => a == b
  | _, _ => false
def eqI (h : IH) (v w : IV) : Option Bool := match v, w with
  | .rep d, .rep e => if sameD d e then some true else none
  | v, w => match dataI h v, dataI h w with
    | some d, some e => if d.depth ≤ 64 ∧ e.depth ≤ 64 then some (PyData.eqv d e) else none
    | _, _ => none
def inI (h : IH) (v w : IV) : Option Bool := match seqI h w with
  | some l => if flatB v && l.all flatB then some (l.any fun y => eqF y v) else match w with
    | .ref _ => match dataOf v, datasOf l with
      | some d, some ds => if d.depth ≤ 64 ∧ PyData.depthAll ds ≤ 63 then some (ds.any fun z => PyData.eqv z d) else none
      | _, _ => none
    | _ => none
  | none => none
def isNon : IV → Bool
  | .non => true | _ => false
def cmpI (op : COp) (v w : IV) (h : IH) : Option Bool := match op with
  | .eq => eqI h v w
  | .ne => (eqI h v w).map not
  | .lt => match v, w with | .int i, .int j => some (decide (i < j)) | _, _ => none
  | .le => match v, w with | .int i, .int j => some (decide (i ≤ j)) | _, _ => none
  | .gt => match v, w with | .int i, .int j => some (decide (j < i)) | _, _ => none
  | .ge => match v, w with | .int i, .int j => some (decide (j ≤ i)) | _, _ => none
  | .isN => if isNon w then some (isNon v) else none
  | .notN => if isNon w then some (!isNon v) else none
  | .inn => inI h v w
  | .notIn => (inI h v w).map not
/-- an item -/
def subI (v w : IV) (h : IH) : Option IV := match w with
  | .int i => match seqI h v with
    | some l => L2.atI l i
    | none => none
  | _ => none
def partI : IV → Option (Option Int)
  | .non => some none
  | .int i => some (some i)
  | _ => none
def cutI (l : List IV) (lo hi : Option Int) : List IV := (l.drop (HT.sIx l.length 0 lo)).take (HT.sIx l.length l.length hi - HT.sIx l.length 0 lo)
def sliceI (v : IV) (lo hi : Option Int) (h : IH) : Res IV := match v with
  | .tup l => .ok (.tup (cutI l lo hi)) h
  | .ref n => match getL h n with
    | some l => newL (cutI l lo hi) h
    | none => .bad
  | _ => .bad
def boolsOf : List IV → Option (List Bool)
  | [] => some []
  | .bl b :: r => (boolsOf r).map (b :: ·)
  | _ => none
def intsOf : List IV → Option (List Int)
  | [] => some []
  | .int i :: r => (intsOf r).map (i :: ·)
  | _ => none
def maxOf (i : Int) : List Int → Int
  | [] => i
  | j :: r => maxOf (if j > i then j else i) r
def minOf (i : Int) : List Int → Int
  | [] => i
  | j :: r => minOf (if j < i then j else i) r
def isT : TY → IV → Bool
  | .int, .int _ => true
  | .int, .bl _ => true
  | .bool, .bl _ => true
  | .tuple, .tup _ => true
  | _, _ => false
def lstOf (h : IH) : IV → Option (List IV)
  | .ref n => getL h n
  | _ => none
def bI (b : BI) (v : IV) (h : IH) : Res IV := match b with
  | .all => match lstOf h v with
    | some l => opt ((boolsOf l).map fun bs => .bl (bs.all id)) h
    | none => .bad
  | .sum => match lstOf h v with
    | some l => opt ((intsOf l).map fun ns => .int ns.sum) h
    | none => .bad
  | .maxl => match seqI h v with
    | some l => match intsOf l with
      | some (i :: r) => .ok (.int (maxOf i r)) h
      | _ => .bad
    | none => .bad
  | .minl => match lstOf h v with
    | some l => match intsOf l with
      | some (i :: r) => .ok (.int (minOf i r)) h
      | _ => .bad
    | none => .bad
  | .abs => match v with
    | .int i => .ok (.int (if i < 0 then -i else i)) h
    | _ => .bad
  | .len => match seqI h v with
    | some l => .ok (.int l.length) h
    | none => .bad
  | .int => match v with
    | .int i => .ok (.int i) h
    | .bl k => .ok (.int (if k then 1 else 0)) h
    | _ => .bad
  | .tuple => match seqI h v with
    | some l => .ok (.tup l) h
    | none => .bad
  | .list => match seqI h v with
    | some l => newL l h
    | none => .bad
  | .repr => match dataI h v with
    | some d => if d.showable = true ∧ d.depth ≤ 64 ∧ rb d ≤ sizeLine then .ok (.rep d) h else .bad
    | none => .bad
def b2I (b : B2) (v w : IV) (h : IH) : Res IV := match b, v, w with
  | .gcd, .int i, .int j => .ok (.int ((Nat.gcd i.natAbs j.natAbs : Nat) : Int)) h
  | .max, .int i, .int j => .ok (.int (if j > i then j else i)) h
  | .min, .int i, .int j => .ok (.int (if j < i then j else i)) h
  | _, _, _ => .bad
def setL (h : IH) (n : Nat) (l : List IV) : IH := h.set n (.lst l)
def mI (m : MI) (v w : IV) (h : IH) : Res IV := match v with
  | .ref a => match getM h a with
    | some l => match m with
      | .index => match dataOf w, datasOf l with
        | some d, some ds => if d.depth ≤ 64 ∧ PyData.depthAll ds ≤ 63 then opt ((ds.findIdx? fun z => PyData.eqv z d).map fun (j : Nat) => .int j) h else .bad
        | _, _ => .bad
      | .append => if l.length < sizeLine then .ok .non (setL h a (l ++ [w])) else .bad
      | .extend => match w with
        | .ref b => match getM h b with
          | some r => if l.length + r.length ≤ sizeLine then .ok .non (setL h a (l ++ r)) else .bad
          | none => .bad
        | _ => .bad
    | none => .bad
  | _ => .bad
def isL (v : IV) (h : IH) : Bool := match v with
  | .ref a => (getM h a).isSome
  | _ => false

/-! ### what is walked -/
inductive ItS where
  | lref (n i : Nat) | items (l : List IV) | range (lo : Int) (n : Nat) | elref (n i : Nat) | eitems (i : Nat) (l : List IV) | zip (st : Bool) (v w : IV) (i : Nat)
def ItS.next : ItS → IH → Option (Option (IV × ItS))
  | .lref n i, h => match getL h n with
    | some l => match l[i]? with
      | some v => some (some (v, .lref n (i + 1)))
      | none => some none
    | none => none
  | .items [], _ => some none
  | .items (v :: r), _ => some (some (v, .items r))
  | .range _ 0, _ => some none
  | .range lo (n + 1), _ => some (some (.int lo, .range (lo + 1) n))
  | .elref n i, h => match getL h n with
    | some l => match l[i]? with
      | some v => some (some (.tup [.int i, v], .elref n (i + 1)))
      | none => some none
    | none => none
  | .eitems _ [], _ => some none
  | .eitems i (v :: r), _ => some (some (.tup [.int i, v], .eitems (i + 1) r))
  | .zip st v w i, h => match seqI h v, seqI h w with
    | some l, some r => match l[i]?, r[i]? with
      | some x, some y => some (some (.tup [x, y], .zip st v w (i + 1)))
      | none, none => some none
      | _, _ => if st then none else some none
    | _, _ => none
def ItS.fuel : ItS → IH → Nat
  | .lref n i, h => ((getL h n).getD []).length + 1
  | .items l, _ => l.length + 1
  | .range _ n, _ => n + 1
  | .elref n i, h => ((getL h n).getD []).length + 1
  | .eitems _ l, _ => l.length + 1
  | .zip _ v _ _, h => ((seqI h v).getD []).length + 1
def seqIt (v : IV) (h : IH) : Option ItS := match v with
  | .ref n => (getL h n).map fun _ => .lref n 0
  | .tup l => some (.items l)
  | _ => none
def enumIt (v : IV) (h : IH) : Option ItS := match v with
  | .ref n => (getL h n).map fun _ => .elref n 0
  | .tup l => some (.eitems 0 l)
  | _ => none
def zipIt (st : Bool) (v w : IV) (h : IH) : Option ItS := match seqI h v, seqI h w with
  | some _, some _ => some (.zip st v w 0)
  | _, _ => none
def rangeIt (vs : List IV) : Option ItS := match vs with
  | [.int j] => if -(2 ^ 62) ≤ j ∧ j < 2 ^ 62 then some (.range 0 j.toNat) else none
  | [.int i, .int j] => if -(2 ^ 62) ≤ i ∧ i < 2 ^ 62 ∧ -(2 ^ 62) ≤ j ∧ j < 2 ^ 62 then some (.range i (j - i).toNat) else none
  | _ => none

/-! ### locals -/
abbrev Lo := List (Option IV)
mutual
def putT : TG → IV → Lo → Option Lo
  | .name i, v, σ => some (σ.set i (some v))
  | .tup r, v, σ => match v with
    | .tup l => putTs r l σ
    | _ => none
  | .nil, _, _ => none
  | .cons _ _, _, _ => none
def putTs : TG → List IV → Lo → Option Lo
  | .nil, [], σ => some σ
  | .cons t r, v :: vs, σ => match putT t v σ with
    | some σ' => putTs r vs σ'
    | none => none
  | _, _, _ => none
end
def wipeI (σ : Lo) : List Nat → Lo
  | [] => σ
  | v :: vs => (wipeI σ vs).set v none

abbrev Fn := Nat → List IV → IH → Res IV

/-- the loop of a comprehension -/
def loopU (turn : IV → IH → Res Unit) : Nat → ItS → IH → Res Unit
  | 0, _, _ => .bad
  | n + 1, st, h => match st.next h with
    | none => .bad
    | some none => .ok () h
    | some (some (v, st')) => (turn v h).bind fun _ h' => loopU turn n st' h'
/-- the new list stands at D -/
def pushD (D : Nat) (y : IV) (h : IH) : Res Unit := match getM h D with
  | some l => if l.length < sizeLine then .ok () (setL h D (l ++ [y])) else .bad
  | none => .bad

mutual
def evalE (F : Fn) : E → Lo → IH → Res IV
  | .var i, σ, h => match σ[i]? with
    | some (some v) => .ok v h
    | _ => .bad
  | .con v, _, h => .ok v.v h
  | .bin op a b, σ, h => (evalE F a σ h).bind fun v h1 => (evalE F b σ h1).bind fun w h2 => binI op v w h2
  | .cmp op a b, σ, h => (evalE F a σ h).bind fun v h1 => (evalE F b σ h1).bind fun w h2 => opt ((cmpI op v w h2).map .bl) h2
  | .chain o1 o2 a b c, σ, h => (evalE F a σ h).bind fun v h1 => (evalE F b σ h1).bind fun w h2 => match cmpI o1 v w h2 with
    | some true => (evalE F c σ h2).bind fun u h3 => opt ((cmpI o2 w u h3).map .bl) h3
    | some false => .ok (.bl false) h2
    | none => .bad
  | .un .not a, σ, h => (evalE F a σ h).bind fun v h1 => match v with
    | .bl b => .ok (.bl (!b)) h1
    | _ => .bad
  | .un .neg a, σ, h => (evalE F a σ h).bind fun v h1 => match v with
    | .int i => .ok (.int (-i)) h1
    | _ => .bad
  | .and a b, σ, h => (evalE F a σ h).bind fun v h1 => match v with
    | .bl true => evalE F b σ h1
    | .bl false => .ok (.bl false) h1
    | _ => .bad
  | .or a b, σ, h => (evalE F a σ h).bind fun v h1 => match v with
    | .bl true => .ok (.bl true) h1
    | .bl false => evalE F b σ h1
    | _ => .bad
  | .ite c a b, σ, h => (evalE F c σ h).bind fun v h1 => match v with
    | .bl true => evalE F a σ h1
    | .bl false => evalE F b σ h1
    | _ => .bad
  | .tup es, σ, h => (evalEs F es σ h).bind fun l h1 => if l.length ≤ sizeLine then .ok (.tup l) h1 else .bad
  | .lst es, σ, h => (evalEs F es σ h).bind fun l h1 => if l.length ≤ sizeLine then newL l h1 else .bad
  | .sub a b, σ, h => (evalE F a σ h).bind fun v h1 => (evalE F b σ h1).bind fun w h2 => opt (subI v w h2) h2
  | .slice a lo hi, σ, h => (evalE F a σ h).bind fun v h1 => (evalP F lo σ h1).bind fun l h2 => (evalP F hi σ h2).bind fun u h3 => sliceI v l u h3
  | .call f es, σ, h => (evalEs F es σ h).bind fun vs h1 => F f vs h1
  | .bcall b es, σ, h => (evalEs F es σ h).bind fun vs h1 => match vs with
    | [v] => bI b v h1
    | _ => .bad
  | .bcall2 b x y, σ, h => (evalE F x σ h).bind fun v h1 => (evalE F y σ h1).bind fun w h2 => b2I b v w h2
  | .meth m o es, σ, h => (evalE F o σ h).bind fun v h1 => if isL v h1 then (evalEs F es σ h1).bind fun vs h2 => match vs with
      | [w] => mI m v w h2
      | _ => .bad
    else .bad
  | .lc vs tg it ifs elt, σ, h => (evalIt F it σ h).bind fun st h1 =>
    (loopU (fun v h => match putT tg v (wipeI σ vs) with
      | some σ2 => (evalB F ifs σ2 h).bind fun b h2 => match b with
        | true => (evalE F elt σ2 h2).bind fun y h3 => pushD h1.length y h3
        | false => .ok () h2
      | none => .bad) (st.fuel h1) st (h1 ++ [.lst []])).bind fun _ h2 => .ok (.ref h1.length) h2
  | .lc2 vs tg it ifs vs1 tg1 it1 ifs1 elt, σ, h => (evalIt F it σ h).bind fun st h1 =>
    (loopU (fun v h => match putT tg v (wipeI σ vs) with
      | some σ2 => (evalB F ifs σ2 h).bind fun b h2 => match b with
        | true => (evalIt F it1 σ2 h2).bind fun st1 h3 => loopU (fun v h => match putT tg1 v (wipeI σ2 vs1) with
          | some σ3 => (evalB F ifs1 σ3 h).bind fun b h2 => match b with
            | true => (evalE F elt σ3 h2).bind fun y h3 => pushD h1.length y h3
            | false => .ok () h2
          | none => .bad) (st1.fuel h3) st1 h3
        | false => .ok () h2
      | none => .bad) (st.fuel h1) st (h1 ++ [.lst []])).bind fun _ h2 => .ok (.ref h1.length) h2
  | .isi e t, σ, h => (evalE F e σ h).bind fun v h1 => .ok (.bl (isT t v)) h1
  | .izip _ _ _, _, _ => .bad
  | .nopart, _, _ => .bad
  | .iseq _, _, _ => .bad
  | .irange _, _, _ => .bad
  | .ienum _, _, _ => .bad
  | .nil, _, _ => .bad
  | .cons _ _, _, _ => .bad
def evalEs (F : Fn) : E → Lo → IH → Res (List IV)
  | .nil, _, h => .ok [] h
  | .cons e es, σ, h => (evalE F e σ h).bind fun v h1 => (evalEs F es σ h1).bind fun vs h2 => .ok (v :: vs) h2
  | _, _, _ => .bad
/-- a part of a slice: left out (nopart), or cons e nil -/
def evalP (F : Fn) : E → Lo → IH → Res (Option Int)
  | .nopart, _, h => .ok none h
  | .cons e _, σ, h => (evalE F e σ h).bind fun v h1 => match v with
    | .int i => .ok (some i) h1
    | _ => .bad
  | _, _, _ => .bad
/-- a comprehension's tests: none, or one -/
def evalB (F : Fn) : E → Lo → IH → Res Bool
  | .nil, _, h => .ok true h
  | .cons e .nil, σ, h => (evalE F e σ h).bind fun v h1 => match v with
    | .bl b => .ok b h1
    | _ => .bad
  | _, _, _ => .bad
def evalIt (F : Fn) : E → Lo → IH → Res ItS
  | .iseq e, σ, h => (evalE F e σ h).bind fun v h1 => opt (seqIt v h1) h1
  | .ienum e, σ, h => (evalE F e σ h).bind fun v h1 => opt (enumIt v h1) h1
  | .irange es, σ, h => (evalEs F es σ h).bind fun vs h1 => opt (rangeIt vs) h1
  | .izip st a b, σ, h => (evalE F a σ h).bind fun v h1 => (evalE F b σ h1).bind fun w h2 => opt (zipIt st v w h2) h2
  | _, _, _ => .bad
end

inductive Fl where | nx | bk | ct | rt (v : IV)
def loopF (body : IV → Lo → IH → Res (Fl × Lo)) : Nat → ItS → Lo → IH → Res (Fl × Lo)
  | 0, _, _, _ => .bad
  | n + 1, st, σ, h => match st.next h with
    | none => .bad
    | some none => .ok (.nx, σ) h
    | some (some (v, st')) => (body v σ h).bind fun p h' => match p.1 with
      | .nx => loopF body n st' p.2 h'
      | .ct => loopF body n st' p.2 h'
      | .bk => .ok (.nx, p.2) h'
      | .rt v => .ok (.rt v, p.2) h'
def loopW (c : Lo → IH → Res IV) (body : Lo → IH → Res (Fl × Lo)) : Nat → Lo → IH → Res (Fl × Lo)
  | 0, _, _ => .bad
  | n + 1, σ, h => (c σ h).bind fun v h1 => match v with
    | .bl false => .ok (.nx, σ) h1
    | .bl true => (body σ h1).bind fun p h' => match p.1 with
      | .nx => loopW c body n p.2 h'
      | .ct => loopW c body n p.2 h'
      | .bk => .ok (.nx, p.2) h'
      | .rt v => .ok (.rt v, p.2) h'
    | _ => .bad

def setI (v w x : IV) (h : IH) : Res Unit := match v, w with
  | .ref a, .int i => match getM h a with
    | some l => match L2.ixN l.length i with
      | some j => .ok () (setL h a (l.set j x))
      | none => .bad
    | none => .bad
  | _, _ => .bad

def augV (op : BOp) (x y : IV) : Option Int := match op, x, y with
  | .add, .int a, .int b => some (a + b)
  | .sub, .int a, .int b => some (a - b)
  | _, _, _ => none
def execS (F : Fn) (W : Nat) : S → Lo → IH → Res (Fl × Lo)
  | .expr e, σ, h => (evalE F e σ h).bind fun _ h1 => .ok (.nx, σ) h1
  | .asg tg e, σ, h => (evalE F e σ h).bind fun v h1 => opt ((putT tg v σ).map fun σ' => (.nx, σ')) h1
  | .asg2 i j a b, σ, h => (evalE F a σ h).bind fun v h1 => (evalE F b σ h1).bind fun w h2 => .ok (.nx, (σ.set i (some v)).set j (some w)) h2
  | .asg3 i j l a b c, σ, h => (evalE F a σ h).bind fun v h1 => (evalE F b σ h1).bind fun w h2 => (evalE F c σ h2).bind fun u h3 => .ok (.nx, ((σ.set i (some v)).set j (some w)).set l (some u)) h3
  | .setsub e o i, σ, h => (evalE F e σ h).bind fun x h1 => (evalE F o σ h1).bind fun v h2 => (evalE F i σ h2).bind fun w h3 => (setI v w x h3).bind fun _ h4 => .ok (.nx, σ) h4
  | .aug i op e, σ, h => match σ[i]? with
    | some (some v) => (evalE F e σ h).bind fun w h1 => match op, v, w with
      | .add, .int x, .int y => .ok (.nx, σ.set i (some (.int (x + y)))) h1
      | .sub, .int x, .int y => .ok (.nx, σ.set i (some (.int (x - y)))) h1
      | _, _, _ => .bad
    | _ => .bad
  | .augsub op o i e, σ, h => (evalE F o σ h).bind fun v h1 => (evalE F i σ h1).bind fun w h2 => if isL v h2 then (opt (subI v w h2) h2).bind fun x h3 => (evalE F e σ h3).bind fun y h4 => (opt (augV op x y) h4).bind fun c h5 => (setI v w (.int c) h5).bind fun _ h6 => .ok (.nx, σ) h6
    else .bad
  | .ret e, σ, h => (evalE F e σ h).bind fun v h1 => .ok (.rt v, σ) h1
  | .retN, σ, h => .ok (.rt .non, σ) h
  | .ite c a b, σ, h => (evalE F c σ h).bind fun v h1 => match v with
    | .bl true => execS F W a σ h1
    | .bl false => execS F W b σ h1
    | _ => .bad
  | .whil c b, σ, h => loopW (fun σ h => evalE F c σ h) (fun σ h => execS F W b σ h) W σ h
  | .forr tg it b, σ, h => (evalIt F it σ h).bind fun st h1 => loopF (fun v σ h => match putT tg v σ with
      | some σ2 => execS F W b σ2 h
      | none => .bad) (st.fuel h1) st σ h1
  | .brk, σ, h => .ok (.bk, σ) h
  | .cont, σ, h => .ok (.ct, σ) h
  | .pass, σ, h => .ok (.nx, σ) h
  | .nil, σ, h => .ok (.nx, σ) h
  | .cons s r, σ, h => (execS F W s σ h).bind fun p h1 => match p.1 with
    | .nx => execS F W r p.2 h1
    | f => .ok (f, p.2) h1

/-- a written def: how many parameters, how many slots, the body -/
structure Def where
  ps : Nat
  slots : Nat
  body : S
/-- the value that a body's end gives -/
def Fl.val : Fl → Option IV
  | .nx => some .non
  | .rt v => some v
  | _ => none
def runD (F : Fn) (W : Nat) (d : Def) (vs : List IV) (h : IH) : Res IV :=
  if vs.length = d.ps then (execS F W d.body (vs.map some ++ List.replicate (d.slots - vs.length) none) h).bind fun p h' => opt p.1.val h' else .bad
abbrev Tab := List Def
def run (T : Tab) (W : Nat) : Nat → Fn
  | 0, _, _, _ => .bad
  | n + 1, f, vs, h => match T[f]? with
    | some d => runD (run T W n) W d vs h
    | none => .bad
end PI

set_option Elab.async false
set_option linter.all false
/-! PIb: from the written text to the small code. -/
namespace PI
open PySem

inductive GK where | int (i : Int) | gcd
  deriving DecidableEq
/-- where a body stands: its slots, its scope, which of its names' cells are its own, the defs of the module -/
structure Cc where
  N : List Str
  sc : Scope
  fn : Str → Bool
  G : List Str
  C : List (Str × GK) := []

def visB (sc : Scope) (x : Str) : Bool := match sc.names.lookup x with
  | some .local => true | some .cell => true | some .free => true | _ => false
def locB (sc : Scope) (x : Str) : Bool := match sc.names.lookup x with
  | some .local => true | some .cell => true | _ => false
def isLocal (sc : Scope) (x : Str) : Bool := match sc.names.lookup x with
  | some .local => true | _ => false
def isGlob (sc : Scope) (x : Str) : Bool := match sc.names.lookup x with
  | some .globalImplicit => true | _ => false
def ixOf (N : List Str) (x : Str) : Option Nat := N.findIdx? (fun y => decide (y = x))
/-- a name that may be read -/
def slotR (c : Cc) (x : Str) : Option Nat := if visB c.sc x && !(decide (x = ("__debug__" : Str))) && !(decide (x = ("__classdict__" : Str))) then ixOf c.N x else none
/-- a name that may be stored -/
def slotW (c : Cc) (x : Str) : Option Nat := if locB c.sc x && (c.fn x || isLocal c.sc x) then ixOf c.N x else none

def cConst : Const → Option CV
  | .none => some .non
  | .bool b => some (.bl b)
  | .int i => some (.int i)
  | .str s => if PyData.strOk s then some (.str s) else none
  | _ => none
def cBin : Operator → Option BOp
  | .Add => some .add | .Sub => some .sub | .Mult => some .mul | .FloorDiv => some .fdiv | .Mod => some .mod | .Pow => some .pow | _ => none
def cCmp : CmpOp → Expr → Option COp
  | .Eq, _ => some .eq | .NotEq, _ => some .ne | .Lt, _ => some .lt | .LtE, _ => some .le | .Gt, _ => some .gt | .GtE, _ => some .ge
  | .Is, .Constant .none _ _ => some .isN | .IsNot, .Constant .none _ _ => some .notN | .Is, _ => none | .IsNot, _ => none
  | .In, .Set _ _ _ => none | .NotIn, .Set _ _ _ => none
  | .In, _ => some .inn | .NotIn, _ => some .notIn
/-- a built-in's name, which the module does not define -/
def cBI (x : Str) : Option BI :=
  if x = ("len" : Str) then some .len else if x = ("int" : Str) then some .int else if x = ("tuple" : Str) then some .tuple
  else if x = ("list" : Str) then some .list else if x = ("repr" : Str) then some .repr else if x = ("all" : Str) then some .all
  else if x = ("sum" : Str) then some .sum else if x = ("abs" : Str) then some .abs else if x = ("max" : Str) then some .maxl else if x = ("min" : Str) then some .minl else none
/-- the types of isinstance -/
def cTY (x : Str) : Option TY := if x = ("int" : Str) then some .int else if x = ("bool" : Str) then some .bool else if x = ("tuple" : Str) then some .tuple else none
def cMI (x : Str) : Option MI := if x = ("append" : Str) then some .append else if x = ("extend" : Str) then some .extend else if x = ("index" : Str) then some .index else none
/-- the built-ins that a body may call -/
def cB2 (x : Str) : Option B2 := if x = ("max" : Str) then some .max else if x = ("min" : Str) then some .min else none
def bltNames : List Str := ["len", "int", "tuple", "list", "repr", "range", "enumerate", "max", "min", "all", "sum", "abs", "isinstance", "bool", "zip"]

def cTGs (f : Expr → Option TG) : List Expr → Option TG
  | [] => some .nil
  | e :: es => match f e, cTGs f es with
    | some t, some r => some (.cons t r)
    | _, _ => none
def cTG (c : Cc) : Nat → Expr → Option TG
  | 0, e => match e with
    | .Name x _ => (slotW c x).map .name
    | _ => none
  | n + 1, e => match e with
    | .Name x _ => (slotW c x).map .name
    | .Tuple es _ _ => (cTGs (cTG c n) es).map .tup
    | _ => none
/-- the block of a comprehension: its own names with their slots -/
def ownOf (N : List Str) (scope : Scope) : List (Str × Nat) := scope.names.filterMap fun y => match y.2 with
  | .local => (ixOf N y.1).map fun i => (y.1, i)
  | .cell => (ixOf N y.1).map fun i => (y.1, i)
  | _ => none
mutual
def slotsT : TG → List Nat
  | .name i => [i]
  | .tup r => slotsTs r
  | .nil => []
  | .cons _ _ => []
def slotsTs : TG → List Nat
  | .nil => []
  | .cons t r => slotsT t ++ slotsTs r
  | .name _ => []
  | .tup _ => []
end
def subNat (l r : List Nat) : Bool := l.all fun i => r.contains i
def Cc.blk (c : Cc) (scope : Scope) : Cc := { c with sc := L2.relS scope c.sc, fn := fun x => scope.names.lookup x == some .cell }
def notStar : Expr → Bool
  | .Starred _ _ => false
  | _ => true
def plainBase : Expr → Bool
  | .Name _ _ => true
  | .Subscript _ _ _ => true
  | _ => false
def slicy : Expr → Bool
  | .Slice _ _ _ _ => true
  | _ => false
def setty : Expr → Bool
  | .Set _ _ _ => true
  | _ => false

def cEs (f : Expr → Option E) : List Expr → Option E
  | [] => some .nil
  | e :: es => match f e, cEs f es with
    | some x, some r => some (.cons x r)
    | _, _ => none
def cP (f : Expr → Option E) : Option Expr → Option E
  | none => some .nopart
  | some e => (f e).map fun x => .cons x .nil
def cIt (f : Expr → Option E) (c : Cc) (tg it : Expr) : Option E := match it with
    | .Call (.Name g _) es [] _ => if isGlob c.sc g && !c.G.contains g then
        (if g = ("range" : Str) then (if es.length == 1 || es.length == 2 then (cEs f es).map .irange else none)
        else if g = ("enumerate" : Str) then match tg, es with
          | .Tuple _ _ _, [a] => (f a).map .ienum
          | _, _ => none
        else if g = ("zip" : Str) then match tg, es with
          | .Tuple _ _ _, [a, b] => (match f a, f b with
            | some x, some y => some (.izip false x y)
            | _, _ => none)
          | _, _ => none
        else (f it).map .iseq)
      else (f it).map .iseq
    | .Call (.Name g _) [a, b] [⟨some k, .Constant (.bool true) _ _, _⟩] _ => if isGlob c.sc g && !c.G.contains g && decide (g = ("zip" : Str)) && decide (k = ("strict" : Str)) then match tg with
        | .Tuple _ _ _ => (match f a, f b with
          | some x, some y => some (.izip true x y)
          | _, _ => none)
        | _ => none
      else none
    | _ => (f it).map .iseq
def cE : Nat → Cc → Expr → Option E
  | 0, _, _ => none
  | n + 1, c, e => match e with
    | .Name x _ => match slotR c x with
      | some i => some (.var i)
      | none => if isGlob c.sc x && !c.G.contains x && !(decide (x = ("__debug__" : Str))) then match c.C.lookup x with
          | some (.int i) => some (.con (.int i))
          | _ => none
        else none
    | .Constant k _ _ => (cConst k).map .con
    | .BinOp a op b _ => match cBin op, cE n c a, cE n c b with
      | some o, some x, some y => some (.bin o x y)
      | _, _, _ => none
    | .Compare a [op] [b] _ => match cCmp op b, cE n c a, cE n c b with
      | some o, some x, some y => some (.cmp o x y)
      | _, _, _ => none
    | .Compare a [o1, o2] [b, d] _ => match cCmp o1 b, cCmp o2 d, cE n c a, cE n c b, cE n c d with
      | some p, some q, some x, some y, some z => some (.chain p q x y z)
      | _, _, _, _, _ => none
    | .UnaryOp .Not a _ => (cE n c a).map (.un .not)
    | .UnaryOp .USub a _ => (cE n c a).map (.un .neg)
    | .BoolOp op [a] _ => cE n c a
    | .BoolOp .And (a :: b :: r) pos => match cE n c a, cE n c (.BoolOp .And (b :: r) pos) with
      | some x, some y => some (.and x y)
      | _, _ => none
    | .BoolOp .Or (a :: b :: r) pos => match cE n c a, cE n c (.BoolOp .Or (b :: r) pos) with
      | some x, some y => some (.or x y)
      | _, _ => none
    | .IfExp t a b _ => match cE n c t, cE n c a, cE n c b with
      | some x, some y, some z => some (.ite x y z)
      | _, _, _ => none
    | .Tuple es _ _ => (cEs (cE n c) es).map .tup
    | .List es _ => (cEs (cE n c) es).map .lst
    | .Subscript a (.Slice lo hi none _) _ => match cE n c a, cP (cE n c) lo, cP (cE n c) hi with
      | some x, some y, some z => some (.slice x y z)
      | _, _, _ => none
    | .Subscript a b _ => if slicy b then none else match cE n c a, cE n c b with
      | some x, some y => some (.sub x y)
      | _, _ => none
    | .Call (.Name f _) es [] _ => if isGlob c.sc f && !(decide (f = ("__debug__" : Str))) then
        (if c.G.contains f then (match ixOf c.G f with | some k => (cEs (cE n c) es).map (.call k) | none => none)
        else match es with
          | [a] => (match cBI f, cE n c a with
            | some b, some x => some (.bcall b (.cons x .nil))
            | _, _ => none)
          | [a, d] => if f = ("isinstance" : Str) then (match d with
              | .Name t _ => if isGlob c.sc t && !c.G.contains t && !(decide (t = ("__debug__" : Str))) then (match cTY t, cE n c a with
                  | some k, some x => some (.isi x k)
                  | _, _ => none)
                else none
              | _ => none)
            else if c.C.lookup f = some .gcd then (match cE n c a, cE n c d with
              | some x, some y => some (.bcall2 .gcd x y)
              | _, _ => none)
            else (match cB2 f, cE n c a, cE n c d with
            | some b, some x, some y => some (.bcall2 b x y)
            | _, _, _ => none)
          | _ => none)
      else none
    | .Call (.Attribute o m apos) [a] [] pos => if plainBase o && (apos.endLine == pos.line) then match cMI m, cE n c o, cE n c a with
        | some k, some x, some y => some (.meth k x (.cons y .nil))
        | _, _, _ => none
      else none
    | .ListComp elt [⟨tg, it, ifs, 0⟩] scope _ => if L2.blkC c.N c.sc scope (ownOf c.N scope) && !setty it then
        match cTG (c.blk scope) 3 tg, cIt (cE n c) c tg it, cEs (cE n (c.blk scope)) ifs, cE n (c.blk scope) elt with
        | some t, some i, some f, some x => if decide (ifs.length ≤ 1) && subNat (slotsT t) ((ownOf c.N scope).map (·.2)) then some (.lc ((ownOf c.N scope).map (·.2)) t i f x) else none
        | _, _, _, _ => none
      else none
    | .ListComp elt [⟨tg, it, ifs, 0⟩, ⟨tg1, it1, ifs1, 0⟩] scope _ => if L2.blkC c.N c.sc scope (ownOf c.N scope) && !setty it && !setty it1 then
        match cTG (c.blk scope) 3 tg, cIt (cE n c) c tg it, cEs (cE n (c.blk scope)) ifs, cTG (c.blk scope) 3 tg1, cIt (cE n (c.blk scope)) (c.blk scope) tg1 it1, cEs (cE n (c.blk scope)) ifs1, cE n (c.blk scope) elt with
        | some t, some i, some f, some t1, some i1, some f1, some x =>
          if decide (ifs.length ≤ 1) && decide (ifs1.length ≤ 1) && subNat (slotsT t) ((ownOf c.N scope).map (·.2)) && subNat (slotsT t1) ((ownOf c.N scope).map (·.2)) then some (.lc2 ((ownOf c.N scope).map (·.2)) t i f (slotsT t1) t1 i1 f1 x) else none
        | _, _, _, _, _, _, _ => none
      else none
    | _ => none
def isComp : Expr → Bool
  | .ListComp _ _ _ _ => true | .SetComp _ _ _ _ => true | .DictComp _ _ _ _ _ => true | _ => false
/-- a comprehension that is stored at a name: told alone -/
def swC (sc : Scope) (x : Str) (px : Pos) : Expr → Bool
  | .ListComp _ _ s pos => isLocal sc x && (px.line == pos.line) && !(s.names.any fun (n, k) => n == x && (k == .local || k == .cell))
  | _ => false

/-- a row of targets of which one is no local name: nothing is swapped -/
def noSwap (sc : Scope) (es : List Expr) : Bool := es.any fun t => match t with
  | .Name x _ => !(isLocal sc x)
  | _ => true
def cTup (c : Cc) (f : Expr → Option E) (tg e : Expr) : Option S := match cTG c 3 tg, f e with
  | some t, some v => some (.asg t v)
  | _, _ => none
def cSs (f : Stmt → Option S) : List Stmt → Option S
  | [] => some .nil
  | s :: r => match f s, cSs f r with
    | some x, some y => some (.cons x y)
    | _, _ => none
def cS : Nat → Cc → Stmt → Option S
  | 0, _, _ => none
  | n + 1, c, st => match st with
    | .Expr e _ => if isComp e then none else (cE n c e).map .expr
    | .Assign [.Name x px] e _ => match slotW c x, cE n c e with
      | some i, some v => if isComp e then (if swC c.sc x px e then some (.asg (.name i) v) else if !(isLocal c.sc x) then some (.asg (.name i) v) else none) else some (.asg (.name i) v)
      | _, _ => none
    | .Assign [.Tuple [.Name x px, .Name y py] k1 p1] (.Tuple [a, b] k2 p2) _ =>
      match slotW c x, slotW c y, cE n c a, cE n c b with
      | some i, some j, some v, some w =>
        if isLocal c.sc x && isLocal c.sc y && !(decide (x = y)) && (px.line == py.line) && !(foldedForSure 8 a && foldedForSure 8 b) && !(constantsAlone 8 a && constantsAlone 8 b) && notStar a && notStar b then some (.asg2 i j v w) else if noSwap c.sc [.Name x px, .Name y py] then cTup c (cE n c) (.Tuple [.Name x px, .Name y py] k1 p1) (.Tuple [a, b] k2 p2) else none
      | _, _, _, _ => none
    | .Assign [.Tuple [.Name x px, .Name y py, .Name z pz] _ _] (.Tuple [a, b, d] _ _) _ =>
      match slotW c x, slotW c y, slotW c z, cE n c a, cE n c b, cE n c d with
      | some i, some j, some l, some v, some w, some u =>
        if isLocal c.sc x && isLocal c.sc y && isLocal c.sc z && !(decide (x = y)) && !(decide (x = z)) && !(decide (y = z)) && (px.line == py.line) && (px.line == pz.line) && !(foldedForSure 8 a && foldedForSure 8 b && foldedForSure 8 d) && !(constantsAlone 8 a && constantsAlone 8 b && constantsAlone 8 d) && notStar a && notStar b && notStar d then some (.asg3 i j l v w u) else none
      | _, _, _, _, _, _ => none
    | .Assign [.Tuple es k p] e _ => match e with
      | .Tuple vs k2 p2 => if noSwap c.sc es then cTup c (cE n c) (.Tuple es k p) (.Tuple vs k2 p2) else none
      | _ => if isComp e then none else match cTG c 3 (.Tuple es k p), cE n c e with
        | some t, some v => some (.asg t v)
        | _, _ => none
    | .Assign [.Subscript o i _] e _ => if slicy i || isComp e then none else match cE n c e, cE n c o, cE n c i with
      | some v, some x, some y => some (.setsub v x y)
      | _, _, _ => none
    | .AugAssign (.Name x _) op e _ => match slotW c x, cBin op, cE n c e with
      | some i, some .add, some v => some (.aug i .add v)
      | some i, some .sub, some v => some (.aug i .sub v)
      | _, _, _ => none
    | .AugAssign (.Subscript o i _) op e _ => if slicy i then none else match cE n c o, cE n c i, cBin op, cE n c e with
      | some x, some y, some .add, some v => some (.augsub .add x y v)
      | some x, some y, some .sub, some v => some (.augsub .sub x y v)
      | _, _, _, _ => none
    | .Return (some e) _ => (cE n c e).map .ret
    | .Return none _ => some .retN
    | .If t a b _ => match cE n c t, cSs (cS n c) a, cSs (cS n c) b with
      | some x, some y, some z => some (.ite x y z)
      | _, _, _ => none
    | .While t b [] _ => match cE n c t, cSs (cS n c) b with
      | some x, some y => some (.whil x y)
      | _, _ => none
    | .For tg it b [] _ => if setty it then none else match cTG c 3 tg, cIt (cE n c) c tg it, cSs (cS n c) b with
      | some t, some i, some y => some (.forr t i y)
      | _, _, _ => none
    | .Break _ => some .brk
    | .Continue _ => some .cont
    | .Pass _ => some .pass
    | _ => none
end PI

set_option Elab.async false
set_option linter.all false
set_option maxRecDepth 100000
/-! PIc: how the small values lie in the abstract heap; the operations by values. -/
namespace PI
open PySem PySem.Spec PyProof.Rows L2

mutual
inductive RepV (K : PySem.W.Frag) (io : List Addr) (H : Hp) : IV → V → Prop
  | non : RepV K io H .non .non
  | bl (b : Bool) : RepV K io H (.bl b) (.bl b)
  | int (i : Int) : RepV K io H (.int i) (.int i)
  | str (x : Str) : PyData.strOk x = true → RepV K io H (.str x) (.str x)
  | rep (d : PyData) : RepV K io H (.rep d) (.str d.shown)
  | tup {l : List IV} {a : Addr} {xs : List V} : SqT K H a xs → RepL K io H l xs → RepV K io H (.tup l) (.ref a)
  | ref {n : Nat} {a : Addr} : io[n]? = some a → RepV K io H (.ref n) (.ref a)
inductive RepL (K : PySem.W.Frag) (io : List Addr) (H : Hp) : List IV → List V → Prop
  | nil : RepL K io H [] []
  | cons {v : IV} {x : V} {l : List IV} {xs : List V} : RepV K io H v x → RepL K io H l xs → RepL K io H (v :: l) (x :: xs)
end

/-- what is no list stays -/
def Kp (H H' : Hp) : Prop := ∀ a o, H a = some o → (∀ l, o ≠ .lst l) → H' a = some o
theorem Kp.refl (H : Hp) : Kp H H := fun _ _ h _ => h
theorem Kp.trans {H H1 H2 : Hp} (a : Kp H H1) (b : Kp H1 H2) : Kp H H2 := fun c o h n => b c o (a c o h n) n
theorem Kp.new {H : Hp} {p : Addr} {o : HO} (h : H p = none) : Kp H (upd H p o) := fun a u e _ => by
  rw [upd_ne (ne_of_none e h)]; exact e
theorem Kp.write {H : Hp} {p : Addr} {xs ys : List V} (h : H p = some (.lst xs)) : Kp H (upd H p (.lst ys)) := fun a u e n => by
  rw [upd_ne fun z => by subst z; rw [h] at e; exact n xs (Option.some.inj e).symm]; exact e
theorem Kp.sqt {K : PySem.W.Frag} {H H' : Hp} (k : Kp H H') {a : Addr} {xs : List V} (h : SqT K H a xs) : SqT K H' a xs := by
  rcases h with (h | ⟨o, h⟩) | h
  · exact .inl (.inl (k _ _ h fun _ z => nomatch z))
  · exact .inl (.inr ⟨o, k _ _ h fun _ z => nomatch z⟩)
  · exact .inr h
/-- a list that nobody writes -/
def Fz (K : PySem.W.Frag) (H : Hp) (a : Addr) (xs : List V) : Prop := (∃ o, H a = some (.frz o (.lst xs))) ∨
    ∃ (o : Obj) (its : Array Value) (n : Nat), K.lookup a = some o ∧ o.cls = .type "list" ∧ o.dict = none ∧ o.data = .seq its n ∧ its.size ≤ sizeLine ∧ Vals xs its.toList
theorem Fz.sql {K : PySem.W.Frag} {H : Hp} {a : Addr} {xs : List V} (h : Fz K H a xs) : SqL K H a xs := by
  rcases h with ⟨o, h⟩ | h
  · exact .inl (.inr ⟨o, h⟩)
  · exact .inr h
theorem Kp.fz {K : PySem.W.Frag} {H H' : Hp} (k : Kp H H') {a : Addr} {xs : List V} (h : Fz K H a xs) : Fz K H' a xs := by
  rcases h with ⟨o, h⟩ | h
  · exact .inl ⟨o, k _ _ h fun _ z => nomatch z⟩
  · exact .inr h

structure Ext (io : List Addr) (H : Hp) (io' : List Addr) (H' : Hp) : Prop where
  pre : ∃ more, io' = io ++ more
  kp : Kp H H'
theorem Ext.refl (io : List Addr) (H : Hp) : Ext io H io H := ⟨⟨[], by simp⟩, Kp.refl H⟩
theorem Ext.trans {io io1 io2 : List Addr} {H H1 H2 : Hp} (a : Ext io H io1 H1) (b : Ext io1 H1 io2 H2) : Ext io H io2 H2 := by
  obtain ⟨m, rfl⟩ := a.pre
  obtain ⟨m', rfl⟩ := b.pre
  exact ⟨⟨m ++ m', by simp⟩, a.kp.trans b.kp⟩
theorem Ext.get {io io' : List Addr} {H H' : Hp} (e : Ext io H io' H') {n : Nat} {a : Addr} (h : io[n]? = some a) : io'[n]? = some a := by
  obtain ⟨m, rfl⟩ := e.pre
  have hn : n < io.length := (List.getElem?_eq_some_iff.mp h).1
  rw [List.getElem?_append_left hn]; exact h

section
variable {K : PySem.W.Frag} {io io' : List Addr} {H H' : Hp}
mutual
theorem RepV.mono (e : Ext io H io' H') : ∀ {v : IV} {x : V}, RepV K io H v x → RepV K io' H' v x
  | _, _, .non => .non
  | _, _, .bl b => .bl b
  | _, _, .int i => .int i
  | _, _, .str x h => .str x h
  | _, _, .rep d => .rep d
  | _, _, .tup s l => .tup (e.kp.sqt s) (RepL.mono e l)
  | _, _, .ref h => .ref (e.get h)
theorem RepL.mono (e : Ext io H io' H') : ∀ {v : List IV} {x : List V}, RepL K io H v x → RepL K io' H' v x
  | _, _, .nil => .nil
  | _, _, .cons a b => .cons (RepV.mono e a) (RepL.mono e b)
end
theorem RepL.length : ∀ {v : List IV} {x : List V}, RepL K io H v x → v.length = x.length
  | _, _, .nil => rfl
  | _, _, .cons _ b => by simp [RepL.length b]
theorem RepL.get : ∀ {l : List IV} {xs : List V} {i : Nat} {v : IV}, RepL K io H l xs → l[i]? = some v → ∃ x, xs[i]? = some x ∧ RepV K io H v x
  | _, _, _, _, .nil, h => by simp at h
  | _, _, 0, _, .cons a _, h => by simp at h; subst h; exact ⟨_, rfl, a⟩
  | _, _, i + 1, _, .cons _ b, h => by
    obtain ⟨x, h1, h2⟩ := RepL.get (i := i) b (by simpa using h)
    exact ⟨x, by simpa using h1, h2⟩
theorem RepL.append : ∀ {l r : List IV} {xs ys : List V}, RepL K io H l xs → RepL K io H r ys → RepL K io H (l ++ r) (xs ++ ys)
  | _, _, _, _, .nil, s => s
  | _, _, _, _, .cons a b, s => .cons a (RepL.append b s)
theorem RepL.take : ∀ {l : List IV} {xs : List V} (n : Nat), RepL K io H l xs → RepL K io H (l.take n) (xs.take n)
  | _, _, 0, _ => .nil
  | _, _, _ + 1, .nil => .nil
  | _, _, n + 1, .cons a b => .cons a (RepL.take n b)
theorem RepL.drop : ∀ {l : List IV} {xs : List V} (n : Nat), RepL K io H l xs → RepL K io H (l.drop n) (xs.drop n)
  | _, _, 0, r => r
  | _, _, _ + 1, .nil => .nil
  | _, _, n + 1, .cons _ b => RepL.drop n b
theorem RepL.set {v : IV} {x : V} (r : RepV K io H v x) : ∀ {l : List IV} {xs : List V} (i : Nat), RepL K io H l xs → RepL K io H (l.set i v) (xs.set i x)
  | _, _, _, .nil => .nil
  | _, _, 0, .cons _ b => .cons r b
  | _, _, i + 1, .cons a b => .cons a (RepL.set r i b)
theorem RepL.rep {l : List IV} {xs : List V} (r : RepL K io H l xs) : ∀ n : Nat, RepL K io H (List.replicate n l).flatten (List.replicate n xs).flatten
  | 0 => .nil
  | n + 1 => by
    rw [List.replicate_succ, List.replicate_succ, List.flatten_cons, List.flatten_cons]
    exact r.append (RepL.rep r n)
theorem RepL.cut {l : List IV} {xs : List V} (r : RepL K io H l xs) (lo hi : Option Int) : RepL K io H (cutI l lo hi) (cutV xs lo hi) := by
  unfold cutI cutV
  rw [r.length]
  exact (r.drop _).take _
theorem RepL.atI {l : List IV} {xs : List V} {i : Int} {v : IV} (r : RepL K io H l xs) (h : L2.atI l i = some v) : ∃ x, L2.atI xs i = some x ∧ RepV K io H v x := by
  unfold L2.atI at h ⊢
  rw [← r.length]
  cases e : ixN l.length i with
  | none => rw [e] at h; cases h
  | some j =>
    rw [e] at h
    exact r.get h
end

/-! ### the heap -/
def RepO (K : PySem.W.Frag) (io : List Addr) (H : Hp) : IO → Addr → Prop
  | .lst l, a => ∃ xs, H a = some (.lst xs) ∧ RepL K io H l xs
  | .frz l, a => ∃ xs, Fz K H a xs ∧ RepL K io H l xs
structure RepH (K : PySem.W.Frag) (io : List Addr) (H : Hp) (h : IH) : Prop where
  len : io.length = h.length
  obj : ∀ (n : Nat) (o : IO) (a : Addr), h[n]? = some o → io[n]? = some a → RepO K io H o a
  inj : ∀ (m n : Nat) (l r : List IV) (a : Addr), h[m]? = some (.lst l) → h[n]? = some (.lst r) → io[m]? = some a → io[n]? = some a → m = n
section
variable {K : PySem.W.Frag} {io : List Addr} {H : Hp} {h : IH}
theorem RepH.addr (R : RepH K io H h) {n : Nat} {o : IO} (e : h[n]? = some o) : ∃ a, io[n]? = some a := by
  have hn : n < h.length := (List.getElem?_eq_some_iff.mp e).1
  exact ⟨_, List.getElem?_eq_getElem (by rw [R.len]; exact hn)⟩
theorem getL_some {n : Nat} {l : List IV} (e : getL h n = some l) : h[n]? = some (.lst l) ∨ h[n]? = some (.frz l) := by
  unfold getL at e
  split at e
  · cases e; exact .inl (by assumption)
  · cases e; exact .inr (by assumption)
  · cases e
theorem getM_some {n : Nat} {l : List IV} (e : getM h n = some l) : h[n]? = some (.lst l) := by
  unfold getM at e
  split at e
  · cases e; assumption
  · cases e
theorem RepH.sql (R : RepH K io H h) {n : Nat} {l : List IV} {a : Addr} (e : getL h n = some l) (ha : io[n]? = some a) : ∃ xs, SqL K H a xs ∧ RepL K io H l xs := by
  rcases getL_some e with e | e
  · obtain ⟨xs, h1, h2⟩ := R.obj n _ a e ha
    exact ⟨xs, SqL.of h1, h2⟩
  · obtain ⟨xs, h1, h2⟩ := R.obj n _ a e ha
    exact ⟨xs, h1.sql, h2⟩
theorem RepH.lst (R : RepH K io H h) {n : Nat} {l : List IV} {a : Addr} (e : getM h n = some l) (ha : io[n]? = some a) : ∃ xs, H a = some (.lst xs) ∧ RepL K io H l xs :=
  R.obj n _ a (getM_some e) ha
/-- the heap tells more -/
theorem RepO.mono {io' : List Addr} {H' : Hp} (E : Ext io H io' H') {o : IO} {a : Addr} (r : RepO K io H o a) (k : ∀ l, o = .lst l → ∀ xs, H a = some (.lst xs) → H' a = some (.lst xs)) : RepO K io' H' o a := by
  cases o with
  | lst l => obtain ⟨xs, h1, h2⟩ := r; exact ⟨xs, k l rfl xs h1, h2.mono E⟩
  | frz l => obtain ⟨xs, h1, h2⟩ := r; exact ⟨xs, E.kp.fz h1, h2.mono E⟩
/-- a thing that is no list of ours is new -/
theorem RepH.newO (R : RepH K io H h) {p : Addr} {o : HO} (hp : H p = none) : RepH K io (upd H p o) h := by
  have E : Ext io H io (upd H p o) := ⟨⟨[], by simp⟩, Kp.new hp⟩
  exact ⟨R.len, fun n o a e ha => (R.obj n o a e ha).mono E fun _ _ xs q => by rw [upd_ne (ne_of_none q hp)]; exact q, R.inj⟩
theorem RepH.new (R : RepH K io H h) {p : Addr} {l : List IV} {xs : List V} (hp : H p = none) (r : RepL K io H l xs) :
    RepH K (io ++ [p]) (upd H p (.lst xs)) (h ++ [.lst l]) ∧ Ext io H (io ++ [p]) (upd H p (.lst xs)) := by
  have E : Ext io H (io ++ [p]) (upd H p (.lst xs)) := ⟨⟨[p], rfl⟩, Kp.new hp⟩
  have hl := R.len
  refine ⟨⟨by simp [hl], fun n o a e ha => ?_, fun m n l1 l2 a e1 e2 a1 a2 => ?_⟩, E⟩
  · by_cases hn : n < h.length
    · rw [List.getElem?_append_left hn] at e
      rw [List.getElem?_append_left (by omega)] at ha
      exact (R.obj n o a e ha).mono E fun _ _ xs q => by rw [upd_ne (ne_of_none q hp)]; exact q
    · have hn2 : n < (h ++ [IO.lst l]).length := (List.getElem?_eq_some_iff.mp e).1
      have en : n = h.length := by simp at hn2; omega
      subst en
      rw [List.getElem?_append_right (Nat.le_refl _)] at e
      rw [← hl, List.getElem?_append_right (Nat.le_refl _)] at ha
      simp at e ha
      subst e ha
      exact ⟨xs, upd_same, r.mono E⟩
  · have key : ∀ (m : Nat) (l1 : List IV), (h ++ [IO.lst l])[m]? = some (.lst l1) → (io ++ [p])[m]? = some a → (m = h.length ∧ a = p) ∨ (m < h.length ∧ h[m]? = some (.lst l1) ∧ io[m]? = some a) := by
      intro m l1 e ha
      by_cases hn : m < h.length
      · rw [List.getElem?_append_left hn] at e
        rw [List.getElem?_append_left (by omega)] at ha
        exact .inr ⟨hn, e, ha⟩
      · have hn2 : m < (h ++ [IO.lst l]).length := (List.getElem?_eq_some_iff.mp e).1
        have en : m = h.length := by simp at hn2; omega
        subst en
        rw [← hl, List.getElem?_append_right (Nat.le_refl _)] at ha
        simp at ha
        exact .inl ⟨rfl, ha.symm⟩
    rcases key m l1 e1 a1 with ⟨rfl, rfl⟩ | ⟨h1, h2, h3⟩ <;> rcases key n l2 e2 a2 with ⟨h4, h5⟩ | ⟨h4, h5, h6⟩
    · exact h4.symm
    · obtain ⟨xs, q, _⟩ := R.obj n _ _ h5 h6
      rw [hp] at q; cases q
    · subst h5
      obtain ⟨xs, q, _⟩ := R.obj m _ _ h2 h3
      rw [hp] at q; cases q
    · exact R.inj m n l1 l2 a h2 h5 h3 h6
theorem RepH.ref_new (R : RepH K io H h) {p : Addr} {H' : Hp} : RepV K (io ++ [p]) H' (.ref h.length) (.ref p) := by
  refine .ref ?_
  rw [← R.len, List.getElem?_append_right (Nat.le_refl _)]
  simp
theorem setL_get {n : Nat} {l l0 : List IV} (e : h[n]? = some (.lst l0)) (m : Nat) : (setL h n l)[m]? = if m = n then some (.lst l) else h[m]? := by
  unfold setL
  by_cases hm : m = n
  · subst hm
    rw [if_pos rfl, List.getElem?_set_self (List.getElem?_eq_some_iff.mp e).1]
  · rw [if_neg hm, List.getElem?_set_ne (Ne.symm hm)]
theorem RepH.write (R : RepH K io H h) {n : Nat} {a : Addr} {l0 l : List IV} {ys : List V} (e : getM h n = some l0) (ha : io[n]? = some a) (r : RepL K io H l ys) :
    RepH K io (upd H a (.lst ys)) (setL h n l) ∧ Ext io H io (upd H a (.lst ys)) := by
  obtain ⟨xs, hx, _⟩ := R.lst e ha
  have e := getM_some e
  have E : Ext io H io (upd H a (.lst ys)) := ⟨⟨[], by simp⟩, Kp.write hx⟩
  refine ⟨⟨by unfold setL; rw [List.length_set]; exact R.len, fun m o b em hb => ?_, fun m m' l1 l2 b e1 e2 b1 b2 => ?_⟩, E⟩
  · rw [setL_get e] at em
    by_cases hm : m = n
    · subst hm
      rw [if_pos rfl] at em
      cases em
      rw [ha] at hb; cases hb
      exact ⟨ys, upd_same, r.mono E⟩
    · rw [if_neg hm] at em
      refine (R.obj m o b em hb).mono E fun l1 el zs q => ?_
      subst el
      rw [upd_ne]
      · exact q
      · intro z
        subst z
        exact hm (R.inj m n l1 l0 b em e hb ha)
  · have key : ∀ (k : Nat) (l1 : List IV), (setL h n l)[k]? = some (.lst l1) → ∃ l2, h[k]? = some (.lst l2) := by
      intro k l1 ek
      rw [setL_get e] at ek
      by_cases hk : k = n
      · subst hk; exact ⟨l0, e⟩
      · rw [if_neg hk] at ek; exact ⟨l1, ek⟩
    obtain ⟨k1, g1⟩ := key m l1 e1
    obtain ⟨k2, g2⟩ := key m' l2 e2
    exact R.inj m m' k1 k2 b g1 g2 b1 b2
end
end PI

set_option Elab.async false
set_option linter.all false
set_option maxRecDepth 100000
set_option maxHeartbeats 1000000
/-! PZa: zip of two rows of any kind, strict or not, at the library's level. -/
namespace PZ
open PySem
open PySem.Sem (wp)
def SqK (k : Bool) (h : Heap) (a : Addr) (xs : Array Value) : Prop := match k with
  | false => h.IsList a xs
  | true => h.IsTuple a xs
def ItK (k : Bool) (h : Heap) (i l : Addr) (n : Nat) : Prop := match k with
  | false => h.IsListIter i l n
  | true => h.IsTupleIter i l n
def tyK (k : Bool) : String := match k with
  | false => "list_iterator"
  | true => "tuple_iterator"
def itO (k : Bool) (l : Addr) : Obj := { cls := .type (tyK k), data := .fields #[.ref l, .int 0 0] }
theorem SqK.extBut {k : Bool} {h h' : Heap} {a b : Addr} {xs : Array Value} (x : SqK k h a xs) (e : Heap.ExtBut b h h') (n : a ≠ b) : SqK k h' a xs := by
  cases k
  · exact Heap.IsList.extBut (show h.IsList a xs from x) e n
  · exact Heap.IsTuple.extBut (show h.IsTuple a xs from x) e n
theorem ItK.extBut {k : Bool} {h h' : Heap} {i l b : Addr} {n : Nat} (x : ItK k h i l n) (e : Heap.ExtBut b h h') (m : i ≠ b) : ItK k h' i l n := by
  cases k
  · exact Heap.IsListIter.extBut (show h.IsListIter i l n from x) e m
  · exact Heap.IsTupleIter.extBut (show h.IsTupleIter i l n from x) e m
theorem ItK.at {k : Bool} {h h' : Heap} {i l : Addr} {n : Nat} (x : ItK k h i l n) (e : ∀ o, h.get? i = some o → h'.get? i = some o) : ItK k h' i l n := by
  cases k
  · exact Heap.IsListIter.at (show h.IsListIter i l n from x) e
  · exact Heap.IsTupleIter.at (show h.IsTupleIter i l n from x) e
theorem ItK.lt {k : Bool} {h : Heap} {i l : Addr} {n : Nat} (x : ItK k h i l n) : i < h.objs.size := by
  cases k
  · obtain ⟨_, e, _⟩ := (show h.IsListIter i l n from x); exact Heap.lt_size e
  · obtain ⟨_, e, _⟩ := (show h.IsTupleIter i l n from x); exact Heap.lt_size e
theorem ItK.obj {k : Bool} {h : Heap} {i l : Addr} {n : Nat} (x : ItK k h i l n) : ∃ o, h.get? i = some o ∧ ∃ fs, o.data = .fields fs := by
  cases k
  · obtain ⟨o, e, _, d⟩ := (show h.IsListIter i l n from x); exact ⟨o, e, _, d⟩
  · obtain ⟨o, e, _, d⟩ := (show h.IsTupleIter i l n from x); exact ⟨o, e, _, d⟩
theorem SqK.push {k : Bool} {h : Heap} {a : Addr} {xs : Array Value} (x : SqK k h a xs) (o : Obj) : SqK k (h.push o) a xs := by
  cases k
  · exact Heap.IsList.push (show h.IsList a xs from x) o
  · exact Heap.IsTuple.push (show h.IsTuple a xs from x) o
theorem SqK.lt {k : Bool} {h : Heap} {a : Addr} {xs : Array Value} (x : SqK k h a xs) : a < h.objs.size := by
  cases k
  · obtain ⟨_, e, _⟩ := (show h.IsList a xs from x); exact Heap.lt_size e
  · obtain ⟨_, e, _⟩ := (show h.IsTuple a xs from x); exact Heap.lt_size e
theorem ItK.new {k : Bool} {h : Heap} {i l : Addr} (e : h.get? i = some (itO k l)) : ItK k h i l 0 := by
  cases k <;> exact ⟨_, e, rfl, rfl⟩
section
variable {prog : Program} {w : World} {A : Around} {E : Value → Shared → Prop} {s : Shared}
theorem pyIterK {k : Bool} {l : Addr} {items : Array Value} {Q : Value → Shared → Prop} (hl : SqK k s.heap l items) (hQ : Q (.ref s.heap.objs.size) { s with heap := s.heap.push (itO k l) }) :
    wpAny (model prog w) A (pyIter (.ref l)) Q E s := by
  cases k
  · exact wpAny_pyIter_list hl hQ
  · exact wpAny_pyIter_tuple hl hQ
theorem nextK_item {k : Bool} {it l : Addr} {i : Nat} {items : Array Value} {x : Value} {Q : Value → Shared → Prop} (hit : ItK k s.heap it l i) (hl : SqK k s.heap l items) (hx : items[i]? = some x)
    (hQ : ∀ h', ItK k h' it l (i + 1) → Heap.SameBut it s.heap h' → Q x { s with heap := h' }) : wpAny (model prog w) A (Builtin.SmallTypes.nextOf (.ref it)) Q E s := by
  cases k
  · exact wpAny_nextOf_list_item hit hl hx hQ
  · exact RZ.nextOf_tuple_item hit hl hx hQ
theorem nextK_end {k : Bool} {it l : Addr} {i : Nat} {items : Array Value} {Q : Value → Shared → Prop} (hh : A.handled = none) (hit : ItK k s.heap it l i) (hl : SqK k s.heap l items) (hx : items[i]? = none)
    (hE : ∀ h' e, Heap.ExtBut it s.heap h' → (∃ o, h'.get? e = some o ∧ o.cls = .type "StopIteration") → E (.ref e) { s with heap := h' }) : wpAny (model prog w) A (Builtin.SmallTypes.nextOf (.ref it)) Q E s := by
  cases k
  · exact wpAny_nextOf_list_end hh hit hl hx hE
  · exact RZ.nextOf_tuple_end hh hit hl hx hE
theorem orEnd_item {k : Bool} {it l : Addr} {i : Nat} {items : Array Value} {x : Value} {Q : Option Value → Shared → Prop} (hit : ItK k s.heap it l i) (hl : SqK k s.heap l items) (hx : items[i]? = some x)
    (hQ : ∀ h', ItK k h' it l (i + 1) → Heap.SameBut it s.heap h' → Q (some x) { s with heap := h' }) : wpAny (model prog w) A (Builtin.SmallTypes.nextOrEnd (.ref it)) Q E s := by
  unfold Builtin.SmallTypes.nextOrEnd
  exact wpAny_bind (wpAny_attempt (nextK_item hit hl hx fun h' a b => wpAny_pure (hQ h' a b)))
theorem orEnd_end {k : Bool} {it l : Addr} {i : Nat} {items : Array Value} {Q : Option Value → Shared → Prop} (hh : A.handled = none) (hit : ItK k s.heap it l i) (hl : SqK k s.heap l items) (hx : items[i]? = none)
    (hQ : ∀ h', Heap.ExtBut it s.heap h' → Q none { s with heap := h' }) : wpAny (model prog w) A (Builtin.SmallTypes.nextOrEnd (.ref it)) Q E s := by
  unfold Builtin.SmallTypes.nextOrEnd
  refine wpAny_bind (wpAny_attempt (nextK_end hh hit hl hx fun h' e hk he => ?_))
  obtain ⟨o, ho, hc⟩ := he
  refine wpAny_bind (wpAny_isInstance (T := "StopIteration") (b := true) ⟨o, ho, hc⟩ isSubtype_stop ?_)
  exact wpAny_pure (hQ _ hk)
theorem stop_any {α : Type} {Q : α → Shared → Prop} (hh : A.handled = none)
    (hE : ∀ h' e, (∀ c o, s.heap.get? c = some o → h'.get? c = some o) → (∃ o, h'.get? e = some o ∧ o.cls = .type "StopIteration") → E (.ref e) { s with heap := h' }) :
    wpAny (model prog w) A (Builtin.SmallTypes.stopIteration) Q E s := by
  unfold Builtin.SmallTypes.stopIteration
  refine wpAny_bind ?_
  simp only [newExc, newTuple]
  refine wpAny_bind (wpAny_newObj_type ?_ (by size_fits))
  refine wpAny_bind (m := firstArgMember _ _) (wpAny_of_eq (a := Value.none) (by first | rfl | (simp only [firstArgMember]; rfl)) ?_)
  refine wpAny_newObj_type ?_ (by size_fits)
  simp only [raiseNew]
  refine wpAny_bind (wpAny_handled ?_)
  first | rw [show A.in1.handled = none from hh] | rw [hh]
  refine wpAny_bind (wpAny_pure (wpAny_throw ?_))
  exact hE _ _ (fun c o q => Heap.get?_push_of_some _ (Heap.get?_push_of_some _ q)) ⟨_, Heap.get?_push_size _ rfl, rfl⟩
end
abbrev IsZipS (st : Bool) (h : Heap) (z TI TO : Addr) (f0 : Value) : Prop :=
  h.get? z = some { cls := .type "zip", dict := none, data := .fields #[f0, .bool false, .bool st, .ref TI, .ref TO], slots := #[] }
section
variable {prog : Program} {w : World} {A : Around} {E : Value → Shared → Prop} {s : Shared}
theorem zipK_next_item {st ka kb : Bool} {z TI TO i1 i2 l1 l2 : Addr} {k1 k2 : Nat} {xs ys : Array Value} {x y a b : Value} {Q : Value → Shared → Prop} (D : ZipApart z TI TO i1 i2 l1 l2)
    (hz : IsZipS st s.heap z TI TO .none) (hTI : IsPair s.heap TI (.ref i1) (.ref i2)) (hTO : IsPair s.heap TO a b)
    (h1 : ItK ka s.heap i1 l1 k1) (h2 : ItK kb s.heap i2 l2 k2) (hl1 : SqK ka s.heap l1 xs) (hl2 : SqK kb s.heap l2 ys) (hx : xs[k1]? = some x) (hy : ys[k2]? = some y)
    (hQ : ∀ h', IsZipS st h' z TI TO (rawInt s.heap.objs.size) → IsPair h' TO x y → ItK ka h' i1 l1 (k1 + 1) → ItK kb h' i2 l2 (k2 + 1) → IsPair h' s.heap.objs.size x y → h'.objs.size = s.heap.objs.size + 1 →
      (∀ c o, c ≠ z → c ≠ TO → c ≠ i1 → c ≠ i2 → s.heap.get? c = some o → h'.get? c = some o) → Q (.ref s.heap.objs.size) { s with heap := h' }) :
    wpAny (model prog w) A (Builtin.«zip.__next__» ⟨[.ref z], []⟩) (fun fin s' => ∃ v, fin = .done (.ret v) ∧ Q v s') E s := by
  show wpAny _ _ (field (.ref z) 2 >>= _) _ _ _
  refine wpAny_bind (wpAny_field hz rfl (x := .bool st) rfl ?_)
  show wpAny _ _ (field (.ref z) 3 >>= _) _ _ _
  refine wpAny_bind (wpAny_field hz rfl (x := .ref TI) rfl ?_)
  refine wpAny_bind (wpAny_seqItems hTI rfl ?_)
  show wpAny _ _ (Builtin.SmallTypes.ownedTupleIsFree (.ref z) >>= _) _ _ _
  refine wpAny_bind ?_
  unfold Builtin.SmallTypes.ownedTupleIsFree
  refine wpAny_bind (wpAny_field hz rfl (x := .none) rfl (wpAny_pure ?_))
  simp only [if_true]
  refine wpAny_bind (wpAny_rule ?_)
  refine wpAny_bind (wpAny_field hz rfl (x := .ref TO) rfl ?_)
  refine wpAny_bind (wpAny_setField_rec hz (by simp) fun h₁ hz₁ hs₁ => ?_)
  replace hz₁ : IsZipS st h₁ z TI TO .ellipsis := hz₁
  refine wpAny_bind ?_
  simp only [List.zipIdx_cons, List.zipIdx_nil, List.forIn_cons, List.forIn_nil]
  have draw1 : ∀ {Q' : Option Value → Shared → Prop} {E' : Value → Shared → Prop} {s₁ : Shared}, s₁.heap = h₁ → (∀ h₂, ItK ka h₂ i1 l1 (k1 + 1) → Heap.SameBut i1 h₁ h₂ → Q' (some x) { s₁ with heap := h₂ }) →
      wpAny (model prog w) A (if (st == true) = true then Builtin.SmallTypes.nextOrEnd (.ref i1) else (do return some (← Builtin.SmallTypes.nextOf (.ref i1)))) Q' E' s₁ := by
    intro Q' E' s₁ e q
    subst e
    cases st
    · rw [if_neg (by decide)]
      exact wpAny_bind (nextK_item (h1.extBut hs₁.extBut D.i1z) (hl1.extBut hs₁.extBut D.l1z) hx fun h₂ a b => wpAny_pure (q h₂ a b))
    · rw [if_pos (by decide)]
      exact orEnd_item (h1.extBut hs₁.extBut D.i1z) (hl1.extBut hs₁.extBut D.l1z) hx q
  have draw2 : ∀ {Q' : Option Value → Shared → Prop} {E' : Value → Shared → Prop} {s₁ : Shared}, ItK kb s₁.heap i2 l2 k2 → SqK kb s₁.heap l2 ys → (∀ h₂, ItK kb h₂ i2 l2 (k2 + 1) → Heap.SameBut i2 s₁.heap h₂ → Q' (some y) { s₁ with heap := h₂ }) →
      wpAny (model prog w) A (if (st == true) = true then Builtin.SmallTypes.nextOrEnd (.ref i2) else (do return some (← Builtin.SmallTypes.nextOf (.ref i2)))) Q' E' s₁ := by
    intro Q' E' s₁ g1 g2 q
    cases st
    · rw [if_neg (by decide)]
      exact wpAny_bind (nextK_item g1 g2 hy fun h₂ a b => wpAny_pure (q h₂ a b))
    · rw [if_pos (by decide)]
      exact orEnd_item g1 g2 hy q

  refine wpAny_bind (wpAny_bind (wpAny_onRaise ?_))
  have eqs : ∀ b : Bool, (Value.bool b == Value.bool true) = (b == true) := fun b => by cases b <;> rfl
  rw [eqs]
  refine draw1 rfl fun h₂ h1₂ hs₂ => ?_
  have hTO₂ : IsPair h₂ TO a b := hs₂.extBut _ _ D.TOi1 (hs₁.extBut _ _ D.TOz hTO)
  refine wpAny_bind (wpAny_seqItems hTO₂ rfl ?_)
  refine wpAny_bind (wpAny_updateSeq_pair hTO₂ fun h₃ hTO₃ hs₃ => ?_)
  replace hTO₃ : IsPair h₃ TO x b := hTO₃
  refine wpAny_bind (wpAny_letGo (wpAny_pure ?_))

  refine wpAny_bind (wpAny_bind (wpAny_onRaise ?_))
  refine draw2 (((h2.extBut hs₁.extBut D.i2z).extBut hs₂.extBut D.i12.symm).extBut hs₃.extBut D.TOi2.symm)
    (((hl2.extBut hs₁.extBut D.l2z).extBut hs₂.extBut D.l2i1).extBut hs₃.extBut D.l2TO) fun h₄ h2₄ hs₄ => ?_
  have hTO₄ : IsPair h₄ TO x b := hs₄.extBut _ _ D.TOi2 hTO₃
  refine wpAny_bind (wpAny_seqItems hTO₄ rfl ?_)
  refine wpAny_bind (wpAny_updateSeq_pair hTO₄ fun h₅ hTO₅ hs₅ => ?_)
  replace hTO₅ : IsPair h₅ TO x y := hTO₅
  refine wpAny_bind (wpAny_letGo (wpAny_pure (wpAny_pure ?_)))

  refine wpAny_bind (wpAny_seqItems hTO₅ rfl ?_)
  refine wpAny_bind (wpAny_newTuple ?_)
  have hsz : h₅.objs.size = s.heap.objs.size := by rw [hs₅.1, hs₄.1, hs₃.1, hs₂.1, hs₁.1]
  have hz₅ : IsZipS st h₅ z TI TO .ellipsis := hs₅.extBut _ _ D.TOz.symm (hs₄.extBut _ _ D.i2z.symm (hs₃.extBut _ _ D.TOz.symm (hs₂.extBut _ _ D.i1z.symm hz₁)))
  have hk₅ : ∀ c o, c ≠ z → c ≠ TO → c ≠ i1 → c ≠ i2 → s.heap.get? c = some o → h₅.get? c = some o := fun c o c1 c2 c3 c4 e =>
    hs₅.extBut _ _ c2 (hs₄.extBut _ _ c4 (hs₃.extBut _ _ c2 (hs₂.extBut _ _ c3 (hs₁.extBut _ _ c1 e))))
  have h1₅ : ItK ka h₅ i1 l1 (k1 + 1) := ((h1₂.extBut hs₃.extBut D.TOi1.symm).extBut hs₄.extBut D.i12).extBut hs₅.extBut D.TOi1.symm
  have h2₅ : ItK kb h₅ i2 l2 (k2 + 1) := h2₄.extBut hs₅.extBut D.TOi2.symm
  have hzlt : z < h₅.objs.size := Heap.lt_size hz₅
  have hTOlt : TO < h₅.objs.size := Heap.lt_size hTO₅
  show wpAny _ _ (Builtin.SmallTypes.ownedTupleHandOut (.ref z) (.ref h₅.objs.size) >>= _) _ _ _
  refine wpAny_bind ?_
  unfold Builtin.SmallTypes.ownedTupleHandOut
  have hz₆ : IsZipS st (h₅.push { cls := .type "tuple", data := .seq #[x, y] }) z TI TO .ellipsis := Heap.get?_push_of_some _ hz₅
  refine wpAny_bind (wpAny_setField_rec hz₆ (by simp) fun h₇ hz₇ hs₇ => ?_)
  replace hz₇ : IsZipS st h₇ z TI TO (rawInt h₅.objs.size) := hz₇
  refine wpAny_setField_rec hz₇ (by simp) fun h₈ hz₈ hs₈ => ?_
  replace hz₈ : IsZipS st h₈ z TI TO (rawInt h₅.objs.size) := hz₈
  have up : ∀ c o, c ≠ z → h₅.get? c = some o → h₈.get? c = some o := fun c o c1 e => hs₈.extBut _ _ c1 (hs₇.extBut _ _ c1 (Heap.get?_push_of_some _ e))
  have hT₈ : IsPair h₈ h₅.objs.size x y := hs₈.extBut _ _ (Nat.ne_of_gt hzlt) (hs₇.extBut _ _ (Nat.ne_of_gt hzlt) (Heap.get?_push_size _ rfl))
  have hz8 : h₈.objs.size = h₅.objs.size + 1 := by rw [hs₈.1, hs₇.1, Heap.size_push]
  rw [hsz] at hz₈ hT₈ hz8
  refine wpAny_pure ⟨_, rfl, ?_⟩
  show Q (.ref h₅.objs.size) _
  rw [hsz]
  exact hQ h₈ hz₈ (up _ _ D.TOz hTO₅) (h1₅.at fun o e => up _ o D.i1z e) (h2₅.at fun o e => up _ o D.i2z e) hT₈ hz8 fun c o c1 c2 c3 c4 e => up c o c1 (hk₅ c o c1 c2 c3 c4 e)
end
end PZ

set_option Elab.async false
set_option linter.all false
set_option maxRecDepth 100000
set_option maxHeartbeats 1000000
/-! PZb: the end of such a zip; its making. -/
namespace PZ
open PySem
open PySem.Sem (wp)
section
variable {prog : Program} {w : World} {A : Around} {E : Value → Shared → Prop} {s : Shared}
theorem zipK_next_end {st ka kb : Bool} {z TI TO i1 i2 l1 l2 : Addr} {k1 k2 : Nat} {xs ys : Array Value} {a b : Value} {Q : Fin → Shared → Prop} (hh : A.handled = none) (D : ZipApart z TI TO i1 i2 l1 l2)
    (hz : IsZipS st s.heap z TI TO .none) (hTI : IsPair s.heap TI (.ref i1) (.ref i2)) (hTO : IsPair s.heap TO a b)
    (h1 : ItK ka s.heap i1 l1 k1) (h2 : ItK kb s.heap i2 l2 k2) (hl1 : SqK ka s.heap l1 xs) (hl2 : SqK kb s.heap l2 ys) (hend : if st then xs[k1]? = none ∧ ys[k2]? = none else xs[k1]? = none ∨ ys[k2]? = none)
    (hE : ∀ h' e, (∀ c o, c ≠ z → c ≠ TO → c ≠ i1 → c ≠ i2 → s.heap.get? c = some o → h'.get? c = some o) → (∃ o, h'.get? e = some o ∧ o.cls = .type "StopIteration") → E (.ref e) { s with heap := h' }) :
    wpAny (model prog w) A (Builtin.«zip.__next__» ⟨[.ref z], []⟩) Q E s := by
  show wpAny _ _ (field (.ref z) 2 >>= _) _ _ _
  refine wpAny_bind (wpAny_field hz rfl (x := .bool st) rfl ?_)
  show wpAny _ _ (field (.ref z) 3 >>= _) _ _ _
  refine wpAny_bind (wpAny_field hz rfl (x := .ref TI) rfl ?_)
  refine wpAny_bind (wpAny_seqItems hTI rfl ?_)
  show wpAny _ _ (Builtin.SmallTypes.ownedTupleIsFree (.ref z) >>= _) _ _ _
  refine wpAny_bind ?_
  unfold Builtin.SmallTypes.ownedTupleIsFree
  refine wpAny_bind (wpAny_field hz rfl (x := .none) rfl (wpAny_pure ?_))
  simp only [if_true]
  refine wpAny_bind (wpAny_rule ?_)
  refine wpAny_bind (wpAny_field hz rfl (x := .ref TO) rfl ?_)
  refine wpAny_bind (wpAny_setField_rec hz (by simp) fun h₁ hz₁ hs₁ => ?_)
  replace hz₁ : IsZipS st h₁ z TI TO .ellipsis := hz₁
  refine wpAny_bind ?_
  simp only [List.zipIdx_cons, List.zipIdx_nil, List.forIn_cons, List.forIn_nil]
  refine wpAny_bind (wpAny_bind (wpAny_onRaise ?_))
  cases st with
  | true =>
    simp only [if_true] at hend
    show wpAny _ _ (Builtin.SmallTypes.nextOrEnd (.ref i1)) _ _ _
    refine orEnd_end hh (h1.extBut hs₁.extBut D.i1z) (hl1.extBut hs₁.extBut D.l1z) hend.1 fun h₂ hs₂ => ?_
    have hz₂ : IsZipS true h₂ z TI TO .ellipsis := hs₂ _ _ D.i1z.symm hz₁
    refine wpAny_bind (wpAny_setField_rec hz₂ (by simp) fun h₃ hz₃ hs₃ => ?_)
    refine wpAny_bind ?_
    refine wpAny_bind ?_
    refine wpAny_bind ?_
    show wpAny _ _ (Builtin.SmallTypes.nextOrEnd (.ref i2) >>= _) _ _ _
    refine wpAny_bind ?_
    have e2 : Heap.ExtBut i2 h₁ h₁ := fun c o _ e => e
    have h2₃ : ItK kb h₃ i2 l2 k2 := ((h2.extBut hs₁.extBut D.i2z).extBut hs₂ D.i12.symm).extBut hs₃.extBut D.i2z
    have l2₃ : SqK kb h₃ l2 ys := ((hl2.extBut hs₁.extBut D.l2z).extBut hs₂ D.l2i1).extBut hs₃.extBut D.l2z
    refine orEnd_end hh h2₃ l2₃ hend.2 fun h₄ hs₄ => ?_
    refine wpAny_pure ?_
    refine wpAny_pure ?_
    refine wpAny_bind (wpAny_rule ?_)
    refine stop_any hh fun h₅ e hs₅ he => ?_
    exact hE h₅ e (fun c o c1 _ c3 c4 x => hs₅ _ _ (hs₄ _ _ c4 (hs₃.extBut _ _ c1 (hs₂ _ _ c3 (hs₁.extBut _ _ c1 x))))) he
  | false =>
    simp only [Bool.false_eq_true, if_false] at hend
    show wpAny _ _ (Builtin.SmallTypes.nextOf (.ref i1) >>= _) _ _ _
    cases hx : xs[k1]? with
    | none =>
      refine wpAny_bind (nextK_end hh (h1.extBut hs₁.extBut D.i1z) (hl1.extBut hs₁.extBut D.l1z) hx fun h₂ e hs₂ he => ?_)
      obtain ⟨oe, hoe, hce⟩ := he
      have hz₂ : IsZipS false h₂ z TI TO .ellipsis := hs₂ _ _ D.i1z.symm hz₁
      have hez : e ≠ z := fun x => by subst x; rw [hz₂] at hoe; cases hoe; simp at hce
      refine wpAny_setField_rec hz₂ (by simp) fun h₃ _ hs₃ => hE h₃ e (fun c o c1 _ c3 _ x => hs₃.extBut _ _ c1 (hs₂ _ _ c3 (hs₁.extBut _ _ c1 x))) ⟨oe, hs₃.extBut _ _ hez hoe, hce⟩
    | some x =>
      have hy : ys[k2]? = none := by rcases hend with h | h; rw [hx] at h; cases h; exact h
      refine wpAny_bind (nextK_item (h1.extBut hs₁.extBut D.i1z) (hl1.extBut hs₁.extBut D.l1z) hx fun h₂ h1₂ hs₂ => wpAny_pure ?_)
      have hTO₂ : IsPair h₂ TO a b := hs₂.extBut _ _ D.TOi1 (hs₁.extBut _ _ D.TOz hTO)
      refine wpAny_bind (wpAny_seqItems hTO₂ rfl ?_)
      refine wpAny_bind (wpAny_updateSeq_pair hTO₂ fun h₃ hTO₃ hs₃ => ?_)
      refine wpAny_bind (wpAny_letGo (wpAny_pure ?_))
      refine wpAny_bind (wpAny_bind (wpAny_onRaise ?_))
      show wpAny _ _ (Builtin.SmallTypes.nextOf (.ref i2) >>= _) _ _ _
      refine wpAny_bind (nextK_end hh (((h2.extBut hs₁.extBut D.i2z).extBut hs₂.extBut D.i12.symm).extBut hs₃.extBut D.TOi2.symm)
        (((hl2.extBut hs₁.extBut D.l2z).extBut hs₂.extBut D.l2i1).extBut hs₃.extBut D.l2TO) hy fun h₄ e hs₄ he => ?_)
      obtain ⟨oe, hoe, hce⟩ := he
      have hz₄ : IsZipS false h₄ z TI TO .ellipsis := hs₄ _ _ D.i2z.symm (hs₃.extBut _ _ D.TOz.symm (hs₂.extBut _ _ D.i1z.symm hz₁))
      have hez : e ≠ z := fun x => by subst x; rw [hz₄] at hoe; cases hoe; simp at hce
      refine wpAny_setField_rec hz₄ (by simp) fun h₅ _ hs₅ => hE h₅ e (fun c o c1 c2 c3 c4 x => hs₅.extBut _ _ c1 (hs₄ _ _ c4 (hs₃.extBut _ _ c2 (hs₂.extBut _ _ c3 (hs₁.extBut _ _ c1 x))))) ⟨oe, hs₅.extBut _ _ hez hoe, hce⟩
theorem pyNext_zipK_item {st ka kb : Bool} {z TI TO i1 i2 l1 l2 : Addr} {k1 k2 : Nat} {xs ys : Array Value} {x y a b : Value} {Q : Option Value → Shared → Prop} (D : ZipApart z TI TO i1 i2 l1 l2)
    (hz : IsZipS st s.heap z TI TO .none) (hTI : IsPair s.heap TI (.ref i1) (.ref i2)) (hTO : IsPair s.heap TO a b)
    (h1 : ItK ka s.heap i1 l1 k1) (h2 : ItK kb s.heap i2 l2 k2) (hl1 : SqK ka s.heap l1 xs) (hl2 : SqK kb s.heap l2 ys) (hx : xs[k1]? = some x) (hy : ys[k2]? = some y)
    (hQ : ∀ h', IsZipS st h' z TI TO (rawInt s.heap.objs.size) → IsPair h' TO x y → ItK ka h' i1 l1 (k1 + 1) → ItK kb h' i2 l2 (k2 + 1) → IsPair h' s.heap.objs.size x y → h'.objs.size = s.heap.objs.size + 1 →
      (∀ c o, c ≠ z → c ≠ TO → c ≠ i1 → c ≠ i2 → s.heap.get? c = some o → h'.get? c = some o) → Q (some (.ref s.heap.objs.size)) { s with heap := h' }) :
    wpAny (model prog w) A (pyNext (.ref z)) Q E s := by
  have hT : s.TypeIs (.ref z) "zip" := ⟨_, hz, rfl⟩
  unfold pyNext
  exact wpAny_bind (wpAny_attempt (wpAny_callSpecial?_slot (name := Str.ofString "__next__") hT F.slot_zip_next
    (wpAny_call_entry F.slot_zip_next hT F.entry_zip_next
      (zipK_next_item D hz hTI hTO h1 h2 hl1 hl2 hx hy fun h' a1 a2 a3 a4 a5 a6 a7 => wpAny_pure (hQ h' a1 a2 a3 a4 a5 a6 a7)) (F.args_zip_next_1 _))))
theorem pyNext_zipK_end {st ka kb : Bool} {z TI TO i1 i2 l1 l2 : Addr} {k1 k2 : Nat} {xs ys : Array Value} {a b : Value} {Q : Option Value → Shared → Prop} (hh : A.handled = none) (D : ZipApart z TI TO i1 i2 l1 l2)
    (hz : IsZipS st s.heap z TI TO .none) (hTI : IsPair s.heap TI (.ref i1) (.ref i2)) (hTO : IsPair s.heap TO a b)
    (h1 : ItK ka s.heap i1 l1 k1) (h2 : ItK kb s.heap i2 l2 k2) (hl1 : SqK ka s.heap l1 xs) (hl2 : SqK kb s.heap l2 ys) (hend : if st then xs[k1]? = none ∧ ys[k2]? = none else xs[k1]? = none ∨ ys[k2]? = none)
    (hQ : ∀ h', (∀ c o, c ≠ z → c ≠ TO → c ≠ i1 → c ≠ i2 → s.heap.get? c = some o → h'.get? c = some o) → Q none { s with heap := h' }) : wpAny (model prog w) A (pyNext (.ref z)) Q E s := by
  have hT : s.TypeIs (.ref z) "zip" := ⟨_, hz, rfl⟩
  unfold pyNext
  refine wpAny_bind (wpAny_attempt (wpAny_callSpecial?_slot (name := Str.ofString "__next__") hT F.slot_zip_next
    (wpAny_call_entry F.slot_zip_next hT F.entry_zip_next (zipK_next_end hh D hz hTI hTO h1 h2 hl1 hl2 hend fun h' e hk he => ?_) (F.args_zip_next_1 _))))
  obtain ⟨o, ho, hc⟩ := he
  refine wpAny_bind (wpAny_isInstance (T := "StopIteration") (b := true) ⟨o, ho, hc⟩ isSubtype_stop ?_)
  exact wpAny_pure (hQ _ hk)
theorem letGoK {st : Bool} {elts : List Expr} {x1} {pos : Pos} {z TI TO T : Addr} {Q : Unit → Shared → Prop} (hz : IsZipS st s.heap z TI TO (rawInt T))
    (hQ : ∀ h', IsZipS st h' z TI TO .none → Heap.SameBut z s.heap h' → Q () { s with heap := h' }) :
    wpAny (model prog w) A (letOwnedTupleGo (.Tuple elts x1 pos) (.ref z) (.ref T)) Q E s := by
  unfold letOwnedTupleGo
  refine wpAny_bind (wpAny_load hz ?_)
  show wpAny _ _ (if (["enumerate", "zip", "dict_itemiterator", "dict_reverseitemiterator", "odict_iterator", "itertools.zip_longest", "itertools.pairwise"].contains "zip" &&
      (#[rawInt T, .bool false, .bool st, .ref TI, .ref TO] : Array Value)[0]? == some (rawInt T)) = true then _ else _) Q E s
  rw [if_pos (by simp)]
  refine wpAny_bind (wpAny_rule ?_)
  show wpAny _ _ (setField (.ref z) 0 .none) Q E s
  exact wpAny_setField_rec hz (by simp) fun h' hz' hs' => hQ h' hz' hs'
theorem pyIter_zipK {st : Bool} {z TI TO : Addr} {f0 : Value} {Q : Value → Shared → Prop} (hz : IsZipS st s.heap z TI TO f0) (h : Q (.ref z) s) : wpAny (model prog w) A (pyIter (.ref z)) Q E s := by
  have hT : s.TypeIs (.ref z) "zip" := ⟨_, hz, rfl⟩
  refine wpAny_pyIter_slot hT F.slot_zip_iter (wpAny_call_entry F.slot_zip_iter hT F.entry_zip_iter ?_ (F.args_zip_iter_1 _))
  show wpAny _ _ (ret (.ref z)) _ _ s
  exact wpAny_pure ⟨_, rfl, "zip", _, hT, F.slot_zip_next.lookup, h⟩
end
abbrev zH1 (ka : Bool) (h : Heap) (l1 : Addr) : Heap := h.push (itO ka l1)
abbrev zH2 (ka kb : Bool) (h : Heap) (l1 l2 : Addr) : Heap := (zH1 ka h l1).push (itO kb l2)
abbrev zH3 (ka kb : Bool) (h : Heap) (l1 l2 : Addr) : Heap := (zH2 ka kb h l1 l2).push { cls := .type "tuple", data := .seq #[.ref h.objs.size, .ref (zH1 ka h l1).objs.size] }
abbrev zH4 (ka kb : Bool) (h : Heap) (l1 l2 : Addr) : Heap := (zH3 ka kb h l1 l2).push { cls := .type "tuple", data := .seq #[.none, .none] }
abbrev zH5 (st ka kb : Bool) (h : Heap) (l1 l2 : Addr) : Heap := (zH4 ka kb h l1 l2).push { cls := .type "zip", data := .fields #[.none, .bool false, .bool st, .ref (zH2 ka kb h l1 l2).objs.size, .ref (zH3 ka kb h l1 l2).objs.size] }
abbrev kwS (st : Bool) : List (Str × Value) := match st with
  | true => [("strict", .bool true)]
  | false => []
theorem meets_zipK_new (st ka kb : Bool) (l1 l2 : Addr) (xs ys : Array Value) :
    Meets (Builtin.«zip.__new__» ⟨[.type "zip", .ref l1, .ref l2], kwS st⟩) (fun _ R s => SqK ka s.heap l1 xs ∧ SqK kb s.heap l2 ys ∧
      R (.ok (.ret (.ref (zH4 ka kb s.heap l1 l2).objs.size))) { s with heap := zH5 st ka kb s.heap l1 l2 }) :=
  .of_wp fun prog w A R s h => by
    obtain ⟨hp, g, d, tk, os⟩ := s; obtain ⟨hl1, hl2, h⟩ := h
    have hsub := sub_zip
    have hL1 : SqK ka (Shared.heap ⟨hp, g, d, tk, os⟩) l1 xs := hl1
    have hL2 : SqK kb (Shared.heap ⟨hp.push (itO ka l1), g, d, tk, os⟩) l2 ys := hl2.push _
    cases st
    · wp_walk using pyIterK hL1, pyIterK hL2
      exact ⟨_, rfl, h⟩
    · wp_walk using pyIterK hL1, pyIterK hL2
      exact ⟨_, rfl, h⟩
end PZ

set_option Elab.async false
set_option linter.all false
set_option maxRecDepth 100000
set_option maxHeartbeats 1000000
/-! PZc: zip(a, b) and zip(a, b, strict=True) called; what a walk over it gives. -/
namespace PZ
open PySem
open PySem.Sem (wp)
section
variable {prog : Program} {w : World} {A : Around} {E : Value → Shared → Prop} {s : Shared}
theorem object_init_kw {T newId : String} {self : Value} {rest : List Value} {kw : List (Str × Value)} (hl : typeLookup (.type T) "__init__" = pure (some (.builtin "object.__init__")))
    (hm : Bind.madeBy (.type T) = pure (some newId)) (hne : (some newId != some "object.__new__") = true) (hrest : rest ≠ []) :
    Meets (Builtin.«object.__init__» ⟨self :: rest, kw⟩) (fun _ R s => s.TypeIs self T ∧ R (.ok (.ret .none)) s) := by
  refine Meets.of_wp fun prog w A R s hs => ?_
  obtain ⟨hT, hq⟩ := hs
  cases rest with
  | nil => exact absurd rfl hrest
  | cons a rest =>
    repeat (any_goals (first | assumption | wp_step))
    exact ⟨_, rfl, hq⟩
theorem callType_kw {T newId : String} {Bn : Builtin} {args : List Value} {kw : List (Str × Value)} {S : Spec} {Q : Value → Shared → Prop} (ft : TypeCalled T newId "object.__init__")
    (hne : (some newId != some "object.__new__") = true) (hrest : args ≠ []) (hct : checkTypeCall T ⟨args, kw⟩ = pure ()) (hcn : checkBuiltinCall newId ⟨.type T :: args, kw⟩ = pure ())
    (hok : ∀ obj, argsOk "object.__init__" ⟨obj :: args, kw⟩) (entryN : entryFor table newId = some Bn) (g : Meets (Bn ⟨.type T :: args, kw⟩) S)
    (h : S A.in1 (wants (fun obj s₁ => s₁.TypeIs obj T ∧ Q obj s₁) E) s) : wpAny (model prog w) A (call (.type T) args kw) Q E s := by
  obtain ⟨c, tl, hmro⟩ := ft.mro
  have hmade := ft.made
  have hsub := ft.sub
  refine wpAny_call (codeAny_of_tree ?_)
  show wpAny _ _ (callAny (.type T) _) _ _ _
  refine wpAny_pure ⟨Code.quiet_builtin _ (by decide +kernel), codeAny_builtin F.entry_type_call ?_⟩
  rw [Around.under_plain (weight_type_call_type T args kw) (units_type_call_type T args kw)]
  have h1 := ft.notType
  have h2 := ft.canCreate
  repeat (any_goals (first | assumption | wp_step))
  refine codeAny_mono (codeAny_call_builtin ft.plain entryN (wpAny_of_eq hcn (g prog w A.in1 _ s h))) fun r s₁ hr => ?_
  cases r with
  | error e => exact hr
  | ok fl =>
    cases fl with
    | ret obj =>
      obtain ⟨hT, hq⟩ := hr
      have hli := ft.init.lookup
      have hbi := ft.init.bind obj
      repeat (any_goals (first | assumption | wp_step))
      refine codeAny_mono (codeAny_call_builtin ft.init.plain F.entry_object_init (ft.init.check _ _ _ _ _ _ _ _ hT (hok obj) (object_init_kw ft.init.lookup ft.made hne hrest prog w A.in1 (wants (fun r s₂ => r = .none ∧ Q obj s₂) E) s₁ ⟨hT, rfl, hq⟩))) fun r₂ s₂ hr₂ => ?_
      cases r₂ with
      | error e => exact hr₂
      | ok fl₂ =>
        cases fl₂ with
        | ret r =>
          obtain ⟨rfl, hq⟩ := hr₂
          repeat (any_goals (first | assumption | wp_step))
        | _ => exact hr₂.elim
    | _ => exact hr.elim
theorem args_init_kw (st : Bool) (a b c : Value) : argsOk "object.__init__" ⟨[a, b, c], kwS st⟩ := by
  cases st <;> (unfold argsOk; rw [signature?_of (id := "object.__init__") (n := ['_', '_', 't', 'i', 'n', 'i', '_', '_']) (o := ['t', 'c', 'e', 'j', 'b', 'o']) (by kernel_rfl) F.owner_object]; kernel_rfl)
theorem typeCall_zip (st : Bool) (a b : Value) : checkTypeCall "zip" ⟨[a, b], kwS st⟩ = pure () := by cases st <;> kernel_rfl
theorem newCall_zip (st : Bool) (a b : Value) : checkBuiltinCall "zip.__new__" ⟨[.type "zip", a, b], kwS st⟩ = pure () := by cases st <;> kernel_rfl
theorem call_zipK {st ka kb : Bool} {l1 l2 : Addr} {xs ys : Array Value} {Q : Value → Shared → Prop} (hl1 : SqK ka s.heap l1 xs) (hl2 : SqK kb s.heap l2 ys)
    (h : ∀ h', IsZipS st h' (s.heap.objs.size + 4) (s.heap.objs.size + 2) (s.heap.objs.size + 3) .none → IsPair h' (s.heap.objs.size + 2) (.ref s.heap.objs.size) (.ref (s.heap.objs.size + 1)) →
      IsPair h' (s.heap.objs.size + 3) .none .none → ItK ka h' s.heap.objs.size l1 0 → ItK kb h' (s.heap.objs.size + 1) l2 0 → h'.objs.size = s.heap.objs.size + 5 →
      (∀ c o, s.heap.get? c = some o → h'.get? c = some o) → Q (.ref (s.heap.objs.size + 4)) { s with heap := h' }) :
    wpAny (model prog w) A (call (.type "zip") [.ref l1, .ref l2] (kwS st)) Q E s := by
  refine callType_kw F.called_zip (by decide) (by simp) (typeCall_zip st _ _) (newCall_zip st _ _) (fun obj => args_init_kw st obj _ _) F.entry_zip_new
    (meets_zipK_new st ka kb l1 l2 xs ys) ⟨hl1, hl2, ?_⟩
  have z1 : (zH1 ka s.heap l1).objs.size = s.heap.objs.size + 1 := Heap.size_push ..
  have z2 : (zH2 ka kb s.heap l1 l2).objs.size = s.heap.objs.size + 2 := by rw [Heap.size_push, z1]
  have z3 : (zH3 ka kb s.heap l1 l2).objs.size = s.heap.objs.size + 3 := by rw [Heap.size_push, z2]
  have z4 : (zH4 ka kb s.heap l1 l2).objs.size = s.heap.objs.size + 4 := by rw [Heap.size_push, z3]
  have z5 : (zH5 st ka kb s.heap l1 l2).objs.size = s.heap.objs.size + 5 := by rw [Heap.size_push, z4]
  have fr : ∀ (k : Bool) (l : Addr), (itO k l).isFreed = false := fun k l => by cases k <;> rfl
  have g5 : (zH5 st ka kb s.heap l1 l2).get? (zH4 ka kb s.heap l1 l2).objs.size = some _ := Heap.get?_push_size _ rfl
  have g4 : (zH5 st ka kb s.heap l1 l2).get? (zH3 ka kb s.heap l1 l2).objs.size = some _ := Heap.get?_push_of_some _ (Heap.get?_push_size _ rfl)
  have g3 : (zH5 st ka kb s.heap l1 l2).get? (zH2 ka kb s.heap l1 l2).objs.size = some _ := Heap.get?_push_of_some _ (Heap.get?_push_of_some _ (Heap.get?_push_size _ rfl))
  have g2 : (zH5 st ka kb s.heap l1 l2).get? (zH1 ka s.heap l1).objs.size = some _ := Heap.get?_push_of_some _ (Heap.get?_push_of_some _ (Heap.get?_push_of_some _ (Heap.get?_push_size _ (fr kb l2))))
  have g1 : (zH5 st ka kb s.heap l1 l2).get? s.heap.objs.size = some _ := Heap.get?_push_of_some _ (Heap.get?_push_of_some _ (Heap.get?_push_of_some _ (Heap.get?_push_of_some _ (Heap.get?_push_size _ (fr ka l1)))))
  show _ ∧ _
  rw [z2, z3, z4] at g5
  rw [z1, z2] at g3
  rw [z3] at g4
  rw [z1] at g2
  rw [z4]
  exact ⟨⟨_, g5, rfl⟩, h _ g5 g3 g4 (ItK.new g1) (ItK.new g2) z5 fun c o x =>
    Heap.get?_push_of_some _ (Heap.get?_push_of_some _ (Heap.get?_push_of_some _ (Heap.get?_push_of_some _ (Heap.get?_push_of_some _ x))))⟩
end
section
variable {M : Model} {A : Around} {E : Value → Shared → Prop} {s : Shared} {env : Env}
theorem callWith_typeKw {pos : Pos} {T : String} {e : Expr} {rest : List Expr} {kws : List Keyword} {Q : Value → Shared → Prop}
    (h : wpAny M A (spliced (backTo pos (starEach (e :: rest) env))) (fun vs s₁ => wpAny M A (evalAll ((backToKw pos (keywordEach kws env)).map (·.2)))
      (fun kvs s₂ => wpAny M A (call (.type T) vs (((backToKw pos (keywordEach kws env)).filterMap (·.1)).zip kvs)) Q E s₂) E s₁) E s)
    (he : backTo pos (starEach (e :: rest) env) = (false, eval e env) :: backTo pos (starEach rest env) := by rfl)
    (hplain : (backTo pos (starEach (e :: rest) env)).any (·.1) = false := by rfl)
    (hall : (backToKw pos (keywordEach kws env)).all (·.1.isSome) = true := by rfl)
    (hkw : (backToKw pos (keywordEach kws env)).any (·.1.isNone) = false := by rfl) :
    wpAny M A (callWith pos (.type T) [] (backTo pos (starEach (e :: rest) env)) (backToKw pos (keywordEach kws env))) Q E s := by
  have key : wpAny M A (evalArgs (.type T) true (backTo pos (starEach (e :: rest) env)) (backToKw pos (keywordEach kws env))) (fun a s₁ => wpAny M A (call (.type T) ([] ++ a.pos) a.kw) Q E s₁) E s := by
    rw [he] at h ⊢
    exact PyProof.Rows.evalArgs_kwB hall h
  unfold callWith
  refine wpAny_bind (wpAny_holding (wpAny_mono key (fun a s₁ h₁ => wpAny_bind (wpAny_standAt ?_)) fun _ _ x => x))
  simp only [hplain, hkw, Bool.or_false]
  refine wpAny_bind (wpAny_pure ?_)
  exact wpAny_bind (wpAny_mono h₁ (fun r s₂ hr => wpAny_bind (wpAny_holding (wpAny_point (wpAny_pure hr)))) fun _ _ x => x)
end
end PZ

set_option Elab.async false
set_option linter.all false
set_option maxRecDepth 100000
set_option maxHeartbeats 4000000
/-! PZd: zip as what is walked; tuple * 1. -/
namespace PZ
open PySem PySem.Spec PyProof.Rows L2
def SqV (k : Bool) (K : PySem.W.Frag) (H : Hp) (a : Addr) (xs : List V) : Prop := match k with
  | false => SqL K H a xs
  | true => SqT K H a xs
theorem seqK {X : Cx} {pins : List (Addr × Obj)} {σ : L2.St} {H : Hp} {s : Shared} {k : Bool} {a : Addr} {xs : List V} (I : Inv X pins σ H s) (h : SqV k X.K H a xs) : ∃ its : List Value, Vals xs its ∧ SqK k s.heap a its.toArray := by
  cases k
  · obtain ⟨its, rv, p, _⟩ := I.list (show SqL X.K H a xs from h)
    exact ⟨its, rv, p.isList⟩
  · obtain ⟨its, rv, p, _⟩ := I.tuple (show SqT X.K H a xs from h)
    exact ⟨its, rv, p⟩
theorem seqK_inj {X : Cx} {pins : List (Addr × Obj)} {σ : L2.St} {H : Hp} {s : Shared} {k : Bool} {a : Addr} {xs ys : List V} (I : Inv X pins σ H s) (h : SqV k X.K H a xs) (h' : SqV k X.K H a ys) : xs = ys := by
  cases k
  · exact I.list_inj h h'
  · exact I.tuple_inj h h'
/-- the rows at a and b as they stand at each turn, the items in new pairs -/
def ItzK (st ka kb : Bool) (K : PySem.W.Frag) (a b : Addr) : It :=
  ⟨fun i H => ∃ (xs ys : List V) (x y : V), SqV ka K H a xs ∧ SqV kb K H b ys ∧ xs[i]? = some x ∧ ys[i]? = some y,
    fun i H v H' => ∃ T x y, v = .ref T ∧ H T = none ∧ H' = upd H T (.tup [x, y]) ∧ (∀ xs, SqV ka K H a xs → xs[i]? = some x) ∧ ∀ ys, SqV kb K H b ys → ys[i]? = some y,
    fun i H => ∃ xs ys : List V, SqV ka K H a xs ∧ SqV kb K H b ys ∧ if st then xs.length ≤ i ∧ ys.length ≤ i else xs.length ≤ i ∨ ys.length ≤ i⟩
theorem turn_zipK {st ka kb : Bool} {P : Program} {w : World} {K : PySem.W.Frag} {elts : List Expr} {kk : Nat} {tpos : Pos} {a b z TI TO i1 i2 : Addr} (D : ZipApart z TI TO i1 i2 a b) :
    Turn P w K (.Tuple elts kk tpos) (ItzK st ka kb K a b) [z, TI, TO, i1, i2] z (fun i h => IsZipS st h z TI TO .none ∧ IsPair h TI (.ref i1) (.ref i2) ∧ (∃ x y, IsPair h TO x y) ∧ ItK ka h i1 a i ∧ ItK kb h i2 b i) where
  mem := by simp
  obj := fun i h stt c hc => by
    obtain ⟨hz, hTI, ⟨x, y, hTO⟩, h1, h2⟩ := stt
    obtain ⟨o1, e1, f1, d1⟩ := h1.obj
    obtain ⟨o2, e2, f2, d2⟩ := h2.obj
    have e' : c = z ∨ c = TI ∨ c = TO ∨ c = i1 ∨ c = i2 := by simpa using hc
    rcases e' with q | q | q | q | q
    · rw [q]; exact ⟨_, hz, fun v q => nomatch q⟩
    · rw [q]; exact ⟨_, hTI, fun v q => nomatch q⟩
    · rw [q]; exact ⟨_, hTO, fun v q => nomatch q⟩
    · rw [q]; exact ⟨o1, e1, fun v q => by rw [d1] at q; cases q⟩
    · rw [q]; exact ⟨o2, e2, fun v q => by rw [d2] at q; cases q⟩
  keep := fun i h h' stt k => by
    obtain ⟨hz, hTI, ⟨x, y, hTO⟩, h1, h2⟩ := stt
    exact ⟨k z (by simp) _ hz, k TI (by simp) _ hTI, ⟨x, y, k TO (by simp) _ hTO⟩, h1.at fun o q => k i1 (by simp) o q, h2.at fun o q => k i2 (by simp) o q⟩
  item := by
    intro X hP hw hK hc i pins s σ H E I hf stt hg
    subst hP hw hK
    obtain ⟨hz, hTI, ⟨x0, y0, hTO⟩, h1, h2⟩ := stt
    obtain ⟨xs, ys, x, y, hqx, hqy, hx, hy⟩ := hg
    obtain ⟨its, rv, p⟩ := seqK I hqx
    obtain ⟨its2, rv2, p2⟩ := seqK I hqy
    obtain ⟨u, hu, ru⟩ := rv.get hx
    obtain ⟨u2, hu2, ru2⟩ := rv2.get hy
    have hzl : z < s.heap.objs.size := Heap.lt_size hz
    refine pyNext_zipK_item D hz hTI hTO h1 h2 p p2 (x := u) (y := u2) (by simpa using hu) (by simpa using hu2) fun h' z' TO' h1' h2' hT hsz hk => ?_
    refine ⟨_, rfl, letGoK (s := { s with heap := h' }) z' fun h'' z'' sb => ?_⟩
    have hT2 : h''.get? s.heap.objs.size = some { cls := .type "tuple", data := .seq #[u, u2] } := (sb.2 _ (Nat.ne_of_gt hzl)).trans hT
    have new : ObjOk X.prog X.w (upd H s.heap.objs.size (.tup [x, y])) h'' s.heap.objs.size (.tup [x, y]) :=
      ⟨by show 2 ≤ sizeLine; decide, [u, u2], .cons ru (.cons ru2 .nil), ⟨_, hT2, rfl, _, rfl⟩⟩
    have I1 : Inv X pins σ (upd H s.heap.objs.size (.tup [x, y])) { s with heap := h'' } :=
      I.turnedNew (t' := s.toks) (ch := [z, TI, TO, i1, i2]) (fun c o hb q => (sb.2 c (fun q' => hb (by simp [q']))).trans (hk c o (fun q' => hb (by simp [q'])) (fun q' => hb (by simp [q'])) (fun q' => hb (by simp [q'])) (fun q' => hb (by simp [q'])) q)) hf (Nat.le_refl _) new
    refine ⟨.ref s.heap.objs.size, _, I1, rfl, ⟨_, x, y, rfl, I.hok.fresh (Nat.le_refl _), rfl, fun l hl => by rw [seqK_inj I hl hqx]; exact hx, fun l hl => by rw [seqK_inj I hl hqy]; exact hy⟩, ⟨z'', ?_, ⟨u, u2, ?_⟩, ?_, ?_⟩, fun c hcm => ?_⟩
    · exact (sb.2 _ D.TIz).trans (hk _ _ D.TIz D.TITO D.TIi1 D.TIi2 hTI)
    · exact (sb.2 _ D.TOz).trans TO'
    · exact h1'.at fun o q => (sb.2 _ D.i1z).trans q
    · exact h2'.at fun o q => (sb.2 _ D.i2z).trans q
    · have hlt : c < s.heap.objs.size := by
        have e' : c = z ∨ c = TI ∨ c = TO ∨ c = i1 ∨ c = i2 := by simpa using hcm
        rcases e' with q | q | q | q | q
        · rw [q]; exact hzl
        · rw [q]; exact Heap.lt_size hTI
        · rw [q]; exact Heap.lt_size hTO
        · rw [q]; exact h1.lt
        · rw [q]; exact h2.lt
      rw [upd_ne (Nat.ne_of_lt hlt)]
      exact (hf c hcm).1
  done := by
    intro X hP hw hK hc i pins s σ H E I hf stt hg
    subst hP hw hK
    obtain ⟨hz, hTI, ⟨x0, y0, hTO⟩, h1, h2⟩ := stt
    obtain ⟨xs, ys, hqx, hqy, hend⟩ := hg
    obtain ⟨its, rv, p⟩ := seqK I hqx
    obtain ⟨its2, rv2, p2⟩ := seqK I hqy
    have l1 := rv.length
    have l2 := rv2.length
    have he : if st then its.toArray[i]? = none ∧ its2.toArray[i]? = none else its.toArray[i]? = none ∨ its2.toArray[i]? = none := by
      cases st
      · simp only [Bool.false_eq_true, if_false] at hend ⊢
        rcases hend with q | q
        · exact .inl (by simp; omega)
        · exact .inr (by simp; omega)
      · simp only [if_true] at hend ⊢
        exact ⟨by simp; omega, by simp; omega⟩
    exact pyNext_zipK_end (I.ok.hd hc) D hz hTI hTO h1 h2 p p2 he fun h' hk => ⟨rfl, I.turnedL (t' := s.toks) (ch := [z, TI, TO, i1, i2]) (fun c o hb q =>
      hk c o (fun q' => hb (by simp [q'])) (fun q' => hb (by simp [q'])) (fun q' => hb (by simp [q'])) (fun q' => hb (by simp [q'])) q) hf⟩
  self := fun A i s Q E st h => pyIter_zipK st.1 h
def iZipK (st : Bool) (K : PySem.W.Frag) (ta : TA) : TI := fun σ H R => ta σ H fun vs H1 => ∃ (ka kb : Bool) (a b : Addr) (xs ys : List V), vs = [.ref a, .ref b] ∧ SqV ka K H1 a xs ∧ SqV kb K H1 b ys ∧ R (ItzK st ka kb K a b) H1
theorem zip_fin {st : Bool} {X : Cx} {pins : List (Addr × Obj)} {σ : L2.St} {H1 : Hp} {s1 : Shared} {R : It → Hp → Prop} {us : List Value} {vs : List V} {elts : List Expr} {kk : Nat} {tpos : Pos} {Q : Value → Shared → Prop} {E : Value → Shared → Prop}
    (I1 : Inv X pins σ H1 s1) (r1 : Vals vs us) (q1 : ∃ (ka kb : Bool) (a b : Addr) (xs ys : List V), vs = [.ref a, .ref b] ∧ SqV ka X.K H1 a xs ∧ SqV kb X.K H1 b ys ∧ R (ItzK st ka kb X.K a b) H1)
    (k : ∀ (z TI TO i1 i2 a b : Addr) (ka kb : Bool) (h' : Heap), ZipApart z TI TO i1 i2 a b → IsZipS st h' z TI TO .none → Inv X pins σ H1 { s1 with heap := h' } → (∀ c, c ∈ [z, TI, TO, i1, i2] → FpOk X pins H1 c) →
      (IsZipS st h' z TI TO .none ∧ IsPair h' TI (.ref i1) (.ref i2) ∧ (∃ x y, IsPair h' TO x y) ∧ ItK ka h' i1 a 0 ∧ ItK kb h' i2 b 0) → R (ItzK st ka kb X.K a b) H1 → Q (.ref z) { s1 with heap := h' }) :
    wpAny (model X.prog X.w) X.A (call (.type "zip") us (kwS st)) Q E s1 := by
  obtain ⟨ka, kb, a, b, xs, ys, ex, hqx, hqy, q⟩ := q1
  subst ex
  cases r1 with
  | cons r rr =>
    cases rr with
    | cons r' rr =>
      cases rr
      cases r
      cases r'
      have fresh5 : ∀ c, c ∈ [s1.heap.objs.size + 4, s1.heap.objs.size + 2, s1.heap.objs.size + 3, s1.heap.objs.size, s1.heap.objs.size + 1] → FpOk X pins H1 c := fun c hcm => by
        have e' : c = s1.heap.objs.size + 4 ∨ c = s1.heap.objs.size + 2 ∨ c = s1.heap.objs.size + 3 ∨ c = s1.heap.objs.size ∨ c = s1.heap.objs.size + 1 := by simpa using hcm
        have hle : s1.heap.objs.size ≤ c := by
          rcases e' with z | z | z | z | z
          · rw [z]; exact Nat.le_add_right _ _
          · rw [z]; exact Nat.le_add_right _ _
          · rw [z]; exact Nat.le_add_right _ _
          · rw [z]; exact Nat.le_refl _
          · rw [z]; exact Nat.le_add_right _ _
        exact I1.fpOk hle (I1.hok.fresh hle)
      obtain ⟨its, rv, p1⟩ := seqK I1 hqx
      obtain ⟨its2, rv2, p2⟩ := seqK I1 hqy
      refine call_zipK p1 p2 fun h' hz hTI hTO h1 h2 hsz hk => ?_
      have I2 : Inv X pins σ H1 { s1 with heap := h' } := I1.kept (t' := s1.toks) hk
      exact k _ _ _ _ _ a b ka kb h' (PySem.W.ktu_apart s1.heap.objs.size a b p1.lt p2.lt) hz I2 fresh5 ⟨hz, hTI, ⟨_, _, hTO⟩, h1, h2⟩ q
theorem pi_zipK {X : Cx} {e e2 : Expr} {ta : TA} {p pos tpos : Pos} {elts : List Expr} {kk : Nat} (hg : Gl X "zip") (hm : X.mg "zip" = none) (ha : PA X [e, e2] ta)
    (hs : starEach [e, e2] X.env = (false, eval e X.env) :: starEach [e2] X.env := by rfl) (hpl : (backTo pos (starEach [e2] X.env)).any (·.1) = false := by rfl) :
    PI X (.Tuple elts kk tpos) (.Call (.Name "zip" p) [e, e2] [] pos) (iZipK false X.K ta) := by
  refine ⟨fun pins s σ H R I h => ?_⟩
  refine Call_ (ld_blt I hg hm PyProof.Rows.boot_zip (PyProof.Rows.callWith_type1 (thn (ha.run pos pins s σ H _ I h) fun us s1 ⟨vs, H1, I1, r1, q1⟩ => ?_) hs hpl))
  exact zip_fin (st := false) (elts := elts) (kk := kk) (tpos := tpos) I1 r1 q1 fun z TI TO i1 i2 a b ka kb h' D hz I2 f5 st0 q => pyIter_zipK hz
    ⟨z, [z, TI, TO, i1, i2], _, _, H1, rfl, I2, turn_zipK D, st0, f5, q⟩
theorem pi_zipS {X : Cx} {e e2 : Expr} {ta : TA} {p pos tpos kp cp : Pos} {elts : List Expr} {kk ck : Nat} (hg : Gl X "zip") (hm : X.mg "zip" = none) (ha : PA X [e, e2] ta)
    (hs : starEach [e, e2] X.env = (false, eval e X.env) :: starEach [e2] X.env := by rfl) (hpl : (backTo pos (starEach [e, e2] X.env)).any (·.1) = false := by rfl) :
    PI X (.Tuple elts kk tpos) (.Call (.Name "zip" p) [e, e2] [⟨some "strict", .Constant (.bool true) ck cp, kp⟩] pos) (iZipK true X.K ta) := by
  refine ⟨fun pins s σ H R I h => ?_⟩
  refine wpAny_Call_Name_kw (ld_blt I hg hm PyProof.Rows.boot_zip ?_)
  refine callWith_typeKw ?_ (by rw [hs]; rfl) hpl rfl rfl
  refine thn (ha.run pos pins s σ H _ I h) fun us s1 ⟨vs, H1, I1, r1, q1⟩ => ?_
  refine kws_cons ?_
  refine Constant_bool ?_
  refine kws_nil ?_
  exact zip_fin (st := true) (elts := elts) (kk := kk) (tpos := tpos) I1 r1 q1 fun z TI TO i1 i2 a b ka kb h' D hz I2 f5 st0 q => pyIter_zipK hz
    ⟨z, [z, TI, TO, i1, i2], _, _, H1, rfl, I2, turn_zipK D, st0, f5, q⟩
theorem tuple_mul1 (l : Addr) (items : Array Value) (n : Nat) (dd : Option Addr) (sl : Array (Option Value)) (u : Tok) :
    Meets (Builtin.«tuple.__mul__» ⟨[.ref l, .int 1 u], []⟩) (fun _ R s => s.heap.get? l = some { cls := .type "tuple", dict := dd, data := .seq items n, slots := sl } ∧
      R (.ok (.ret (Value.ref l))) s) :=
  .of_wp fun prog w A R s h => by
    obtain ⟨hp, g, d, tk, os⟩ := s
    obtain ⟨hl, h⟩ := h
    have f1 := AutoSeq1.idx_int
    have c1 : (items.isEmpty || (1 : Int) == 1) = true := by simp
    wp_walk using wpAny_loadPart' hl
    exact ⟨_, rfl, h⟩
def rRep1 (K : PySem.W.Frag) : R2 := fun x y H Q => ∃ l xs, x = .ref l ∧ y = .int 1 ∧ SqT K H l xs ∧ Q (.ref l) H
theorem op_rep1 {X : Cx} : OpR X (binaryOp .Mult) (rRep1 X.K) := by
  intro pins s σ H x y v u Q I rx ry h
  obtain ⟨l, xs, rfl, rfl, hT, q⟩ := h
  cases rx
  obtain ⟨t, rfl⟩ := ry
  obtain ⟨its, r, ⟨⟨cls, dd, data, sl⟩, ho, hc, n, hd⟩, hs⟩ := I.tuple hT
  simp only at hc hd
  subst hc hd
  refine wpAny_binaryOp_repeat_ref (T := "tuple") (U := "int") (by decide) ⟨_, ho, rfl⟩ (fun s' => typeIs_int s' 1 t) noFill_tuple_mul F.fills_int_mul F.slot_int_rmul repeat_tuple F.slot_int_index.lookup
    (call_meets F.slot_int_rmul (typeIs_int s 1 t) F.entry_int_rmul (F.args_int_rmul_2 _ _) (int_rmul_tuple 1 t l its.toArray n dd sl)
      ⟨ho, rfl, ⟨_, ho, rfl⟩, call_meets F.slot_tuple_mul ⟨_, ho, rfl⟩ F.entry_tuple_mul (F.args_tuple_mul_2 _ _) (tuple_mul1 l its.toArray n dd sl t) ⟨ho, ?_⟩⟩)
  exact ⟨.ref l, H, I, rfl, q⟩
end PZ

set_option Elab.async false
set_option linter.all false
set_option maxRecDepth 100000
/-! PId: the operations by values. -/
namespace PI
open PySem PySem.Spec PyProof.Rows L2

/-- what is wanted of a value behind a run -/
def Wv (K : PySem.W.Frag) (io : List Addr) (H : Hp) (Q : VK) : IV → IH → Prop := fun z h' => ∀ io' H' x', Ext io H io' H' → RepH K io' H' h' → RepV K io' H' z x' → Q x' H'
def r2 (K : PySem.W.Frag) (g : IV → IV → IH → Res IV) : R2 := fun x y H Q => ∃ io h v u, RepH K io H h ∧ RepV K io H v x ∧ RepV K io H u y ∧ wpR (g v u h) (Wv K io H Q)
def uBin : BOp → Operator
  | .add => .Add | .sub => .Sub | .mul => .Mult | .fdiv => .FloorDiv | .mod => .Mod | .pow => .Pow
def uCmp : COp → CmpOp
  | .eq => .Eq | .ne => .NotEq | .lt => .Lt | .le => .LtE | .gt => .Gt | .ge => .GtE | .isN => .Is | .notN => .IsNot | .inn => .In | .notIn => .NotIn

section
variable {X : Cx} {io : List Addr} {H : Hp} {h : IH} {Q : VK}
theorem Wv.same {z : IV} {x : V} (w : Wv X.K io H Q z h) (R : RepH X.K io H h) (r : RepV X.K io H z x) : Q x H := w io H x (Ext.refl _ _) R r
theorem Wv.newT {l : List IV} {xs : List V} (w : Wv X.K io H Q (.tup l) h) (R : RepH X.K io H h) (r : RepL X.K io H l xs) : ∀ p, H p = none → Q (.ref p) (upd H p (.tup xs)) := fun p hp =>
  have E : Ext io H io (upd H p (.tup xs)) := ⟨⟨[], by simp⟩, Kp.new hp⟩
  w io _ _ E (R.newO hp) (.tup (SqT.of upd_same) (r.mono E))
theorem Wv.newL {l : List IV} {xs : List V} (w : wpR (newL l h) (Wv X.K io H Q)) (R : RepH X.K io H h) (r : RepL X.K io H l xs) : ∀ p, H p = none → Q (.ref p) (upd H p (.lst xs)) := fun p hp =>
  have g := R.new hp r
  (show Wv X.K io H Q (.ref h.length) (h ++ [.lst l]) from w) _ _ _ g.2 g.1 (RepH.ref_new R)

theorem wpR_ite {c : Prop} [Decidable c] {α : Type} {a : Res α} {P : α → IH → Prop} (w : wpR (if c then a else .bad) P) : c ∧ wpR a P := by
  by_cases hc : c
  · rw [if_pos hc] at w; exact ⟨hc, w⟩
  · rw [if_neg hc] at w; exact w.elim
theorem wpR_iteB {c : Bool} {α : Type} {a : Res α} {P : α → IH → Prop} (w : wpR (if c then a else .bad) P) : c = true ∧ wpR a P := wpR_ite w
theorem wpR_match {β : Type} {o : Option β} {α : Type} {f : β → Res α} {P : α → IH → Prop} (w : wpR (match o with | some b => f b | none => .bad) P) : ∃ b, o = some b ∧ wpR (f b) P := by
  cases o with
  | some b => exact ⟨b, rfl, w⟩
  | none => exact w.elim

theorem op_bin (op : BOp) : OpR X (binaryOp (uBin op)) (r2 X.K (binI op)) := by
  intro pins s σ H x y v u Q I rx ry ⟨io, h, a, b, R, ra, rb, w⟩
  cases op with
  | add =>
    cases ra <;> cases rb <;> try exact (show False from w).elim
    · exact op_add pins s σ H _ _ v u Q I rx ry ⟨_, _, rfl, rfl, Wv.same (X := X) w R (.int _)⟩
    · rename_i l a xs sa la r b ys sb lb
      obtain ⟨hz, w⟩ := wpR_ite w
      have w : Wv X.K io H Q (.tup (l ++ r)) h := w
      rw [la.length, lb.length] at hz
      refine op_catA pins s σ H _ _ v u Q I rx ry ⟨a, b, xs, ys, rfl, rfl, sa, sb, hz, fun e => ?_, fun _ e => ?_, fun _ _ => w.newT (X := X) R (la.append lb)⟩
      · subst e
        have el : l = [] := List.eq_nil_of_length_eq_zero la.length
        subst el
        exact w.same (X := X) R (.tup sb lb)
      · subst e
        have el : r = [] := List.eq_nil_of_length_eq_zero lb.length
        subst el
        rw [List.append_nil] at w
        exact w.same (X := X) R (.tup sa la)
    · rename_i m a ha n b hb
      cases em : getM h m with
      | none => exact (show False by simp only [binI, em] at w; exact w).elim
      | some l =>
        cases en : getM h n with
        | none => exact (show False by simp only [binI, em, en] at w; exact w).elim
        | some r =>
          simp only [binI, em, en] at w
          obtain ⟨hz, w⟩ := wpR_ite w
          obtain ⟨xs, hx, lx⟩ := R.lst em ha
          obtain ⟨ys, hy, ly⟩ := R.lst en hb
          rw [lx.length, ly.length] at hz
          exact op_cat pins s σ H _ _ v u Q I rx ry ⟨a, b, xs, ys, rfl, rfl, hx, hy, hz, Wv.newL (X := X) w R (lx.append ly)⟩
  | sub =>
    cases ra <;> cases rb <;> try exact (show False from w).elim
    exact op_sub pins s σ H _ _ v u Q I rx ry ⟨_, _, rfl, rfl, Wv.same (X := X) w R (.int _)⟩
  | mul =>
    cases ra <;> cases rb <;> try exact (show False from w).elim
    · obtain ⟨hz, w⟩ := wpR_iteB w
      refine op_mul pins s σ H _ _ v u Q I rx ry ⟨_, _, rfl, rfl, ?_, Wv.same (X := X) w R (.int _)⟩
      unfold cmulB at hz
      simp only [Bool.or_eq_true, Bool.and_eq_true, decide_eq_true_eq] at hz
      exact hz
    · rename_i l a xs sa la k
      by_cases hk1 : k = 1
      · subst hk1
        have w : Wv X.K io H Q (.tup l) h := by
          have e1 : binI .mul (.tup l) (.int 1) h = .ok (.tup l) h := by simp [binI]
          rw [e1] at w
          exact w
        exact PZ.op_rep1 pins s σ H _ _ v u Q I rx ry ⟨a, xs, rfl, rfl, sa, w.same (X := X) R (.tup sa la)⟩
      simp only [binI, if_neg hk1] at w
      obtain ⟨⟨h1, h2, h3, h4⟩, w⟩ := wpR_ite w
      have w : Wv X.K io H Q (.tup (List.replicate k.toNat l).flatten) h := w
      rw [la.length] at h1 h4
      exact op_repT pins s σ H _ _ v u Q I rx ry ⟨a, k, xs, rfl, rfl, sa, (fun z => by subst z; simp at h1), h2, h3, h4, w.newT (X := X) R (la.rep _)⟩
    · rename_i n a ha k
      cases el : getM h n with
      | none => exact (show False by simp only [binI, el] at w; exact w).elim
      | some l =>
      simp only [binI, el] at w
      obtain ⟨⟨h1, h2, h3⟩, w⟩ := wpR_ite w
      obtain ⟨xs, hx, lx⟩ := R.lst el ha
      rw [lx.length] at h3
      exact op_rep pins s σ H _ _ v u Q I rx ry ⟨a, k, xs, rfl, rfl, hx, h1, h2, h3, Wv.newL (X := X) w R (lx.rep _)⟩
  | fdiv =>
    cases ra <;> cases rb <;> try exact (show False from w).elim
    obtain ⟨hz, w⟩ := wpR_ite w
    exact op_fdiv pins s σ H _ _ v u Q I rx ry ⟨_, _, rfl, rfl, hz, Wv.same (X := X) w R (.int _)⟩
  | mod =>
    cases ra <;> cases rb <;> try exact (show False from w).elim
    obtain ⟨hz, w⟩ := wpR_ite w
    exact op_mod pins s σ H _ _ v u Q I rx ry ⟨_, _, rfl, rfl, hz, Wv.same (X := X) w R (.int _)⟩
  | pow =>
    cases ra <;> cases rb <;> try exact (show False from w).elim
    obtain ⟨hz, w⟩ := wpR_ite w
    exact op_pow pins s σ H _ _ v u Q I rx ry ⟨_, _, rfl, rfl, hz, Wv.same (X := X) w R (.int _)⟩

/-! ### data -/
mutual
theorem dp_of {K : PySem.W.Frag} {io : List Addr} {H : Hp} : ∀ {v : IV} {x : V} {d : PyData}, RepV K io H v x → dataOf v = some d → Dp K H x d ∧ d.canLay0 = true
  | _, _, _, .non, e => by cases e; exact ⟨.non, by simp [PyData.canLay0]⟩
  | _, _, _, .bl b, e => by cases e; exact ⟨.bl b, by simp [PyData.canLay0]⟩
  | _, _, _, .int i, e => by cases e; exact ⟨.int i, by simp [PyData.canLay0]⟩
  | _, _, _, .str x h, e => by cases e; exact ⟨.str x, by simp [PyData.canLay0, h]⟩
  | _, _, _, .rep d, e => by simp [dataOf] at e
  | _, _, _, .tup (l := l) s r, e => by
    rw [dataOf] at e
    cases el : datasOf l with
    | none => rw [el] at e; simp at e
    | some ds =>
      rw [el] at e; cases e
      obtain ⟨h1, h2⟩ := dps_of r el
      exact ⟨.tup s h1, by simp only [PyData.canLay0]; exact h2⟩
  | _, _, _, .ref h, e => by simp [dataOf] at e
theorem dps_of {K : PySem.W.Frag} {io : List Addr} {H : Hp} : ∀ {l : List IV} {xs : List V} {ds : List PyData}, RepL K io H l xs → datasOf l = some ds → DpAll K H xs ds ∧ PyData.canLayAll0 ds = true
  | _, _, _, .nil, e => by rw [datasOf] at e; cases e; exact ⟨.nil, by simp [PyData.canLayAll0]⟩
  | _, _, _, .cons (v := v) (l := l) a b, e => by
    rw [datasOf] at e
    cases e1 : dataOf v with
    | none => rw [e1] at e; cases e
    | some d =>
      rw [e1] at e
      cases e2 : datasOf l with
      | none => rw [e2] at e; cases e
      | some ds =>
        rw [e2] at e; cases e
        obtain ⟨h1, h2⟩ := dp_of a e1
        obtain ⟨h3, h4⟩ := dps_of b e2
        exact ⟨.cons h1 h3, by simp [PyData.canLayAll0, h2, h4]⟩
end
theorem dpI_of {v : IV} {x : V} {d : PyData} (R : RepH X.K io H h) (r : RepV X.K io H v x) (e : dataI h v = some d) : Dp X.K H x d ∧ d.canLay0 = true := by
  cases r with
  | ref ha =>
    rename_i n a
    unfold dataI at e
    cases el : getL h n with
    | none => simp only [el] at e; cases e
    | some l =>
      simp only [el] at e
      cases e2 : datasOf l with
      | none => rw [e2] at e; simp at e
      | some ds =>
        rw [e2] at e; cases e
        obtain ⟨xs, hx, lx⟩ := R.sql el ha
        obtain ⟨h3, h4⟩ := dps_of lx e2
        exact ⟨.lst hx h3, by simp only [PyData.canLay0]; exact h4⟩
  | non => exact dp_of (io := io) .non e
  | bl b => exact dp_of (io := io) (.bl b) e
  | int i => exact dp_of (io := io) (.int i) e
  | str x hx => exact dp_of (io := io) (.str x hx) e
  | rep d => exact dp_of (io := io) (.rep d) e
  | tup s l => exact dp_of (.tup s l) e

theorem eq_core (hu : X.A.units + 64 < cLine) {pins : List (Addr × Obj)} {s : Shared} {σ : L2.St} {x y : V} {v u : Value} {Q : VK} {a b : IV} {k : Bool} (I : Inv X pins σ H s) (rx : RelV x v) (ry : RelV y u)
    (R : RepH X.K io H h) (ra : RepV X.K io H a x) (rb : RepV X.K io H b y) (e : eqI h a b = some k) :
    (Q (.bl k) H → wpAny (model X.prog X.w) X.A (compareOp .Eq v u) (EP X pins σ Q) X.xe s) ∧ (Q (.bl (!k)) H → wpAny (model X.prog X.w) X.A (compareOp .NotEq v u) (EP X pins σ Q) X.xe s) := by
  have gen : ∀ {d d' : PyData}, dataI h a = some d → dataI h b = some d' → d.depth ≤ 64 → d'.depth ≤ 64 → k = PyData.eqv d d' →
      (Q (.bl k) H → wpAny (model X.prog X.w) X.A (compareOp .Eq v u) (EP X pins σ Q) X.xe s) ∧ (Q (.bl (!k)) H → wpAny (model X.prog X.w) X.A (compareOp .NotEq v u) (EP X pins σ Q) X.xe s) := by
    intro d d' e1 e2 h1 h2 ek
    subst ek
    obtain ⟨p1, c1⟩ := dpI_of R ra e1
    obtain ⟨p2, c2⟩ := dpI_of R rb e2
    have s1 : SeqAt.shaped d = true := by unfold SeqAt.shaped; rw [c1, decide_eq_true h1]; rfl
    have s2 : SeqAt.shaped d' = true := by unfold SeqAt.shaped; rw [c2, decide_eq_true h2]; rfl
    exact ⟨fun q => op_eqD hu pins s σ H x y v u Q I rx ry ⟨d, d', p1, p2, s1, s2, q⟩, fun q => op_neD hu pins s σ H x y v u Q I rx ry ⟨d, d', p1, p2, s1, s2, q⟩⟩
  have fall : (match dataI h a, dataI h b with
      | some d, some e => if d.depth ≤ 64 ∧ e.depth ≤ 64 then some (PyData.eqv d e) else none
      | _, _ => none) = some k → (Q (.bl k) H → wpAny (model X.prog X.w) X.A (compareOp .Eq v u) (EP X pins σ Q) X.xe s) ∧ (Q (.bl (!k)) H → wpAny (model X.prog X.w) X.A (compareOp .NotEq v u) (EP X pins σ Q) X.xe s) := by
    intro e
    cases e1 : dataI h a with
    | none => rw [e1] at e; cases e
    | some d =>
      cases e2 : dataI h b with
      | none => rw [e1, e2] at e; cases e
      | some d' =>
        rw [e1, e2] at e
        by_cases hd : d.depth ≤ 64 ∧ d'.depth ≤ 64
        · simp only [hd, and_self, if_true] at e
          exact gen e1 e2 hd.1 hd.2 (Option.some.inj e).symm
        · simp only [hd, if_false] at e
          cases e
  unfold eqI at e
  split at e
  · rename_i d d'
    cases ra
    cases rb
    by_cases hs : sameD d d' = true
    · rw [if_pos hs] at e
      cases e
      have := sameD_eq d d' hs
      subst this
      exact ⟨fun q => op_eq pins s σ H _ _ v u Q I rx ry ⟨rfl, by rw [decide_eq_true rfl]; exact q⟩, fun q => op_ne pins s σ H _ _ v u Q I rx ry ⟨rfl, by rw [decide_eq_true rfl]; exact q⟩⟩
    · rw [if_neg hs] at e; cases e
  · exact fall e

theorem flat_rep {v : IV} {x : V} (r : RepV X.K io H v x) (f : flatB v = true) : flatV x = true := by
  cases r <;> first | rfl | exact absurd (show false = true from f) Bool.false_ne_true
theorem eqF_rep {v w : IV} {x y : V} (r : RepV X.K io H v x) (r' : RepV X.K io H w y) (f : flatB v = true) (f' : flatB w = true) : eqV x y = eqF v w := by
  cases r <;> cases r' <;> first | rfl | exact absurd (show false = true from f) Bool.false_ne_true | exact absurd (show false = true from f') Bool.false_ne_true
theorem all_flat {l : List IV} {xs : List V} (r : RepL X.K io H l xs) (f : l.all flatB = true) : xs.all flatV = true := by
  induction l generalizing xs with
  | nil => cases r; rfl
  | cons v l ih =>
    cases r with
    | cons a b =>
      rw [List.all_cons, Bool.and_eq_true] at f ⊢
      exact ⟨flat_rep a f.1, ih b f.2⟩
theorem any_rep {l : List IV} {xs : List V} {v : IV} {x : V} (r : RepL X.K io H l xs) (f : l.all flatB = true) (rv : RepV X.K io H v x) (fv : flatB v = true) : inV x xs = l.any fun y => eqF y v := by
  induction l generalizing xs with
  | nil => cases r; rfl
  | cons w l ih =>
    cases r with
    | cons a b =>
      rw [List.all_cons, Bool.and_eq_true] at f
      have := ih b f.2
      unfold inV at this ⊢
      rw [List.any_cons, List.any_cons, this, eqF_rep a rv f.1 fv]
theorem in_core (hu : X.A.units + 65 < cLine) {pins : List (Addr × Obj)} {s : Shared} {σ : L2.St} {x y : V} {v u : Value} {Q : VK} {a b : IV} {k : Bool} (I : Inv X pins σ H s) (rx : RelV x v) (ry : RelV y u)
    (R : RepH X.K io H h) (ra : RepV X.K io H a x) (rb : RepV X.K io H b y) (e : inI h a b = some k) :
    (Q (.bl k) H → wpAny (model X.prog X.w) X.A (compareOp .In v u) (EP X pins σ Q) X.xe s) ∧ (Q (.bl (!k)) H → wpAny (model X.prog X.w) X.A (compareOp .NotIn v u) (EP X pins σ Q) X.xe s) := by
  unfold inI at e
  cases es : seqI h b with
  | none => simp only [es] at e; cases e
  | some l =>
    simp only [es] at e
    by_cases hf : (flatB a && l.all flatB) = true
    · rw [if_pos hf] at e
      rw [Bool.and_eq_true] at hf
      have key : ∀ {p : Addr} {xs : List V}, y = .ref p → (SqL X.K H p xs ∨ SqT X.K H p xs) → RepL X.K io H l xs → (Q (.bl k) H → wpAny (model X.prog X.w) X.A (compareOp .In v u) (EP X pins σ Q) X.xe s) ∧ (Q (.bl (!k)) H → wpAny (model X.prog X.w) X.A (compareOp .NotIn v u) (EP X pins σ Q) X.xe s) := by
        intro p xs ey hq lx
        have ek : k = inV x xs := by rw [any_rep lx hf.2 ra hf.1]; exact (Option.some.inj e).symm
        exact ⟨fun q => op_in_seq pins s σ H x y v u Q I rx ry ⟨p, xs, ey, hq, flat_rep ra hf.1, all_flat lx hf.2, by rw [if_neg Bool.false_ne_true, ← ek]; exact q⟩,
          fun q => op_notIn_seq pins s σ H x y v u Q I rx ry ⟨p, xs, ey, hq, flat_rep ra hf.1, all_flat lx hf.2, by rw [if_pos rfl, ← ek]; exact q⟩⟩
      cases rb with
      | tup sb lb => cases es; exact key rfl (.inr sb) lb
      | ref hb =>
        obtain ⟨xs, hx, lx⟩ := R.sql es hb
        exact key rfl (.inl hx) lx
      | _ => cases es
    · rw [if_neg hf] at e
      cases rb with
      | ref hb =>
        rename_i n p
        have es : getL h n = some l := es
        cases e1 : dataOf a with
        | none => simp only [e1] at e; cases e
        | some d =>
          cases e2 : datasOf l with
          | none => simp only [e1, e2] at e; cases e
          | some ds =>
            simp only [e1, e2] at e
            by_cases hd : d.depth ≤ 64 ∧ PyData.depthAll ds ≤ 63
            · rw [if_pos hd] at e
              have ek : k = ds.any fun z => PyData.eqv z d := (Option.some.inj e).symm
              obtain ⟨p1, c1⟩ := dp_of ra e1
              obtain ⟨xs, hx, lx⟩ := R.sql es hb
              obtain ⟨p2, c2⟩ := dps_of lx e2
              have s1 : SeqAt.shaped d = true := by unfold SeqAt.shaped; rw [c1, decide_eq_true hd.1]; rfl
              have s2 : SeqAt.shaped (.list ds) = true := by
                have h2 : (PyData.list ds).depth ≤ 64 := by simp only [PyData.depth]; omega
                unfold SeqAt.shaped; rw [decide_eq_true h2]; simp only [PyData.canLay0, c2]; rfl
              exact ⟨fun q => op_inD hu pins s σ H x _ v u Q I rx ry ⟨d, ds, p1, .lst hx p2, s1, s2, by rw [← ek]; exact q⟩,
                fun q => op_notInD hu pins s σ H x _ v u Q I rx ry ⟨d, ds, p1, .lst hx p2, s1, s2, by rw [← ek]; exact q⟩⟩
            · rw [if_neg hd] at e; cases e
      | _ => cases e

theorem isNon_rep {v : IV} {x : V} (r : RepV X.K io H v x) : decide (x = .non) = isNon v := by
  cases r <;> simp [isNon]
theorem op_cmp (hu : X.A.units + 65 < cLine) (op : COp) : OpR X (compareOp (uCmp op)) (r2 X.K fun v w h => opt ((cmpI op v w h).map .bl) h) := by
  intro pins s σ H x y v u Q I rx ry ⟨io, h, a, b, R, ra, rb, w⟩
  obtain ⟨z, ez, w⟩ := wpR_opt w
  cases ek : cmpI op a b h with
  | none => rw [ek] at ez; cases ez
  | some k =>
    rw [ek] at ez; cases ez
    have q : Q (.bl k) H := w.same (X := X) R (.bl k)
    cases op with
    | eq => exact (eq_core (by omega) I rx ry R ra rb ek).1 q
    | ne =>
      have ek : (eqI h a b).map not = some k := ek
      cases e : eqI h a b with
      | none => rw [e] at ek; cases ek
      | some k' =>
        rw [e] at ek
        have : (!k') = k := Option.some.inj ek
        exact (eq_core (by omega) I rx ry R ra rb e).2 (by rw [this]; exact q)
    | inn => exact (in_core hu I rx ry R ra rb ek).1 q
    | notIn =>
      have ek : (inI h a b).map not = some k := ek
      cases e : inI h a b with
      | none => rw [e] at ek; cases ek
      | some k' =>
        rw [e] at ek
        have : (!k') = k := Option.some.inj ek
        exact (in_core hu I rx ry R ra rb e).2 (by rw [this]; exact q)
    | lt =>
      cases ra <;> cases rb <;> try exact absurd (show (none : Option Bool) = some k from ek) (fun z => nomatch z)
      cases ek
      exact op_lt pins s σ H _ _ v u Q I rx ry ⟨_, _, rfl, rfl, q⟩
    | le =>
      cases ra <;> cases rb <;> try exact absurd (show (none : Option Bool) = some k from ek) (fun z => nomatch z)
      cases ek
      exact op_le pins s σ H _ _ v u Q I rx ry ⟨_, _, rfl, rfl, q⟩
    | gt =>
      cases ra <;> cases rb <;> try exact absurd (show (none : Option Bool) = some k from ek) (fun z => nomatch z)
      cases ek
      exact op_gt pins s σ H _ _ v u Q I rx ry ⟨_, _, rfl, rfl, q⟩
    | ge =>
      cases ra <;> cases rb <;> try exact absurd (show (none : Option Bool) = some k from ek) (fun z => nomatch z)
      cases ek
      exact op_ge pins s σ H _ _ v u Q I rx ry ⟨_, _, rfl, rfl, q⟩
    | isN =>
      have ek : (if isNon b then some (isNon a) else none) = some k := ek
      cases rb <;> try exact absurd (show (none : Option Bool) = some k from ek) (fun z => nomatch z)
      have : isNon a = k := Option.some.inj ek
      exact op_isN pins s σ H _ _ v u Q I rx ry ⟨rfl, by rw [isNon_rep (X := X) ra, this]; exact q⟩
    | notN =>
      have ek : (if isNon b then some (!isNon a) else none) = some k := ek
      cases rb <;> try exact absurd (show (none : Option Bool) = some k from ek) (fun z => nomatch z)
      have : (!isNon a) = k := Option.some.inj ek
      exact op_notN pins s σ H _ _ v u Q I rx ry ⟨rfl, by rw [isNon_rep (X := X) ra, this]; exact q⟩
end
end PI

set_option Elab.async false
set_option linter.all false
set_option maxRecDepth 100000
set_option maxHeartbeats 1000000
/-! PZe: the greatest of a tuple of whole numbers. -/
namespace PZ
open PySem PyProof.Rows
open PySem.Sem (wp)
theorem ints_len : ∀ {items : List Value} {ns : List Int}, IntsAre items ns → items.length = ns.length
  | _, _, .nil => rfl
  | _, _, .cons n t k => by rw [List.length_cons, List.length_cons, ints_len k]
theorem ints_at : ∀ {items : List Value} {ns : List Int}, IntsAre items ns → ∀ (i : Nat) (v : Value), items[i]? = some v → ∃ (n : Int) (t : Tok), ns[i]? = some n ∧ v = Value.int n t
  | _, _, .nil, i, v, e => by simp at e
  | _, _, .cons n t k, 0, v, e => by simp at e; exact ⟨n, t, rfl, e.symm⟩
  | _, _, .cons n t k, i + 1, v, e => by
    rw [List.getElem?_cons_succ] at e
    obtain ⟨n', t', h1, h2⟩ := ints_at k i v e
    exact ⟨n', t', by rw [List.getElem?_cons_succ]; exact h1, h2⟩
abbrev bestO (M : Int) (tk : Tok) (c : Nat) : Obj := { cls := .type "list", data := .seq #[.int M tk, .int M tk] c }
section
variable {prog : Program} {w : World} {A : Around} {E : Value → Shared → Prop}
theorem max_loopT {R : Result → Shared → Prop} {s : Shared} (hh : A.handled = none) {h₀ : Heap} {it best t : Addr} {items : List Value} {ns : List Int} (hi : IntsAre items ns) (hib : it ≠ best) (htb : t ≠ best) (hti : t ≠ it) (n1 : h₀.get? it = none) (n2 : h₀.get? best = none)
    (K : ∀ (h' : Heap) (M : Int) (tk : Tok), (∀ b o, h₀.get? b = some o → h'.get? b = some o) → M ∈ ns → (∀ a ∈ ns, a ≤ M) → R (.ok (.ret (.int M tk))) { s with heap := h' }) :
    ∀ (r i : Nat) (h : Heap) (M : Int) (tk : Tok) (c : Nat), items.length = i + r → h.IsTupleIter it t i → h.IsTuple t items.toArray → h.get? best = some (bestO M tk c) → (∀ b o, h₀.get? b = some o → h.get? b = some o) → M ∈ ns → (∀ a ∈ ns.take i, a ≤ M) →
      codeAny (model prog w) A (Code.builtin "max.loop" { pos := [.ref it, .none, .ref best] }) R { s with heap := h } := by
  intro r
  induction r with
  | zero =>
    intro i h M tk c hl I T B k m1 m2
    refine codeAny_builtin F.entry_max_loop ?_
    refine wpAny_bind (wpAny_seqItems B rfl ?_)
    refine wpAny_bind (wpAny_tryCatch (wpAny_pyNext_tuple_end hh I T (by simp; omega) fun h' e => ?_))
    have B' : h'.get? best = some (bestO M tk c) := e best _ (Ne.symm hib) B
    refine wpAny_bind (wpAny_updateSeq B' rfl ?_ (by show 2 ≤ sizeLine; decide) (by show 0 ≤ sizeLine + 1; decide))
    refine wpAny_bind (wpAny_letGo ?_)
    refine wpAny_pure (K _ M tk (fun b o hb => ?_) m1 ?_)
    · have nb : b ≠ best := fun z => by rw [z, n2] at hb; cases hb
      have ni : b ≠ it := fun z => by rw [z, n1] at hb; cases hb
      show (h'.update best _).get? b = some o
      rw [Heap.get?_update_ne _ _ _ _ nb]
      exact e b o ni (k b o hb)
    · rw [List.take_of_length_le (by rw [← ints_len hi]; omega)] at m2
      exact m2
  | succ r ih =>
    intro i h M tk c hl I T B k m1 m2
    refine codeAny_builtin F.entry_max_loop ?_
    refine wpAny_bind (wpAny_seqItems B rfl ?_)
    have hx : i < items.length := by omega
    obtain ⟨n, tn, en, ex⟩ := ints_at hi i items[i] (List.getElem?_eq_getElem hx)
    refine wpAny_bind (wpAny_tryCatch (wpAny_pyNext_tuple_item (x := Value.int n tn) I T (by rw [List.getElem?_toArray, List.getElem?_eq_getElem hx, ex]) fun h' I' e => ?_))
    have B' : h'.get? best = some (bestO M tk c) := by rw [e.2 best (Ne.symm hib)]; exact B
    have T' : h'.IsTuple t items.toArray := by
      obtain ⟨o, e1, e2⟩ := T
      exact ⟨o, by rw [e.2 t hti]; exact e1, e2⟩
    have k' : ∀ b o, h₀.get? b = some o → h'.get? b = some o := fun b o hb => by
      have ni : b ≠ it := fun z => by rw [z, n1] at hb; cases hb
      rw [e.2 b ni]; exact k b o hb
    have hn : n ∈ ns := List.mem_of_getElem? en
    have tk1 : ns.take (i + 1) = ns.take i ++ [n] := by rw [List.take_add_one, en]; rfl
    refine wpAny_bind (wpAny_pure ?_)
    refine wpAny_bind (wpAny_tryCatch (wpAny_holding (wpAny_bind (Flt.gt_num (.int _ _) (.int _ _) ?_))))
    refine wpAny_bind (wpAny_holding (wpAny_truthy_bool ?_))
    refine wpAny_bind (wpAny_letGo (wpAny_pure ?_))
    have I2 : ∀ f, (h'.update best f).IsTupleIter it t (i + 1) := fun f => by
      obtain ⟨o, e1, e2⟩ := I'
      exact ⟨o, by rw [Heap.get?_update_ne _ _ _ _ hib]; exact e1, e2⟩
    have T2 : ∀ f, (h'.update best f).IsTuple t items.toArray := fun f => by
      obtain ⟨o, e1, e2⟩ := T'
      exact ⟨o, by rw [Heap.get?_update_ne _ _ _ _ htb]; exact e1, e2⟩
    have k2 : ∀ f, ∀ b o, h₀.get? b = some o → (h'.update best f).get? b = some o := fun f b o hb => by
      have nb : b ≠ best := fun z => by rw [z, n2] at hb; cases hb
      rw [Heap.get?_update_ne _ _ _ _ nb]; exact k' b o hb
    by_cases lt : M < n
    · rw [show Flt.ltV (Value.int M tk) (Value.int n tn) = true from decide_eq_true lt]
      refine wpAny_bind (wpAny_updateSeq B' rfl ?_ (by show 2 ≤ sizeLine; decide) (by show 2 ≤ sizeLine + 1; decide))
      refine wpAny_bind (wpAny_letGo (wpAny_pure ⟨rfl, ?_⟩))
      exact ih (i + 1) _ n tn c (by omega) (I2 _) (T2 _) (Heap.get?_update_self _ B' rfl) (k2 _) hn fun a ha => by
        rw [tk1] at ha
        rcases List.mem_append.mp ha with ha | ha
        · have := m2 a ha; omega
        · simp only [List.mem_singleton] at ha; omega
    · rw [show Flt.ltV (Value.int M tk) (Value.int n tn) = false from decide_eq_false lt]
      refine wpAny_bind (wpAny_letGo (wpAny_pure ⟨rfl, ?_⟩))
      exact ih (i + 1) _ M tk c (by omega) I' T' B' k' m1 fun a ha => by
        rw [tk1] at ha
        rcases List.mem_append.mp ha with ha | ha
        · exact m2 a ha
        · simp only [List.mem_singleton] at ha; omega
theorem max_tup {s : Shared} {t : Addr} {items : List Value} {ns : List Int} {Q : Value → Shared → Prop} (hh : A.handled = none) (T : s.heap.IsTuple t items.toArray) (hi : IntsAre items ns) (h0 : 0 < ns.length)
    (K : ∀ (h' : Heap) (M : Int) (tk : Tok), (∀ b o, s.heap.get? b = some o → h'.get? b = some o) → M ∈ ns → (∀ a ∈ ns, a ≤ M) → Q (.int M tk) { s with heap := h' }) :
    wpAny (model prog w) A (call (.builtin "max") [.ref t]) Q E s := by
  refine call_function_tree F.kind_max F.plain_max F.entry_max (F.args_max1 _) ?_
  have hl := ints_len hi
  obtain ⟨o, eo, ec, c0, ed⟩ := T
  have tlt : t < s.heap.objs.size := Heap.lt_size eo
  have hit : s.heap.get? s.heap.objs.size = none := by
    cases e : s.heap.get? s.heap.objs.size with
    | none => rfl
    | some o => exact absurd (Heap.lt_size e) (Nat.lt_irrefl _)
  have hbe : s.heap.get? (s.heap.objs.size + 1) = none := by
    cases e : s.heap.get? (s.heap.objs.size + 1) with
    | none => rfl
    | some o => exact absurd (Heap.lt_size e) (Nat.not_lt.mpr (Nat.le_succ _))
  refine wpAny_bind (wpAny_of_eq (a := [none, none]) (by rfl) ?_)
  refine wpAny_bind (wpAny_pure ?_)
  refine wpAny_bind (wpAny_pyIter_tuple ⟨o, eo, ec, c0, ed⟩ ?_)
  refine wpAny_bind (wpAny_newList ?_ (by show 0 ≤ sizeLine; exact Nat.zero_le _))
  refine wpAny_pure ⟨rfl, ?_⟩
  have sz : (s.heap.push { cls := .type "tuple_iterator", data := .fields #[.ref t, .int 0 0] } : Heap).objs.size = s.heap.objs.size + 1 := Heap.size_push ..
  have gi : ((s.heap.push { cls := .type "tuple_iterator", data := .fields #[.ref t, .int 0 0] }).push { cls := .type "list", data := .seq ([] : List Value).toArray } : Heap).get? s.heap.objs.size = some { cls := .type "tuple_iterator", data := .fields #[.ref t, .int 0 0] } := Heap.get?_push_of_some _ (Heap.get?_push_size _ rfl)
  have gb : ((s.heap.push { cls := .type "tuple_iterator", data := .fields #[.ref t, .int 0 0] }).push { cls := .type "list", data := .seq ([] : List Value).toArray } : Heap).get? (s.heap.objs.size + 1) = some { cls := .type "list", data := .seq ([] : List Value).toArray } := by rw [← sz]; exact Heap.get?_push_size _ rfl
  have gk : ∀ b o, s.heap.get? b = some o → ((s.heap.push { cls := .type "tuple_iterator", data := .fields #[.ref t, .int 0 0] }).push { cls := .type "list", data := .seq ([] : List Value).toArray } : Heap).get? b = some o := fun b o hb => Heap.get?_push_of_some _ (Heap.get?_push_of_some _ hb)
  rw [sz]
  show codeAny (model prog w) A (Code.builtin "max.loop" { pos := [.ref s.heap.objs.size, .none, .ref (s.heap.objs.size + 1)] }) _ { s with heap := ((s.heap.push { cls := .type "tuple_iterator", data := .fields #[.ref t, .int 0 0] }).push { cls := .type "list", data := .seq ([] : List Value).toArray } : Heap) }
  generalize ((s.heap.push { cls := .type "tuple_iterator", data := .fields #[.ref t, .int 0 0] }).push { cls := .type "list", data := .seq ([] : List Value).toArray } : Heap) = h at gi gb gk ⊢
  have hib : s.heap.objs.size ≠ s.heap.objs.size + 1 := Nat.ne_of_lt (Nat.lt_succ_self _)
  have hti : t ≠ s.heap.objs.size := Nat.ne_of_lt tlt
  have htb : t ≠ s.heap.objs.size + 1 := Nat.ne_of_lt (Nat.lt_succ_of_lt tlt)
  generalize s.heap.objs.size = it at *
  refine codeAny_builtin F.entry_max_loop ?_
  refine wpAny_bind (wpAny_seqItems gb rfl ?_)
  have hx : 0 < items.length := by omega
  obtain ⟨n, tn, en, ex⟩ := ints_at hi 0 items[0] (List.getElem?_eq_getElem hx)
  refine wpAny_bind (wpAny_tryCatch (wpAny_pyNext_tuple_item (x := Value.int n tn) (i := 0) ⟨_, gi, rfl, rfl⟩ ⟨o, gk _ _ eo, ec, c0, ed⟩ (by rw [List.getElem?_toArray, List.getElem?_eq_getElem hx, ex]) fun h' I' e => ?_))
  have B' : h'.get? (it + 1) = some { cls := .type "list", data := .seq ([] : List Value).toArray } := by rw [e.2 _ (Ne.symm hib)]; exact gb
  refine wpAny_bind (wpAny_pure ?_)
  refine wpAny_bind (wpAny_updateSeq B' rfl ?_ (by show 0 ≤ sizeLine; exact Nat.zero_le _) (by show 2 ≤ sizeLine + 1; decide))
  refine wpAny_pure ⟨rfl, ?_⟩
  have T' : h'.IsTuple t items.toArray := ⟨o, by rw [e.2 t hti]; exact gk _ _ eo, ec, c0, ed⟩
  have k' : ∀ b o, s.heap.get? b = some o → h'.get? b = some o := fun b o hb => by
    have ni : b ≠ it := fun z => by rw [z, hit] at hb; cases hb
    rw [e.2 b ni]; exact gk b o hb
  refine max_loopT (s := s) hh (h₀ := s.heap) hi hib htb hti hit hbe (fun h2 M tk k m1 m2 => K h2 M tk k m1 m2) (items.length - 1) 1 (h'.update (it + 1) (Obj.mapSeq fun _ => #[Value.int n tn, Value.int n tn])) n tn 1 (by omega) ?_ ?_ (Heap.get?_update_self _ B' rfl) (fun b o hb => ?_) (List.mem_of_getElem? en) fun a ha => ?_
  · obtain ⟨o, e1, e2⟩ := I'
    exact ⟨o, by rw [Heap.get?_update_ne _ _ _ _ hib]; exact e1, e2⟩
  · obtain ⟨o, e1, e2⟩ := T'
    exact ⟨o, by rw [Heap.get?_update_ne _ _ _ _ htb]; exact e1, e2⟩
  · have nb : b ≠ it + 1 := fun z => by rw [z, hbe] at hb; cases hb
    rw [Heap.get?_update_ne _ _ _ _ nb]; exact k' b o hb
  · cases ns with
    | nil => simp at en
    | cons x r =>
      simp at en ha
      omega
end
open L2 in
theorem ints_of_vals : ∀ {ns : List Int} {us : List Value}, Vals (ns.map V.int) us → IntsAre us ns
  | [], _, h => by cases h; exact .nil
  | n :: ns, _, h => by
    cases h with
    | cons r rr =>
      obtain ⟨t, rfl⟩ := r
      exact .cons n t (ints_of_vals rr)
open L2 in
def rMaxT (K : PySem.W.Frag) : List V → Hp → VK → Prop := fun vs H Q => ∃ (a : Addr) (ns : List Int), vs = [.ref a] ∧ SqT K H a (ns.map V.int) ∧ 0 < ns.length ∧ ∀ m, m ∈ ns → (∀ y, y ∈ ns → y ≤ m) → Q (.int m) H
open L2 in
theorem cr_maxT {X : Cx} (hc : X.calm = true) : CallR X (.builtin "max") (rMaxT X.K) := by
  intro pins s σ H xs us Q I r h
  obtain ⟨a, ns, rfl, hT, h0, q⟩ := h
  cases r with
  | cons r rr =>
    cases rr
    cases r
    obtain ⟨its, rv, p, _⟩ := I.tuple hT
    exact max_tup (I.ok.hd hc) p (ints_of_vals rv) h0 fun h' M tk k m1 m2 => ⟨.int M, H, I.kept (t' := s.toks) k, ⟨tk, rfl⟩, q M m1 m2⟩
end PZ

set_option Elab.async false
set_option linter.all false
set_option maxRecDepth 100000
/-! PIe: items, slices, built-in calls, methods by values. -/
namespace PI
open PySem PySem.Spec PyProof.Rows L2
section
variable {X : Cx} {io : List Addr} {H : Hp} {h : IH} {Q : VK}

/-! ### items, slices -/
theorem ix_sub : IxR X (r2 X.K fun v w h => opt (subI v w h) h) := by
  intro value slice pins s σ H x y v u Q I rx ry ⟨io, h, a, b, R, ra, rb, w⟩ hs
  obtain ⟨z, ez, wz⟩ := wpR_opt w
  clear w
  cases rb <;> try exact absurd (show (none : Option IV) = some z from ez) (fun z => nomatch z)
  rename_i i
  have w : Wv X.K io H Q z h := wz
  cases es : seqI h a with
  | none => simp only [subI, es] at ez; cases ez
  | some l =>
    simp only [subI, es] at ez
    cases ra with
    | tup sa la =>
      cases es
      obtain ⟨x, hx, rz⟩ := la.atI ez
      exact ix_tup value slice pins s σ H _ _ v u Q I rx ry ⟨_, _, i, x, rfl, rfl, sa, hx, w.same (X := X) R rz⟩ hs
    | ref ha =>
      obtain ⟨xs, hxs, lx⟩ := R.sql es ha
      obtain ⟨x, hx, rz⟩ := lx.atI ez
      exact ix_list value slice pins s σ H _ _ v u Q I rx ry ⟨_, _, i, x, rfl, rfl, hxs, hx, w.same (X := X) R rz⟩ hs
    | _ => cases es
def r1s (K : PySem.W.Frag) (g : IV → Option Int → Option Int → IH → Res IV) : V → Option Int → Option Int → Hp → VK → Prop := fun x lo hi H Q =>
  ∃ io h v, RepH K io H h ∧ RepV K io H v x ∧ wpR (g v lo hi h) (Wv K io H Q)
theorem cut_whole {α : Type} {xs : List α} {lo hi : Option Int} (h : HT.sIx xs.length 0 lo = 0 ∧ HT.sIx xs.length xs.length hi = xs.length) :
    (xs.drop (HT.sIx xs.length 0 lo)).take (HT.sIx xs.length xs.length hi - HT.sIx xs.length 0 lo) = xs := by
  rw [h.1, h.2, List.drop_zero, Nat.sub_zero, List.take_length]
theorem sl_slice : SlR X (r1s X.K sliceI) := by
  intro pins s σ H x v vl vu lo hi sl Q I rx hs pl pu ⟨io, h, a, R, ra, w⟩
  cases ra <;> try exact (show False from w).elim
  · rename_i l a xs sa la
    have w : Wv X.K io H Q (.tup (cutI l lo hi)) h := w
    refine sl_tupA pins s σ H _ v vl vu lo hi sl Q I rx hs pl pu ⟨a, xs, rfl, sa, fun e => ?_, fun _ => w.newT (X := X) R (la.cut lo hi)⟩
    have el : cutI l lo hi = l := by
      unfold cutI
      exact cut_whole (by rw [la.length]; exact e)
    rw [el] at w
    exact w.same (X := X) R (.tup sa la)
  · rename_i n a ha
    cases el : getL h n with
    | none => exact (show False by simp only [sliceI, el] at w; exact w).elim
    | some l =>
      simp only [sliceI, el] at w
      obtain ⟨xs, hx, lx⟩ := R.sql el ha
      exact sl_list pins s σ H _ v vl vu lo hi sl Q I rx hs pl pu ⟨a, xs, rfl, hx, Wv.newL (X := X) w R (lx.cut lo hi)⟩

/-! ### built-in calls of one argument -/
def r1c (K : PySem.W.Frag) (g : IV → IH → Res IV) : List V → Hp → VK → Prop := fun xs H Q => ∃ io h v x, xs = [x] ∧ RepH K io H h ∧ RepV K io H v x ∧ wpR (g v h) (Wv K io H Q)
theorem call_len_i : CallR X (.builtin "len") (r1c X.K (bI .len)) := by
  intro pins s σ H xs us Q I r ⟨io, h, v, x, ex, R, rv, w⟩
  subst ex
  cases es : seqI h v with
  | none => exact (show False by simp only [bI, es] at w; exact w).elim
  | some l =>
    simp only [bI, es] at w
    have w : Wv X.K io H Q (.int l.length) h := w
    cases rv with
    | tup sa la =>
      cases es
      exact call_len_seq pins s σ H _ us Q I r ⟨_, _, rfl, .inr sa, by rw [← la.length]; exact w.same (X := X) R (.int _)⟩
    | ref ha =>
      obtain ⟨xs, hxs, lx⟩ := R.sql es ha
      exact call_len_seq pins s σ H _ us Q I r ⟨_, _, rfl, .inl hxs, by rw [← lx.length]; exact w.same (X := X) R (.int _)⟩
    | _ => cases es
theorem call_int_i : CallR X (.type "int") (r1c X.K (bI .int)) := by
  intro pins s σ H xs us Q I r ⟨io, h, v, x, ex, R, rv, w⟩
  subst ex
  cases rv <;> try exact (show False from w).elim
  · rename_i b
    have w : Wv X.K io H Q (.int (if b then 1 else 0)) h := w
    exact call_int1 pins s σ H _ us Q I r (.inr ⟨b, rfl, w.same (X := X) R (.int _)⟩)
  · rename_i i
    have w : Wv X.K io H Q (.int i) h := w
    exact call_int1 pins s σ H _ us Q I r (.inl ⟨i, rfl, w.same (X := X) R (.int _)⟩)
theorem call_tuple_i : CallR X (.type "tuple") (r1c X.K (bI .tuple)) := by
  intro pins s σ H xs us Q I r ⟨io, h, v, x, ex, R, rv, w⟩
  subst ex
  cases es : seqI h v with
  | none => exact (show False by simp only [bI, es] at w; exact w).elim
  | some l =>
    simp only [bI, es] at w
    have w : Wv X.K io H Q (.tup l) h := w
    cases rv with
    | tup sa la =>
      cases es
      exact call_tuple_of pins s σ H _ us Q I r ⟨_, _, rfl, .inr ⟨sa, w.same (X := X) R (.tup sa la)⟩⟩
    | ref ha =>
      obtain ⟨xs, hxs, lx⟩ := R.sql es ha
      exact call_tuple_of pins s σ H _ us Q I r ⟨_, _, rfl, .inl ⟨hxs, w.newT (X := X) R lx⟩⟩
    | _ => cases es
theorem call_list_i : CallR X (.type "list") (r1c X.K (bI .list)) := by
  intro pins s σ H xs us Q I r ⟨io, h, v, x, ex, R, rv, w⟩
  subst ex
  cases es : seqI h v with
  | none => exact (show False by simp only [bI, es] at w; exact w).elim
  | some l =>
    simp only [bI, es] at w
    cases rv with
    | tup sa la =>
      cases es
      exact call_list_of pins s σ H _ us Q I r ⟨_, _, rfl, .inr sa, Wv.newL (X := X) w R la⟩
    | ref ha =>
      obtain ⟨xs, hxs, lx⟩ := R.sql es ha
      exact call_list_of pins s σ H _ us Q I r ⟨_, _, rfl, .inl hxs, Wv.newL (X := X) w R lx⟩
    | _ => cases es

/-! ### all, sum, abs, max, min -/
theorem bools_of {l : List IV} {xs : List V} {bs : List Bool} (r : RepL X.K io H l xs) (e : boolsOf l = some bs) : xs = bs.map V.bl := by
  induction l generalizing xs bs with
  | nil => cases r; cases e; rfl
  | cons v l ih =>
    cases r with
    | cons a b =>
      cases a <;> try exact absurd (show (none : Option (List Bool)) = some bs from e) (fun z => nomatch z)
      rename_i k
      have e : (boolsOf l).map (k :: ·) = some bs := e
      cases e2 : boolsOf l with
      | none => rw [e2] at e; cases e
      | some r2 => rw [e2] at e; cases e; rw [ih b e2]; rfl
theorem ints_of {l : List IV} {xs : List V} {ns : List Int} (r : RepL X.K io H l xs) (e : intsOf l = some ns) : xs = ns.map V.int := by
  induction l generalizing xs ns with
  | nil => cases r; cases e; rfl
  | cons v l ih =>
    cases r with
    | cons a b =>
      cases a <;> try exact absurd (show (none : Option (List Int)) = some ns from e) (fun z => nomatch z)
      rename_i k
      have e : (intsOf l).map (k :: ·) = some ns := e
      cases e2 : intsOf l with
      | none => rw [e2] at e; cases e
      | some r2 => rw [e2] at e; cases e; rw [ih b e2]; rfl
theorem lst_of {v : IV} {x : V} {l : List IV} (R : RepH X.K io H h) (r : RepV X.K io H v x) (e : lstOf h v = some l) : ∃ a xs, x = .ref a ∧ SqL X.K H a xs ∧ RepL X.K io H l xs := by
  cases r <;> try exact absurd (show (none : Option (List IV)) = some l from e) (fun z => nomatch z)
  rename_i n a ha
  obtain ⟨xs, h1, h2⟩ := R.sql (show getL h n = some l from e) ha
  exact ⟨a, xs, rfl, h1, h2⟩
theorem maxOf_spec (i : Int) : ∀ r : List Int, maxOf i r ∈ i :: r ∧ ∀ y ∈ i :: r, y ≤ maxOf i r
  | [] => ⟨by simp [maxOf], by simp [maxOf]⟩
  | j :: r => by
    rw [maxOf]
    by_cases hj : j > i
    · rw [if_pos hj]
      obtain ⟨h1, h2⟩ := maxOf_spec j r
      refine ⟨List.mem_cons_of_mem _ h1, fun y hy => ?_⟩
      rcases List.mem_cons.mp hy with rfl | hy
      · have := h2 j List.mem_cons_self; omega
      · exact h2 y hy
    · rw [if_neg hj]
      obtain ⟨h1, h2⟩ := maxOf_spec i r
      refine ⟨?_, fun y hy => ?_⟩
      · rcases List.mem_cons.mp h1 with e | e
        · rw [e]; exact List.mem_cons_self
        · exact List.mem_cons_of_mem _ (List.mem_cons_of_mem _ e)
      · rcases List.mem_cons.mp hy with rfl | hy
        · exact h2 _ List.mem_cons_self
        · rcases List.mem_cons.mp hy with rfl | hy
          · have := h2 i List.mem_cons_self; omega
          · exact h2 y (List.mem_cons_of_mem _ hy)
theorem minOf_spec (i : Int) : ∀ r : List Int, minOf i r ∈ i :: r ∧ ∀ y ∈ i :: r, minOf i r ≤ y
  | [] => ⟨by simp [minOf], by simp [minOf]⟩
  | j :: r => by
    rw [minOf]
    by_cases hj : j < i
    · rw [if_pos hj]
      obtain ⟨h1, h2⟩ := minOf_spec j r
      refine ⟨List.mem_cons_of_mem _ h1, fun y hy => ?_⟩
      rcases List.mem_cons.mp hy with rfl | hy
      · have := h2 j List.mem_cons_self; omega
      · exact h2 y hy
    · rw [if_neg hj]
      obtain ⟨h1, h2⟩ := minOf_spec i r
      refine ⟨?_, fun y hy => ?_⟩
      · rcases List.mem_cons.mp h1 with e | e
        · rw [e]; exact List.mem_cons_self
        · exact List.mem_cons_of_mem _ (List.mem_cons_of_mem _ e)
      · rcases List.mem_cons.mp hy with rfl | hy
        · exact h2 _ List.mem_cons_self
        · rcases List.mem_cons.mp hy with rfl | hy
          · have := h2 i List.mem_cons_self; omega
          · exact h2 y (List.mem_cons_of_mem _ hy)
theorem call_all_i (hc : X.calm = true) : CallR X (.builtin "all") (r1c X.K (bI .all)) := by
  intro pins s σ H xs us Q I r ⟨io, h, v, x, ex, R, rv, w⟩
  subst ex
  cases el : lstOf h v with
  | none => exact (show False by simp only [bI, el] at w; exact w).elim
  | some l =>
    simp only [bI, el] at w
    obtain ⟨z, ez, w⟩ := wpR_opt w
    cases eb : boolsOf l with
    | none => rw [eb] at ez; cases ez
    | some bs =>
      rw [eb] at ez; cases ez
      obtain ⟨a, ys, rfl, hs, lx⟩ := lst_of R rv el
      have := bools_of lx eb
      subst this
      exact cr_all hc pins s σ H _ us Q I r ⟨a, bs, rfl, hs, (show Wv X.K io H Q (.bl (bs.all id)) h from w).same (X := X) R (.bl _)⟩
theorem call_sum_i (hc : X.calm = true) : CallR X (.builtin "sum") (r1c X.K (bI .sum)) := by
  intro pins s σ H xs us Q I r ⟨io, h, v, x, ex, R, rv, w⟩
  subst ex
  cases el : lstOf h v with
  | none => exact (show False by simp only [bI, el] at w; exact w).elim
  | some l =>
    simp only [bI, el] at w
    obtain ⟨z, ez, w⟩ := wpR_opt w
    cases eb : intsOf l with
    | none => rw [eb] at ez; cases ez
    | some bs =>
      rw [eb] at ez; cases ez
      obtain ⟨a, ys, rfl, hs, lx⟩ := lst_of R rv el
      have := ints_of lx eb
      subst this
      exact cr_sum hc pins s σ H _ us Q I r ⟨a, bs, rfl, hs, (show Wv X.K io H Q (.int bs.sum) h from w).same (X := X) R (.int _)⟩
theorem call_maxl_i (hc : X.calm = true) : CallR X (.builtin "max") (r1c X.K (bI .maxl)) := by
  intro pins s σ H xs us Q I r ⟨io, h, v, x, ex, R, rv, w⟩
  subst ex
  cases el : seqI h v with
  | none => exact (show False by simp only [bI, el] at w; exact w).elim
  | some l =>
    simp only [bI, el] at w
    cases eb : intsOf l with
    | none => exact (show False by simp only [eb] at w; exact w).elim
    | some bs =>
      cases bs with
      | nil => exact (show False by simp only [eb] at w; exact w).elim
      | cons i bs =>
        simp only [eb] at w
        have top : ∀ m, m ∈ i :: bs → (∀ y, y ∈ i :: bs → y ≤ m) → Q (.int m) H := fun m hm hle => by
          obtain ⟨g1, g2⟩ := maxOf_spec i bs
          have e : m = maxOf i bs := by have := hle _ g1; have := g2 _ hm; omega
          subst e
          exact (show Wv X.K io H Q (.int (maxOf i bs)) h from w).same (X := X) R (.int _)
        cases rv <;> try exact absurd (show (none : Option (List IV)) = some l from el) (fun z => nomatch z)
        · rename_i l' a xs hs lx
          have el' : l' = l := Option.some.inj el
          subst el'
          have := ints_of lx eb
          subst this
          exact PZ.cr_maxT hc pins s σ H _ us Q I r ⟨a, i :: bs, rfl, hs, by simp, top⟩
        · rename_i n a ha
          obtain ⟨ys, hs, lx⟩ := R.sql (show getL h n = some l from el) ha
          have := ints_of lx eb
          subst this
          exact cr_max hc pins s σ H _ us Q I r ⟨a, i :: bs, rfl, hs, by simp, top⟩
theorem call_minl_i (hc : X.calm = true) : CallR X (.builtin "min") (r1c X.K (bI .minl)) := by
  intro pins s σ H xs us Q I r ⟨io, h, v, x, ex, R, rv, w⟩
  subst ex
  cases el : lstOf h v with
  | none => exact (show False by simp only [bI, el] at w; exact w).elim
  | some l =>
    simp only [bI, el] at w
    cases eb : intsOf l with
    | none => exact (show False by simp only [eb] at w; exact w).elim
    | some bs =>
      cases bs with
      | nil => exact (show False by simp only [eb] at w; exact w).elim
      | cons i bs =>
        simp only [eb] at w
        obtain ⟨a, ys, rfl, hs, lx⟩ := lst_of R rv el
        have := ints_of lx eb
        subst this
        refine cr_min hc pins s σ H _ us Q I r ⟨a, i :: bs, rfl, hs, by simp, fun m hm hle => ?_⟩
        obtain ⟨g1, g2⟩ := minOf_spec i bs
        have e : m = minOf i bs := by have := hle _ g1; have := g2 _ hm; omega
        subst e
        exact (show Wv X.K io H Q (.int (minOf i bs)) h from w).same (X := X) R (.int _)
theorem call_abs_i : CallR X (.builtin "abs") (r1c X.K (bI .abs)) := by
  intro pins s σ H xs us Q I r ⟨io, h, v, x, ex, R, rv, w⟩
  subst ex
  cases rv <;> try exact (show False from w).elim
  rename_i i
  exact call_abs pins s σ H _ us Q I r ⟨i, rfl, (show Wv X.K io H Q (.int (if i < 0 then -i else i)) h from w).same (X := X) R (.int _)⟩

/-! ### repr -/
theorem piled_le_rbs : ∀ (l : List PyData), (∀ d ∈ l, d.shown.length ≤ rb d) → piled (PyData.shownAll l) ≤ rbs l
  | [], _ => Nat.zero_le _
  | d :: r, h => by
    have h1 := h d List.mem_cons_self
    have h2 := piled_le_rbs r fun e he => h e (List.mem_cons_of_mem _ he)
    rw [PyData.shownAll, piled_cons, rbs]
    omega
theorem list_text (ts : List Str) : (listText ts).length ≤ piled ts + 3 := by
  have hX : (listText ts).length = (textFrom 0 "[" ts).length + 1 := by
    show (textFrom 0 "[" ts ++ "]").length = _
    rw [strLen_append]; rfl
  have e1 : ((("[" : String) : Str)).length = 1 := rfl
  cases ts with
  | nil =>
    have e : (textFrom 0 "[" []).length = 1 := rfl
    omega
  | cons t r =>
    have e2 : textFrom 0 "[" (t :: r) = textFrom 1 (("[" : Str) ++ ((if 0 > 0 then ", " else "" : String) : Str) ++ t) r := rfl
    have e3 := textFrom_length_pos r 1 (("[" : Str) ++ ((if 0 > 0 then ", " else "" : String) : Str) ++ t) (by omega)
    have e4 : (("[" : Str) ++ ((if 0 > 0 then ", " else "" : String) : Str) ++ t).length = 1 + t.length := by
      rw [strLen_append, strLen_append]
      show 1 + 0 + t.length = 1 + t.length
      omega
    rw [piled_cons]
    rw [e2, e3, e4] at hX
    omega
mutual
theorem shown_le_rb : ∀ (d : PyData), d.showable = true → d.hasDict = false → d.canLay0 = true → d.shown.length ≤ rb d
  | .none, _, _, _ => by decide
  | .bool b, _, _, _ => by cases b <;> decide
  | .int i, h, _, _ => by
    have h : i.natAbs.log2 < 1920 := by simpa [PyData.showable] using h
    show (Str.ofString (toString i)).length ≤ 1921
    exact int_text_len_1921 h
  | .str x, _, _, hl => by
    show (reprText x).length ≤ 10 * x.length + 4
    refine Nat.le_trans (StrLaws.reprText_len x fun c hc => ?_) (by omega)
    have hx : PyData.strOk x = true := by simpa [PyData.canLay0] using hl
    unfold PyData.strOk at hx
    rw [Array.all_eq_true'] at hx
    have := hx c (by simpa using hc)
    simp at this
    omega
  | .list l, h, hd, hl => by
    have h1 := shownAll_le_rb l (by simpa [PyData.showable] using h) (by simpa [PyData.hasDict] using hd) (by simpa [PyData.canLay0] using hl)
    have h2 := piled_le_rbs l h1
    have h3 := list_text (PyData.shownAll l)
    show (listText (PyData.shownAll l)).length ≤ rbs l + 3
    omega
  | .tuple l, h, hd, hl => by
    have h1 := shownAll_le_rb l (by simpa [PyData.showable] using h) (by simpa [PyData.hasDict] using hd) (by simpa [PyData.canLay0] using hl)
    have h2 := piled_le_rbs l h1
    have h3 := fmt_text (PyData.shownAll l)
    show (tupleText (PyData.shownAll l)).length ≤ rbs l + 3
    omega
  | .dict _, _, hd, _ => by simp [PyData.hasDict] at hd
theorem shownAll_le_rb : ∀ (l : List PyData), PyData.showableAll l = true → PyData.hasDictAll l = false → PyData.canLayAll0 l = true → ∀ d ∈ l, d.shown.length ≤ rb d
  | [], _, _, _ => fun d hd => by cases hd
  | d :: r, h1, h2, h3 => fun e he => by
    rw [PyData.showableAll, Bool.and_eq_true] at h1
    rw [PyData.hasDictAll, Bool.or_eq_false_iff] at h2
    rw [PyData.canLayAll0, Bool.and_eq_true] at h3
    rcases List.mem_cons.mp he with z | z
    · rw [z]; exact shown_le_rb d h1.1 h2.1 h3.1
    · exact shownAll_le_rb r h1.2 h2.2 h3.2 e z
end
mutual
theorem noDict : ∀ {v : IV} {d : PyData}, dataOf v = some d → d.hasDict = false
  | .non, _, e => by cases e; simp [PyData.hasDict]
  | .bl b, _, e => by cases e; simp [PyData.hasDict]
  | .int i, _, e => by cases e; simp [PyData.hasDict]
  | .str x, _, e => by cases e; simp [PyData.hasDict]
  | .rep d, _, e => by simp [dataOf] at e
  | .ref d, _, e => by simp [dataOf] at e
  | .tup l, _, e => by
    rw [dataOf] at e
    cases el : datasOf l with
    | none => rw [el] at e; simp at e
    | some ds => rw [el] at e; cases e; simp only [PyData.hasDict]; exact noDicts el
theorem noDicts : ∀ {l : List IV} {ds : List PyData}, datasOf l = some ds → PyData.hasDictAll ds = false
  | [], _, e => by rw [datasOf] at e; cases e; simp [PyData.hasDictAll]
  | v :: l, _, e => by
    rw [datasOf] at e
    cases e1 : dataOf v with
    | none => rw [e1] at e; cases e
    | some d =>
      rw [e1] at e
      cases e2 : datasOf l with
      | none => rw [e2] at e; cases e
      | some ds =>
        rw [e2] at e; cases e
        rw [PyData.hasDictAll, noDict e1, noDicts e2]; rfl
end
theorem noDictI {v : IV} {d : PyData} (e : dataI h v = some d) : d.hasDict = false := by
  cases v with
  | ref n =>
    unfold dataI at e
    cases el : getL h n with
    | none => simp only [el] at e; cases e
    | some l =>
      simp only [el] at e
      cases e2 : datasOf l with
      | none => rw [e2] at e; simp at e
      | some ds => rw [e2] at e; cases e; simp only [PyData.hasDict]; exact noDicts e2
  | _ => exact noDict e
theorem call_repr_i (hg : X.A.guards = some []) (hu : X.A.units + 100 < cLine) : CallR X (.builtin "repr") (r1c X.K (bI .repr)) := by
  intro pins s σ H xs us Q I r ⟨io, h, v, x, ex, R, rv, w⟩
  subst ex
  cases e : dataI h v with
  | none => exact (show False by simp only [bI, e] at w; exact w).elim
  | some d =>
    simp only [bI, e] at w
    obtain ⟨⟨h1, h2, h3⟩, w⟩ := wpR_ite w
    have w : Wv X.K io H Q (.rep d) h := w
    obtain ⟨hp, hc⟩ := dpI_of R rv e
    have hd := noDictI e
    have hz : d.shown.length ≤ sizeLine := Nat.le_trans (shown_le_rb d h1 hd hc) h3
    have q : Q (.str d.shown) H := w.same (X := X) R (.rep d)
    obtain ⟨u, rfl, ru⟩ := vals1 r
    cases hp with
    | non => cases ru; exact PySem.P.repr_of_none ⟨.str _, H, I.tok _, ⟨_, rfl⟩, q⟩
    | bl b => cases ru; exact PySem.P.repr_of_bool ⟨.str _, H, I.tok _, ⟨_, rfl⟩, q⟩
    | int i => obtain ⟨t, rfl⟩ := ru; exact PySem.P.repr_of_int (by simpa [PyData.showable] using h1) ⟨.str _, H, I.tok _, ⟨_, rfl⟩, q⟩
    | str z => obtain ⟨t, rfl⟩ := ru; exact PySem.P.repr_of_str ⟨.str _, H, I.tok _, ⟨_, rfl⟩, q⟩ hz
    | lst hs ha =>
      obtain ⟨as, rd⟩ := Dp.reads I _ _ _ (.lst hs ha) ru
      cases ru
      exact repr_of_reads' rd h1 (fun z => by rw [hd] at z; cases z) hg (by omega) (fun b o e => e) (fun h' u tk k => ⟨.str _, H, I.kept (t' := tk) k, ⟨_, rfl⟩, q⟩) hz
    | tup hs ha =>
      obtain ⟨as, rd⟩ := Dp.reads I _ _ _ (.tup hs ha) ru
      cases ru
      exact repr_of_reads' rd h1 (fun z => by rw [hd] at z; cases z) hg (by omega) (fun b o e => e) (fun h' u tk k => ⟨.str _, H, I.kept (t' := tk) k, ⟨_, rfl⟩, q⟩) hz

/-! ### methods of lists -/
def r1m (K : PySem.W.Frag) (g : IV → IV → IH → Res IV) : V → List V → Hp → VK → Prop := fun x xs H Q => ∃ io h v w y, xs = [y] ∧ RepH K io H h ∧ RepV K io H v x ∧ RepV K io H w y ∧ wpR (g v w h) (Wv K io H Q)
theorem mt_append_i : MtR X "list.append" (r1m X.K (mI .append)) := by
  intro pins s σ H x xs v us Q I rx rs ⟨io, h, a, b, y, ey, R, ra, rb, w⟩
  subst ey
  cases ra <;> try exact (show False from w).elim
  rename_i n a ha
  cases el : getM h n with
  | none => exact (show False by simp only [mI, el] at w; exact w).elim
  | some l =>
    simp only [mI, el] at w
    obtain ⟨hz, w⟩ := wpR_ite w
    obtain ⟨xs, hx, lx⟩ := R.lst el ha
    have g := R.write el ha (lx.append (.cons rb .nil))
    have w : Wv X.K io H Q .non (setL h n (l ++ [b])) := w
    rw [lx.length] at hz
    exact mt_append pins s σ H _ _ v us Q I rx rs ⟨a, xs, y, rfl, rfl, hx, hz, w _ _ _ g.2 g.1 .non⟩
theorem mt_extend_i : MtR X "list.extend" (r1m X.K (mI .extend)) := by
  intro pins s σ H x xs v us Q I rx rs ⟨io, h, a, b, y, ey, R, ra, rb, w⟩
  subst ey
  cases ra <;> try exact (show False from w).elim
  rename_i n a ha
  cases el : getM h n with
  | none => exact (show False by simp only [mI, el] at w; exact w).elim
  | some l =>
    simp only [mI, el] at w
    cases rb <;> try exact (show False from w).elim
    rename_i m b hb
    cases er : getM h m with
    | none => exact (show False by simp only [er] at w; exact w).elim
    | some r =>
      simp only [er] at w
      obtain ⟨hz, w⟩ := wpR_ite w
      obtain ⟨xs, hx, lx⟩ := R.lst el ha
      obtain ⟨ys, hy, ly⟩ := R.lst er hb
      have g := R.write el ha (lx.append ly)
      have w : Wv X.K io H Q .non (setL h n (l ++ r)) := w
      rw [lx.length, ly.length] at hz
      exact mt_extend pins s σ H _ _ v us Q I rx rs ⟨a, b, xs, ys, rfl, rfl, hx, hy, hz, w _ _ _ g.2 g.1 .non⟩
theorem mt_index_i (hu : X.A.units + 65 < cLine) : MtR X "list.index" (r1m X.K (mI .index)) := by
  intro pins s σ H x xs v us Q I rx rs ⟨io, h, a, b, y, ey, R, ra, rb, w⟩
  subst ey
  cases ra <;> try exact (show False from w).elim
  rename_i n a ha
  cases el : getM h n with
  | none => exact (show False by simp only [mI, el] at w; exact w).elim
  | some l =>
    simp only [mI, el] at w
    cases e1 : dataOf b with
    | none => exact (show False by simp only [e1] at w; exact w).elim
    | some d =>
      cases e2 : datasOf l with
      | none => exact (show False by simp only [e1, e2] at w; exact w).elim
      | some ds =>
        simp only [e1, e2] at w
        obtain ⟨hd, w⟩ := wpR_ite w
        obtain ⟨z, ez, w⟩ := wpR_opt w
        cases ej : ds.findIdx? fun z => PyData.eqv z d with
        | none => rw [ej] at ez; cases ez
        | some j =>
          rw [ej] at ez; cases ez
          obtain ⟨p1, c1⟩ := dp_of rb e1
          obtain ⟨xs, hx, lx⟩ := R.lst el ha
          obtain ⟨p2, c2⟩ := dps_of lx e2
          have s1 : SeqAt.shaped d = true := by unfold SeqAt.shaped; rw [c1, decide_eq_true hd.1]; rfl
          have s2 : SeqAt.shaped (.list ds) = true := by
            have h2 : (PyData.list ds).depth ≤ 64 := by simp only [PyData.depth]; omega
            unfold SeqAt.shaped; rw [decide_eq_true h2]; simp only [PyData.canLay0, c2]; rfl
          rw [List.findIdx?_eq_some_iff_getElem] at ej
          obtain ⟨hj, q1, q2⟩ := ej
          refine mt_indexD hu pins s σ H _ _ v us Q I rx rs ⟨a, y, d, ds, j, ds[j], rfl, rfl, .lst (SqL.of hx) p2, p1, s2, s1, List.getElem?_eq_getElem hj, q1, fun m z' hm ez => ?_, (show Wv X.K io H Q (.int (j : Nat)) h from w).same (X := X) R (.int _)⟩
          have hm2 : m < ds.length := (List.getElem?_eq_some_iff.mp ez).1
          have := q2 m hm
          rw [List.getElem?_eq_getElem hm2] at ez
          cases ez
          simpa using this
/-- o[i] of a list, by values -/
theorem get_list : PGet X (rIxL X.K) := by
  intro pins s σ H x y v u Q I rx ry h
  obtain ⟨p, xs, i, z, rfl, rfl, hq, he, q⟩ := h
  cases rx
  obtain ⟨t, rfl⟩ := ry
  obtain ⟨its, r, pl, hz⟩ := I.list hq
  obtain ⟨j, h1, h2, h3, h4, h5⟩ := atI_get he
  obtain ⟨w, ew, rw'⟩ := r.get h2
  have hl := r.length
  have hn := line63
  have fin : EP X pins σ Q w s := ⟨z, H, I, rw', q⟩
  by_cases h0 : 0 ≤ i
  · have hj : i.toNat = j := by
      rw [seqIndex_of h0 h5] at h1
      exact Option.some.inj h1
    exact wpAny_getItem_list pl.isList h0 (by omega) (by rw [hj]; simpa using ew) fin
  · have hj : (i + (its.toArray.size : Int)).toNat = j := by
      rw [seqIndex_neg (by omega) h4] at h1
      rw [List.size_toArray, ← hl]
      exact Option.some.inj h1
    exact wpAny_getItem_list_neg pl.isList (by omega) (by rw [List.size_toArray] <;> omega) (by omega) (by rw [hj]; simpa using ew) fin
/-- o[i] = v -/
def r3s (K : PySem.W.Frag) : V → V → V → Hp → (Hp → Prop) → Prop := fun o i v H Q => ∃ io h a b c, RepH K io H h ∧ RepV K io H a o ∧ RepV K io H b i ∧ RepV K io H c v ∧
  wpR (setI a b c h) fun _ h' => ∀ io' H', Ext io H io' H' → RepH K io' H' h' → Q H'
theorem set_i : PSet X (r3s X.K) := by
  intro pins s σ H o i v ov iv u Q I ro ri rv ⟨io, h, a, b, c, R, ra, rb, rc, w⟩
  cases ra <;> try exact (show False from w).elim
  rename_i n a ha
  cases rb <;> try exact (show False from w).elim
  rename_i k
  cases el : getM h n with
  | none => exact (show False by simp only [setI, el] at w; exact w).elim
  | some l =>
    simp only [setI, el] at w
    cases ej : ixN l.length k with
    | none => exact (show False by simp only [ej] at w; exact w).elim
    | some j =>
      simp only [ej] at w
      obtain ⟨xs, hx, lx⟩ := R.lst el ha
      have g := R.write el ha (lx.set rc j)
      exact set_list pins s σ H _ _ v ov iv u Q I ro ri rv ⟨a, xs, k, j, rfl, rfl, hx, by rw [← lx.length]; exact ej, w _ _ g.2 g.1⟩
end
end PI

set_option Elab.async false
set_option linter.all false
set_option maxRecDepth 100000
/-! PIt: enumerate(tuple). -/
namespace PySem
open Sem (wp)
open AutoSeq1 (wpAny_loadPart')
open Builtin
section
variable {prog : Program} {w : World} {A : Around} {E : Value → Shared → Prop} {s : Shared}
theorem pi_nextOf_tuple_item {it t : Addr} {i : Nat} {items} {x : Value} {Q : Value → Shared → Prop} (hit : s.heap.IsTupleIter it t i)
    (ht : s.heap.IsTuple t items) (hx : items[i]? = some x)
    (hQ : ∀ h', h'.IsTupleIter it t (i + 1) → Heap.SameBut it s.heap h' → Q x { s with heap := h' }) :
    wpAny (model prog w) A (Builtin.SmallTypes.nextOf (.ref it)) Q E s := by
  obtain ⟨o, ho, hc, hd⟩ := id hit
  obtain ⟨ol, hol, _, nl, hdl⟩ := ht
  unfold Builtin.SmallTypes.nextOf
  refine wpAny_bind (wpAny_callSpecial?_slot (name := Str.ofString "__next__") hit.typeIs F.slot_tuple_iterator_next
    (wpAny_call_entry F.slot_tuple_iterator_next hit.typeIs F.entry_tuple_iterator_next ?_ (F.args_tuple_iterator_next_1 _)))
  show wpAny _ _ (field (.ref it) 0 >>= _) _ _ s
  refine wpAny_bind (wpAny_field ho hd (x := .ref t) rfl ?_)
  show wpAny _ _ (if (Value.ref t == Value.none) = true then _ else _) _ _ s
  rw [if_neg (show ¬ ((Value.ref t == Value.none) = true) from Bool.false_ne_true)]
  show wpAny _ _ (field (.ref it) 1 >>= _) _ _ s
  refine wpAny_bind (wpAny_field ho hd (x := .int i 0) rfl ?_)
  show wpAny _ _ (seqItems? (.ref t) >>= _) _ _ s
  refine wpAny_bind (wpAny_seqItems hol hdl ?_)
  simp only [Int.toNat_natCast, hx]
  refine wpAny_bind (wpAny_setField ho hd (by simp) (wpAny_pure ⟨x, rfl, wpAny_pure (hQ _ ?_ (Heap.SameBut.update ..))⟩))
  exact ⟨_, Heap.get?_update_self _ ho (Obj.isFreed_of_fields (Obj.data_mapFields hd _)), (Obj.cls_mapFields ..).trans hc, by
    rw [Obj.data_mapFields hd]; simp [rawInt]⟩

theorem pi_nextOf_tuple_end {it t : Addr} {i : Nat} {items} {Q : Value → Shared → Prop} (hh : A.handled = none)
    (hit : s.heap.IsTupleIter it t i) (ht : s.heap.IsTuple t items) (hx : items[i]? = none)
    (hE : ∀ h' e, Heap.ExtBut it s.heap h' → (∃ o, h'.get? e = some o ∧ o.cls = .type "StopIteration") → E (.ref e) { s with heap := h' }) :
    wpAny (model prog w) A (Builtin.SmallTypes.nextOf (.ref it)) Q E s := by
  obtain ⟨o, ho, hc, hd⟩ := id hit
  obtain ⟨ol, hol, _, nl, hdl⟩ := ht
  unfold Builtin.SmallTypes.nextOf
  refine wpAny_bind (wpAny_callSpecial?_slot (name := Str.ofString "__next__") hit.typeIs F.slot_tuple_iterator_next
    (wpAny_call_entry F.slot_tuple_iterator_next hit.typeIs F.entry_tuple_iterator_next ?_ (F.args_tuple_iterator_next_1 _)))
  show wpAny _ _ (field (.ref it) 0 >>= _) _ _ s
  refine wpAny_bind (wpAny_field ho hd (x := .ref t) rfl ?_)
  show wpAny _ _ (if (Value.ref t == Value.none) = true then _ else _) _ _ s
  rw [if_neg (show ¬ ((Value.ref t == Value.none) = true) from Bool.false_ne_true)]
  show wpAny _ _ (field (.ref it) 1 >>= _) _ _ s
  refine wpAny_bind (wpAny_field ho hd (x := .int i 0) rfl ?_)
  show wpAny _ _ (seqItems? (.ref t) >>= _) _ _ s
  refine wpAny_bind (wpAny_seqItems hol hdl ?_)
  simp only [Int.toNat_natCast, hx]
  refine wpAny_bind (wpAny_rule (wpAny_bind (wpAny_setField ho hd (by simp) ?_)))
  show wpAny _ _ (newExc (.type "StopIteration") [] >>= _) _ _ _
  refine wpAny_bind ?_
  simp only [newExc, newTuple]
  refine wpAny_bind (wpAny_newObj_type ?_ (by size_fits))
  refine wpAny_bind (m := firstArgMember _ _) (wpAny_of_eq (a := Value.none) (by first | rfl | (simp only [firstArgMember]; rfl)) ?_)
  refine wpAny_newObj_type ?_ (by size_fits)
  simp only [raiseNew]
  refine wpAny_bind (wpAny_handled ?_)
  first | rw [show A.in1.handled = none from hh] | rw [hh]
  refine wpAny_bind (wpAny_pure (wpAny_throw ?_))
  exact hE _ _ (((Heap.SameBut.update ..).extBut.push _).push _) ⟨_, Heap.get?_push_size _ rfl, rfl⟩
end
theorem pi_draws_tuple {prog : Program} {w : World} {A : Around} (hh : A.handled = none) (it l : Addr) (hne : l ≠ it) (items : Array Value) :
    Draws prog w A it [it, l] items.size (fun i v => items[i]? = some v) (fun i h => h.IsTupleIter it l i ∧ h.IsTuple l items) where
  live := fun _ _ st => let ⟨o, ho, _⟩ := st.1; ⟨o, ho⟩
  frame := fun _ _ _ st hk => ⟨st.1.at fun o e => hk it (by simp) o e, let ⟨o, e, r⟩ := st.2; ⟨o, hk l (by simp) o e, r⟩⟩
  item := fun i s Q E hi st hQ => by
    refine pi_nextOf_tuple_item st.1 st.2 (x := items[i]) (by simp [hi]) fun h' hit' hs' => ?_
    exact hQ _ h' s.toks (by simp [hi]) ⟨hit', st.2.extBut hs'.extBut hne⟩ hs'
  done := fun s Q E st hE => pi_nextOf_tuple_end hh st.1 st.2 (by simp) hE

theorem pi_meets_enumerate_newT (l : Addr) (items : Array Value) (n : Nat) (dct : Option Addr) (sl : Array (Option Value)) :
    Meets (Builtin.«enumerate.__new__» ⟨[.type "enumerate", .ref l], []⟩) (fun _ R s => s.heap.get? l = some { cls := .type "tuple", dict := dct, data := .seq items n, slots := sl } ∧
      R (.ok (.ret (.ref (s.heap.push { cls := .type "tuple_iterator", data := .fields #[.ref l, .int 0 0] }).objs.size)))
        { s with heap := (s.heap.push { cls := .type "tuple_iterator", data := .fields #[.ref l, .int 0 0] }).push { cls := .type "enumerate", data := .fields #[.none, .bool false, .ref s.heap.objs.size, rawInt 0, .none, .none] } }) :=
  .of_wp fun prog w A R s h => by
    obtain ⟨hp, g, d, tk, os⟩ := s; obtain ⟨hl, h⟩ := h
    have hsub := sub_enumerate
    have hL : Heap.IsTuple (Shared.heap ⟨hp, g, d, tk, os⟩) l items := ⟨_, hl, rfl, n, rfl⟩
    wp_walk using wpAny_loadPart' hl
    refine wpAny_stack_any fun st => wpAny_pure ?_
    split
    · rename_i c _ _ _ _ _
      cases (c == Value.type "enumerate")
      · wp_walk using wpAny_loadPart' hl, wpAny_pyIter_tuple hL
        exact ⟨_, rfl, h⟩
      · wp_walk using wpAny_loadPart' hl, wpAny_pyIter_tuple hL
        exact ⟨_, rfl, h⟩
    · wp_walk using wpAny_loadPart' hl, wpAny_pyIter_tuple hL
      exact ⟨_, rfl, h⟩
section
variable {prog : Program} {w : World} {A : Around} {E : Value → Shared → Prop} {s : Shared}
theorem pi_call_enumerate_tuple {l : Addr} {items : Array Value} {Q : Value → Shared → Prop} (hL : s.heap.IsTuple l items)
    (h : ∀ h', IsEnum h' (s.heap.objs.size + 1) s.heap.objs.size 0 .none → h'.IsTupleIter s.heap.objs.size l 0 → h'.objs.size = s.heap.objs.size + 2 →
      (∀ b o, s.heap.get? b = some o → h'.get? b = some o) → Q (.ref (s.heap.objs.size + 1)) { s with heap := h' }) :
    wpAny (model prog w) A (call (.type "enumerate") [.ref l]) Q E s := by
  obtain ⟨⟨c, dct, dt, sl⟩, hl, hc, n, hd⟩ := hL
  replace hc : c = .type "tuple" := hc
  replace hd : dt = .seq items n := hd
  subst hc hd
  refine callType_new F.called_enumerate (by decide) (F.typeCall_enumerate_1 _) (F.newCall_enumerate_1 _) (fun obj => F.args_object_init_2 obj _) F.entry_enumerate_new
    (pi_meets_enumerate_newT l items n dct sl) ⟨hl, ?_⟩
  have hz : (s.heap.push { cls := .type "tuple_iterator", data := .fields #[.ref l, .int 0 0] }).objs.size = s.heap.objs.size + 1 := Heap.size_push ..
  show _ ∧ _
  rw [hz]
  have he : IsEnum ((s.heap.push { cls := .type "tuple_iterator", data := .fields #[.ref l, .int 0 0] }).push
      { cls := .type "enumerate", data := .fields #[.none, .bool false, .ref s.heap.objs.size, rawInt 0, .none, .none] }) (s.heap.objs.size + 1) s.heap.objs.size 0 .none := by
    have := Heap.get?_push_size (s.heap.push { cls := .type "tuple_iterator", data := .fields #[.ref l, .int 0 0] })
      (o := { cls := .type "enumerate", data := .fields #[.none, .bool false, .ref s.heap.objs.size, rawInt 0, .none, .none] }) rfl
    rw [hz] at this; exact this
  refine ⟨⟨_, he, rfl⟩, h _ he ⟨_, Heap.get?_push_of_some _ (Heap.get?_push_size _ rfl), rfl, rfl⟩ (by rw [Heap.size_push, hz]) fun b o x => Heap.get?_push_of_some _ (Heap.get?_push_of_some _ x)⟩
end
end PySem
namespace PI
open PySem PySem.Spec PyProof.Rows L2
def IteT (K : PySem.W.Frag) (a : Addr) : It :=
  ⟨fun i H => ∃ (xs : List V) (x : V), SqT K H a xs ∧ xs[i]? = some x, fun i H v H' => ∃ T x, v = .ref T ∧ H T = none ∧ H' = upd H T (.tup [.int (i : Nat), x]) ∧ ∀ xs, SqT K H a xs → xs[i]? = some x, fun i H => ∃ xs : List V, SqT K H a xs ∧ xs.length ≤ i⟩
theorem turn_enumT {P : Program} {w : World} {K : PySem.W.Frag} {elts : List Expr} {kk : Nat} {tpos : Pos} (a e it : Addr) (hai : a ≠ it) (hae : a ≠ e) :
    Turn P w K (.Tuple elts kk tpos) (IteT K a) [e, it] e (fun i h => (∃ old, IsEnum h e it ((i : Nat) : Int) old) ∧ h.IsTupleIter it a i ∧ e ≠ it) where
  mem := by simp
  obj := fun i h st b hb => by
    obtain ⟨⟨old, he⟩, ⟨o, ho, hc, hd⟩, _⟩ := st
    have e' : b = e ∨ b = it := by simpa using hb
    rcases e' with z | z
    · rw [z]; exact ⟨_, he, fun v q => nomatch q⟩
    · rw [z]; exact ⟨o, ho, fun v q => by rw [hd] at q; cases q⟩
  keep := fun i h h' st k => let ⟨⟨old, he⟩, hi, hne⟩ := st; ⟨⟨old, k e (by simp) _ he⟩, hi.at fun o q => k it (by simp) o q, hne⟩
  item := by
    intro X hP hw hK hc i pins s σ H E I hf st hg
    subst hP hw hK
    obtain ⟨⟨old, he⟩, hit, hne⟩ := st
    obtain ⟨xs, x, hq, hx⟩ := hg
    obtain ⟨its, rv, p, hz⟩ := I.tuple hq
    obtain ⟨u, hu, ru⟩ := rv.get hx
    have hel : e < s.heap.objs.size := Heap.lt_size he
    have hil : it < s.heap.objs.size := by obtain ⟨_, q, _⟩ := hit; exact Heap.lt_size q
    have hi : i < its.toArray.size := by
      have := (List.getElem?_eq_some_iff.mp hu).1
      simpa using this
    have hT : s.heap.IsTuple a its.toArray := p
    refine wpAny_pyNext_enum_itemD (pi_draws_tuple (show X.A.in1.handled = none from I.ok.hd hc) it a hai its.toArray) he ⟨hit, hT⟩ hi hne (by simp [hne, Ne.symm hae]) fun y h' tk hy ho hst hT hsz hk => ?_
    have ey : y = u := by
      have h1 : its.toArray[i]? = some u := by simpa using hu
      exact Option.some.inj (hy.symm.trans h1)
    subst ey
    refine ⟨_, rfl, wpAny_letOwnedTupleGo_enum (s := { s with heap := h', toks := tk + 1 }) ho fun h'' he' sb => ?_⟩
    have hT2 : h''.get? s.heap.objs.size = some { cls := .type "tuple", data := .seq #[.int i tk, y] } := (sb.2 _ (Nat.ne_of_gt hel)).trans hT
    have new : ObjOk X.prog X.w (upd H s.heap.objs.size (.tup [.int (i : Nat), x])) h'' s.heap.objs.size (.tup [.int (i : Nat), x]) :=
      ⟨by show 2 ≤ sizeLine; decide, [.int i tk, y], .cons ⟨_, rfl⟩ (.cons ru .nil), ⟨_, hT2, rfl, _, rfl⟩⟩
    have I1 : Inv X pins σ (upd H s.heap.objs.size (.tup [.int (i : Nat), x])) { s with heap := h'', toks := tk + 1 } :=
      I.turnedNew (ch := [e, it]) (fun b ob hb q => (sb.2 b (fun z => hb (by simp [z]))).trans (hk b ob (fun z => hb (by simp [z])) (fun z => hb (by simp [z])) q)) hf (Nat.le_refl _) new
    refine ⟨.ref s.heap.objs.size, _, I1, rfl, ⟨_, x, rfl, I.hok.fresh (Nat.le_refl _), rfl, fun ys hy => by rw [I.tuple_inj hy hq]; exact hx⟩, ⟨⟨y, ?_⟩, hst.1.at fun o q => (sb.2 it (Ne.symm hne)).trans q, hne⟩, fun b hb => ?_⟩
    · have e1 : ((i + 1 : Nat) : Int) = (i : Int) + 1 := by omega
      rw [e1]; exact he'
    · have hb' : b < s.heap.objs.size := by
        have e' : b = e ∨ b = it := by simpa using hb
        rcases e' with z | z
        · rw [z]; exact hel
        · rw [z]; exact hil
      rw [upd_ne (Nat.ne_of_lt hb')]
      exact (hf b hb).1
  done := by
    intro X hP hw hK hc i pins s σ H E I hf st hg
    subst hP hw hK
    obtain ⟨⟨old, he⟩, hit, hne⟩ := st
    obtain ⟨xs, hq, hx⟩ := hg
    obtain ⟨its, rv, p, hz⟩ := I.tuple hq
    obtain ⟨f0, f1, f2, f3, f4, f5⟩ := hf it (by simp)
    have hl := rv.length
    have hT : s.heap.IsTuple a its.toArray := p
    have hT0 : s.TypeIs (.ref e) "enumerate" := ⟨_, he, rfl⟩
    unfold pyNext
    refine wpAny_bind (wpAny_attempt (wpAny_callSpecial?_slot (name := Str.ofString "__next__") hT0 PySem.F.slot_enumerate_next
      (wpAny_call_entry PySem.F.slot_enumerate_next hT0 PySem.F.entry_enumerate_next ?_ (PySem.F.args_enumerate_next_1 _))))
    show wpAny _ _ (field (.ref e) 2 >>= _) _ _ _
    refine wpAny_bind (wpAny_field he rfl (x := .ref it) rfl ?_)
    refine wpAny_bind (pi_nextOf_tuple_end (show X.A.in1.handled = none from I.ok.hd hc) hit hT (by simp; omega) fun h' x he' hx' => ?_)
    obtain ⟨o, ho, hc'⟩ := hx'
    refine wpAny_bind (wpAny_isInstance (T := "StopIteration") (b := true) ⟨o, ho, hc'⟩ isSubtype_stop ?_)
    exact wpAny_pure ⟨rfl, I.turned (t' := s.toks) (fun b o hb q => he' b o hb q) f0 f1 f3 f4 f5⟩
  self := fun A i s Q E st h => let ⟨⟨_, he⟩, _⟩ := st; wpAny_pyIter_enum he h
/-- enumerate of a list or a tuple -/
def iEnumA (K : PySem.W.Frag) (te : TE) : TI := fun σ H R => te σ H fun x H1 => ∃ a xs, x = .ref a ∧ ((SqL K H1 a xs ∧ R (Ite K a) H1) ∨ (SqT K H1 a xs ∧ R (IteT K a) H1))
theorem pi_enumA {X : Cx} {e : Expr} {te : TE} {p pos tpos : Pos} {elts : List Expr} {kk : Nat} (hg : Gl X "enumerate") (hm : X.mg "enumerate" = none) (he : PE X e te) (hs : starEach [e] X.env = [(false, eval e X.env)]) :
    PI X (.Tuple elts kk tpos) (.Call (.Name "enumerate" p) [e] [] pos) (iEnumA X.K te) := by
  refine ⟨fun pins s σ H R I h => ?_⟩
  have ha : PA X [e] (tCons te tNil) := pa_cons he pa_nil hs
  refine Call_ (ld_blt I hg hm boot_enumerate (PyProof.Rows.callWith_type1 (thn (ha.run pos pins s σ H (fun vs H1 => match vs with
      | [x] => ∃ a xs, x = .ref a ∧ ((SqL X.K H1 a xs ∧ R (Ite X.K a) H1) ∨ (SqT X.K H1 a xs ∧ R (IteT X.K a) H1))
      | _ => False) I h) fun us s1 ⟨vs, H1, I1, r1, q1⟩ => ?_) hs rfl))
  cases vs with
  | nil => exact q1.elim
  | cons x0 vr =>
  cases vr with
  | cons _ _ => exact q1.elim
  | nil =>
  obtain ⟨a, xs, ex, q1⟩ := q1
  subst ex
  cases r1 with
  | cons r rr =>
    cases rr
    cases r
    rcases q1 with ⟨hq, q⟩ | ⟨hq, q⟩
    · obtain ⟨its, rv, p', hz⟩ := I1.list hq
      refine call_enumerate_list p'.isList fun h' he hit hsz hk => wpAny_pyIter_enum he ?_
      have I2 : Inv X pins σ H1 { s1 with heap := h' } := I1.kept (t' := s1.toks) hk
      refine ⟨s1.heap.objs.size + 1, [s1.heap.objs.size + 1, s1.heap.objs.size], _, _, H1, rfl, I2, turn_enum a (s1.heap.objs.size + 1) s1.heap.objs.size, ⟨⟨.none, he⟩, hit, Nat.succ_ne_self _⟩, fun b hb => ?_, q⟩
      have e' : b = s1.heap.objs.size + 1 ∨ b = s1.heap.objs.size := by simpa using hb
      have hle : s1.heap.objs.size ≤ b := by
        rcases e' with z | z
        · rw [z]; exact Nat.le_add_right _ _
        · rw [z]; exact Nat.le_refl _
      exact I1.fpOk hle (I1.hok.fresh hle)
    · obtain ⟨its, rv, p', hz⟩ := I1.tuple hq
      have hT : s1.heap.IsTuple a its.toArray := p'
      have hlt : a < s1.heap.objs.size := by obtain ⟨_, q, _⟩ := p'; exact Heap.lt_size q
      refine pi_call_enumerate_tuple hT fun h' he hit hsz hk => wpAny_pyIter_enum he ?_
      have I2 : Inv X pins σ H1 { s1 with heap := h' } := I1.kept (t' := s1.toks) hk
      refine ⟨s1.heap.objs.size + 1, [s1.heap.objs.size + 1, s1.heap.objs.size], _, _, H1, rfl, I2, turn_enumT a (s1.heap.objs.size + 1) s1.heap.objs.size (Nat.ne_of_lt hlt) (Nat.ne_of_lt (Nat.lt_succ_of_lt hlt)), ⟨⟨.none, he⟩, hit, Nat.succ_ne_self _⟩, fun b hb => ?_, q⟩
      have e' : b = s1.heap.objs.size + 1 ∨ b = s1.heap.objs.size := by simpa using hb
      have hle : s1.heap.objs.size ≤ b := by
        rcases e' with z | z
        · rw [z]; exact Nat.le_add_right _ _
        · rw [z]; exact Nat.le_refl _
      exact I1.fpOk hle (I1.hok.fresh hle)
/-- a list or a tuple walked -/
def iSeqA (K : PySem.W.Frag) (te : TE) : TI := fun σ H R => te σ H fun x H1 => ∃ a xs, x = .ref a ∧ ((SqL K H1 a xs ∧ R (Itl K a) H1) ∨ (SqT K H1 a xs ∧ R (Itt K a) H1))
theorem pi_seqA {X : Cx} {tg l : Expr} {tl : TE} (hl : PE X l tl) : PI X tg l (iSeqA X.K tl) := by
  refine ⟨fun pins s σ H R I h => ?_⟩
  refine thn (hl.run pins s σ H _ I h) fun v s1 ⟨x, H1, I1, r1, q1⟩ => ?_
  obtain ⟨a, xs, e, q1⟩ := q1
  subst e
  cases r1
  rcases q1 with ⟨hq, q⟩ | ⟨hq, q⟩
  · obtain ⟨its, rv, p, hz⟩ := I1.list hq
    refine wpAny_pyIter_list p.isList ?_
    refine ⟨s1.heap.objs.size, [s1.heap.objs.size], _, _, H1, rfl, I1.kept (t' := s1.toks) fun b o e => Heap.get?_push_of_some _ e, turn_list a _, ⟨_, Heap.get?_push_size _ rfl, rfl, rfl⟩, fun b hb => ?_, q⟩
    have e : b = s1.heap.objs.size := by simpa using hb
    subst e
    exact I1.fpOk (Nat.le_refl _) (I1.hok.fresh (Nat.le_refl _))
  · obtain ⟨its, rv, p, hz⟩ := I1.tuple hq
    refine wpAny_pyIter_tuple (show s1.heap.IsTuple a its.toArray from p) ?_
    refine ⟨s1.heap.objs.size, [s1.heap.objs.size], _, _, H1, rfl, I1.kept (t' := s1.toks) fun b o e => Heap.get?_push_of_some _ e, turn_tuple a _, ⟨_, Heap.get?_push_size _ rfl, rfl, rfl⟩, fun b hb => ?_, q⟩
    have e : b = s1.heap.objs.size := by simpa using hb
    subst e
    exact I1.fpOk (Nat.le_refl _) (I1.hok.fresh (Nat.le_refl _))
end PI

set_option Elab.async false
set_option linter.all false
set_option maxRecDepth 100000
/-! PIf: the readings, what is walked, arguments. -/
namespace PI
open PySem PySem.Spec PyProof.Rows L2

structure RepS (K : PySem.W.Frag) (io : List Addr) (H : Hp) (σ : Lo) (S : L2.St) : Prop where
  len : σ.length = S.length
  get : ∀ (i : Nat) (v : IV), σ[i]? = some (some v) → ∃ x, S[i]? = some (some x) ∧ RepV K io H v x
section
variable {K : PySem.W.Frag} {io io' : List Addr} {H H' : Hp} {σ : Lo} {S : L2.St}
theorem RepS.mono (r : RepS K io H σ S) (E : Ext io H io' H') : RepS K io' H' σ S := ⟨r.len, fun i v e => let ⟨x, h1, h2⟩ := r.get i v e; ⟨x, h1, h2.mono E⟩⟩
theorem RepS.set (r : RepS K io H σ S) {v : IV} {x : V} (rv : RepV K io H v x) (i : Nat) : RepS K io H (σ.set i (some v)) (S.set i (some x)) := by
  refine ⟨by simp [r.len], fun j w e => ?_⟩
  by_cases hj : i = j
  · subst hj
    by_cases hi : i < σ.length
    · rw [List.getElem?_set_self hi] at e
      cases e
      exact ⟨x, List.getElem?_set_self (by rw [← r.len]; exact hi), rv⟩
    · rw [List.getElem?_eq_none (by simpa using hi)] at e; cases e
  · rw [List.getElem?_set_ne hj] at e
    rw [List.getElem?_set_ne hj]
    exact r.get j w e
theorem RepS.wipe1 (r : RepS K io H σ S) (i : Nat) : RepS K io H (σ.set i none) (S.set i none) := by
  refine ⟨by simp [r.len], fun j w e => ?_⟩
  by_cases hj : i = j
  · subst hj
    by_cases hi : i < σ.length
    · rw [List.getElem?_set_self hi] at e; cases e
    · rw [List.getElem?_eq_none (by simpa using hi)] at e; cases e
  · rw [List.getElem?_set_ne hj] at e
    rw [List.getElem?_set_ne hj]
    exact r.get j w e
theorem RepS.wipe (r : RepS K io H σ S) : ∀ vs : List Nat, RepS K io H (wipeI σ vs) (L2.wipe S vs)
  | [] => r
  | v :: vs => by
    unfold wipeI L2.wipe
    exact (RepS.wipe r vs).wipe1 v
end

/-! ### the readings -/
def tI (K : PySem.W.Frag) (F : Fn) (e : E) : TE := fun S H Q => ∃ io σ h, RepS K io H σ S ∧ RepH K io H h ∧ wpR (evalE F e σ h) (Wv K io H Q)
def Wb (K : PySem.W.Frag) (io : List Addr) (H : Hp) (Q : Bool → Hp → Prop) : IV → IH → Prop := fun v h' => ∃ b, v = .bl b ∧ ∀ io' H', Ext io H io' H' → RepH K io' H' h' → Q b H'
def tT (K : PySem.W.Frag) (F : Fn) (e : E) : TT := fun S H Q => ∃ io σ h, RepS K io H σ S ∧ RepH K io H h ∧ wpR (evalE F e σ h) (Wb K io H Q)
def tAs (K : PySem.W.Frag) (F : Fn) (e : E) : TA := fun S H Q => ∃ io σ h, RepS K io H σ S ∧ RepH K io H h ∧ wpR (evalEs F e σ h) fun vs h' => ∀ io' H' xs, Ext io H io' H' → RepH K io' H' h' → RepL K io' H' vs xs → Q xs H'
def tPa (K : PySem.W.Frag) (F : Fn) (e : E) : TO := fun S H Q => ∃ io σ h, RepS K io H σ S ∧ RepH K io H h ∧ wpR (evalP F e σ h) fun o h' => ∀ io' H', Ext io H io' H' → RepH K io' H' h' → Q o H'
def tBs (K : PySem.W.Frag) (F : Fn) (e : E) : TT := fun S H Q => ∃ io σ h, RepS K io H σ S ∧ RepH K io H h ∧ wpR (evalB F e σ h) fun b h' => ∀ io' H', Ext io H io' H' → RepH K io' H' h' → Q b H'

/-! ### what is walked -/
def kdOf : IV → Bool
  | .tup _ => true
  | _ => false
theorem seqV {K : PySem.W.Frag} {io : List Addr} {H : Hp} {h : IH} {v : IV} {l : List IV} {a : Addr} (R : RepH K io H h) (r : RepV K io H v (.ref a)) (e : seqI h v = some l) : ∃ xs, PZ.SqV (kdOf v) K H a xs ∧ RepL K io H l xs := by
  cases r with
  | tup s la => cases e; exact ⟨_, s, la⟩
  | ref ha =>
    obtain ⟨xs, h1, h2⟩ := R.sql e ha
    exact ⟨xs, h1, h2⟩
inductive ItRel (K : PySem.W.Frag) (io : List Addr) (H : Hp) : ItS → Nat → It → Prop
  | lref {n i : Nat} {a : Addr} : io[n]? = some a → ItRel K io H (.lref n i) i (Itl K a)
  | items {l all : List IV} {xs : List V} {a : Addr} {i : Nat} : SqT K H a xs → RepL K io H all xs → l = all.drop i → ItRel K io H (.items l) i (Itt K a)
  | range {lo cur : Int} {n N i : Nat} : cur = lo + i → i + n = N → ItRel K io H (.range cur n) i (Itr lo N)
  | elref {n i : Nat} {a : Addr} : io[n]? = some a → ItRel K io H (.elref n i) i (Ite K a)
  | eitems {l all : List IV} {xs : List V} {a : Addr} {i : Nat} : SqT K H a xs → RepL K io H all xs → l = all.drop i → ItRel K io H (.eitems i l) i (IteT K a)
  | zip {st : Bool} {v w : IV} {i : Nat} {a b : Addr} : RepV K io H v (.ref a) → RepV K io H w (.ref b) → ItRel K io H (.zip st v w i) i (PZ.ItzK st (kdOf v) (kdOf w) K a b)
theorem ItRel.mono {K : PySem.W.Frag} {io io' : List Addr} {H H' : Hp} {st : ItS} {i : Nat} {J : It} (r : ItRel K io H st i J) (E : Ext io H io' H') : ItRel K io' H' st i J := by
  cases r with
  | lref h => exact .lref (E.get h)
  | items s l e => exact .items (E.kp.sqt s) (l.mono E) e
  | range h1 h2 => exact .range h1 h2
  | elref h => exact .elref (E.get h)
  | eitems s l e => exact .eitems (E.kp.sqt s) (l.mono E) e
  | zip a b => exact .zip (a.mono E) (b.mono E)
theorem drop_nil {α : Type} {l : List α} {i : Nat} (h : ([] : List α) = l.drop i) : l.length ≤ i := by
  have := congrArg List.length h
  rw [List.length_drop] at this
  simp at this
  omega
theorem drop_cons {α : Type} {l r : List α} {v : α} {i : Nat} (h : v :: r = l.drop i) : l[i]? = some v ∧ r = l.drop (i + 1) := by
  have hi : i < l.length := by
    have := congrArg List.length h
    rw [List.length_drop] at this
    simp at this
    omega
  rw [List.drop_eq_getElem_cons hi] at h
  injection h with h1 h2
  exact ⟨by rw [List.getElem?_eq_getElem hi, h1], h2⟩
def NextRel (K : PySem.W.Frag) (io : List Addr) (H : Hp) (h : IH) (i : Nat) (J : It) : Option (IV × ItS) → Prop
  | none => J.stop i H
  | some (v, st') => J.go i H ∧ ∀ x H', J.yld i H x H' → Ext io H io H' ∧ RepH K io H' h ∧ RepV K io H' v x ∧ ItRel K io H' st' (i + 1) J
theorem ItRel.step {K : PySem.W.Frag} {io : List Addr} {H : Hp} {h : IH} {st : ItS} {i : Nat} {J : It} (R : RepH K io H h) (r : ItRel K io H st i J) {o : Option (IV × ItS)} (e : st.next h = some o) : NextRel K io H h i J o := by
  have newT : ∀ {T : Addr} {ys : List V} {l : List IV}, H T = none → RepL K io H l ys → Ext io H io (upd H T (.tup ys)) ∧ RepH K io (upd H T (.tup ys)) h ∧ RepV K io (upd H T (.tup ys)) (.tup l) (.ref T) := fun {T ys l} hT rl =>
    have E : Ext io H io (upd H T (.tup ys)) := ⟨⟨[], by simp⟩, Kp.new hT⟩
    ⟨E, R.newO hT, .tup (SqT.of upd_same) (rl.mono E)⟩
  cases r with
  | lref ha =>
    rename_i n a
    cases el : getL h n with
    | none => simp only [ItS.next, el] at e; cases e
    | some l =>
      obtain ⟨xs, hx, lx⟩ := R.sql el ha
      cases ev : l[i]? with
      | none =>
        simp only [ItS.next, el, ev] at e; cases e
        exact ⟨xs, hx, by rw [← lx.length]; exact List.getElem?_eq_none_iff.mp ev⟩
      | some v =>
        simp only [ItS.next, el, ev] at e; cases e
        obtain ⟨x, ex, rx⟩ := lx.get ev
        refine ⟨⟨xs, x, hx, ex⟩, fun y H' hy => ?_⟩
        obtain ⟨rfl, hy⟩ := hy
        have : y = x := Option.some.inj ((hy xs hx).symm.trans ex)
        subst this
        exact ⟨Ext.refl _ _, R, rx, .lref ha⟩
  | items s lx ed =>
    rename_i l all xs a
    cases l with
    | nil =>
      cases e
      exact ⟨xs, s, by rw [← lx.length]; exact drop_nil ed⟩
    | cons v r =>
      cases e
      obtain ⟨ev, er⟩ := drop_cons ed
      obtain ⟨x, ex, rx⟩ := lx.get ev
      refine ⟨⟨xs, x, s, ex⟩, fun y H' hy => ?_⟩
      obtain ⟨rfl, hy⟩ := hy
      have : y = x := Option.some.inj ((hy xs s).symm.trans ex)
      subst this
      exact ⟨Ext.refl _ _, R, rx, .items s lx er⟩
  | range h1 h2 =>
    rename_i lo cur n N
    cases n with
    | zero => cases e; exact (show N ≤ i by omega)
    | succ n =>
      cases e
      refine ⟨(show i < N by omega), fun y H' hy => ?_⟩
      obtain ⟨rfl, rfl⟩ := hy
      rw [← h1]
      exact ⟨Ext.refl _ _, R, .int _, .range (by omega) (by omega)⟩
  | elref ha =>
    rename_i n a
    cases el : getL h n with
    | none => simp only [ItS.next, el] at e; cases e
    | some l =>
      obtain ⟨xs, hx, lx⟩ := R.sql el ha
      cases ev : l[i]? with
      | none =>
        simp only [ItS.next, el, ev] at e; cases e
        exact ⟨xs, hx, by rw [← lx.length]; exact List.getElem?_eq_none_iff.mp ev⟩
      | some v =>
        simp only [ItS.next, el, ev] at e; cases e
        obtain ⟨x, ex, rx⟩ := lx.get ev
        refine ⟨⟨xs, x, hx, ex⟩, fun y H' hy => ?_⟩
        obtain ⟨T, z, rfl, hT, rfl, hy⟩ := hy
        have : z = x := Option.some.inj ((hy xs hx).symm.trans ex)
        subst this
        obtain ⟨g1, g2, g3⟩ := newT (l := [.int i, v]) hT (.cons (.int i) (.cons rx .nil))
        exact ⟨g1, g2, g3, .elref (g1.get ha)⟩
  | eitems s lx ed =>
    rename_i l all xs a
    cases l with
    | nil =>
      cases e
      exact ⟨xs, s, by rw [← lx.length]; exact drop_nil ed⟩
    | cons v r =>
      cases e
      obtain ⟨ev, er⟩ := drop_cons ed
      obtain ⟨x, ex, rx⟩ := lx.get ev
      refine ⟨⟨xs, x, s, ex⟩, fun y H' hy => ?_⟩
      obtain ⟨T, z, rfl, hT, rfl, hy⟩ := hy
      have : z = x := Option.some.inj ((hy xs s).symm.trans ex)
      subst this
      obtain ⟨g1, g2, g3⟩ := newT (l := [.int i, v]) hT (.cons (.int i) (.cons rx .nil))
      exact ⟨g1, g2, g3, .eitems (g1.kp.sqt s) (lx.mono g1) er⟩
  | zip ra rb =>
    rename_i st v w a b
    cases el : seqI h v with
    | none => simp only [ItS.next, el] at e; cases e
    | some l =>
      cases er : seqI h w with
      | none => simp only [ItS.next, el, er] at e; cases e
      | some r =>
        obtain ⟨xs, hx, lx⟩ := seqV R ra el
        obtain ⟨ys, hy, ly⟩ := seqV R rb er
        simp only [ItS.next, el, er] at e
        cases ev : l[i]? with
        | none =>
          cases ew : r[i]? with
          | none =>
            simp only [ev, ew] at e; cases e
            refine ⟨xs, ys, hx, hy, ?_⟩
            have h1 : xs.length ≤ i := by rw [← lx.length]; exact List.getElem?_eq_none_iff.mp ev
            have h2 : ys.length ≤ i := by rw [← ly.length]; exact List.getElem?_eq_none_iff.mp ew
            cases st
            · exact Or.inl h1
            · exact ⟨h1, h2⟩
          | some y =>
            simp only [ev, ew] at e
            cases st
            · cases e; exact ⟨xs, ys, hx, hy, Or.inl (by rw [← lx.length]; exact List.getElem?_eq_none_iff.mp ev)⟩
            · cases e
        | some x0 =>
          cases ew : r[i]? with
          | none =>
            simp only [ev, ew] at e
            cases st
            · cases e; exact ⟨xs, ys, hx, hy, Or.inr (by rw [← ly.length]; exact List.getElem?_eq_none_iff.mp ew)⟩
            · cases e
          | some y0 =>
            simp only [ev, ew] at e; cases e
            obtain ⟨x, ex, rx⟩ := lx.get ev
            obtain ⟨y, ey, ry⟩ := ly.get ew
            refine ⟨⟨xs, ys, x, y, hx, hy, ex, ey⟩, fun z H' hz => ?_⟩
            obtain ⟨T, x', y', rfl, hT, rfl, q1, q2⟩ := hz
            have e1 : x' = x := Option.some.inj ((q1 xs hx).symm.trans ex)
            have e2 : y' = y := Option.some.inj ((q2 ys hy).symm.trans ey)
            subst e1 e2
            obtain ⟨g1, g2, g3⟩ := newT (l := [x0, y0]) hT (.cons rx (.cons ry .nil))
            exact ⟨g1, g2, g3, .zip (ra.mono g1) (rb.mono g1)⟩
def tIt (K : PySem.W.Frag) (F : Fn) (e : E) : TI := fun S H R => ∃ io σ h, RepS K io H σ S ∧ RepH K io H h ∧ wpR (evalIt F e σ h) fun st h' => ∀ io' H' J, Ext io H io' H' → RepH K io' H' h' → ItRel K io' H' st 0 J → R J H'

/-! ### weaker readings -/
section
variable {X : Cx}
theorem PE.imp {e : Expr} {t t' : TE} (h : PE X e t) (k : ∀ σ H Q, t' σ H Q → t σ H Q) : PE X e t' := ⟨fun pins s σ H Q I w => h.run pins s σ H Q I (k _ _ _ w)⟩
theorem PT.imp {e : Expr} {t t' : TT} (h : PT X e t) (k : ∀ σ H Q, t' σ H Q → t σ H Q) : PT X e t' := ⟨fun pins s σ H Q I w => h.run pins s σ H Q I (k _ _ _ w)⟩
theorem PW.imp {e : Expr} {t t' : TT} (h : PW X e t) (k : ∀ σ H Q, t' σ H Q → t σ H Q) : PW X e t' := ⟨fun wh pins s σ H Q I w => h.run wh pins s σ H Q I (k _ _ _ w)⟩
theorem PA.imp {e : List Expr} {t t' : TA} (h : PA X e t) (k : ∀ σ H Q, t' σ H Q → t σ H Q) : PA X e t' := ⟨fun pos pins s σ H Q I w => h.run pos pins s σ H Q I (k _ _ _ w)⟩
theorem PO.imp {e : Option Expr} {t t' : TO} (h : PO X e t) (k : ∀ σ H Q, t' σ H Q → t σ H Q) : PO X e t' := ⟨fun pins s σ H Q I w => h.run pins s σ H Q I (k _ _ _ w)⟩
theorem PTs.imp {e : List Expr} {t t' : TT} (h : PTs X e t) (k : ∀ σ H Q, t' σ H Q → t σ H Q) : PTs X e t' := ⟨fun pins s σ H Q I w => h.run pins s σ H Q I (k _ _ _ w)⟩
theorem PI.imp {tg e : Expr} {t t' : TI} (h : PI X tg e t) (k : ∀ σ H Q, t' σ H Q → t σ H Q) : PI X tg e t' := ⟨fun pins s σ H Q I w => h.run pins s σ H Q I (k _ _ _ w)⟩
theorem PG.imp {tg : Expr} {t t' : L2.TG} (h : PG X tg t) (k : ∀ v σ H Q, t' v σ H Q → t v σ H Q) : PG X tg t' := ⟨fun pins s σ H v u Q I r w => h.run pins s σ H v u Q I r (k _ _ _ _ w)⟩
theorem PGs.imp {tg : List Expr} {t t' : L2.TGs} (h : PGs X tg t) (k : ∀ v σ H Q, t' v σ H Q → t v σ H Q) : PGs X tg t' := ⟨fun pins s σ H v u Q I r w => h.run pins s σ H v u Q I r (k _ _ _ _ w)⟩
theorem PS.imp {e : Stmt} {t t' : TS} (h : PS X e t) (k : ∀ D σ H, t' D σ H → t D σ H) : PS X e t' := ⟨fun pins s σ H D I w => h.run pins s σ H D I (k _ _ _ w)⟩
theorem PSs.imp {e : List Stmt} {t t' : TS} (h : PSs X e t) (k : ∀ D σ H, t' D σ H → t D σ H) : PSs X e t' := ⟨fun pins s σ H D I w => h.run pins s σ H D I (k _ _ _ w)⟩
end
end PI

set_option Elab.async false
set_option linter.all false
set_option maxRecDepth 100000
/-! PIg: calls of own defs (where nothing is being shown), the context, the expressions. -/
namespace PI
open PySem PySem.Spec PyProof.Rows L2

/-- FnOk where no guard stands -/
structure FnG (P : Program) (w : World) (K : PySem.W.Frag) (mg : Str → Option Value) (base : Heap) (CX : CXT) (k : Nat) (f : Addr) (fd : FuncData) (ps : List Str) (sp : Sp) : Prop where
  len : ∀ vs H Q E, sp vs H Q E → vs.length = ps.length
  run : ∀ (A : Around) (outer : List Env) (s : Shared) (H : Hp) (args : Args) (us : List Value) (vs : List V) (Q : VK) (E : XK), A.guards = some [] → Room k A → Env0 P w K mg base A outer s H → BindsTo s fd args (ps.zip us) → Vals vs us → sp vs H Q E →
    codeAny (model P w) A (.call (.ref f) args) (CR CX outer P w H s Q E) s
section
variable {X : Cx} {CX : CXT} {k : Nat} {f C : Addr} {fd : FuncData} {ps : List Str} {sp : Sp} {E : XK} {x m : Str} {p pos apos : Pos} {e o : Expr} {es : List Expr} {ta : TE} {t : TA}
theorem run_fnG {pins : List (Addr × Obj)} {σ : L2.St} {H : Hp} {s : Shared} {Q : VK} {us : List Value} {vs : List V} (F : FnG X.prog X.w X.K X.mg X.base CX k f fd ps sp) (hgd : X.A.guards = some []) (hr : Room k X.A) (hb : Binds X.K fd ps []) (hx : Passes CX X E)
    (I : Inv X pins σ H s) (r : Vals vs us) (h : sp vs H Q E) : wpAny (model X.prog X.w) X.A (call (.ref f) us) (EP X pins σ Q) X.xe s := by
  have hl : (us ++ []).length = ps.length := by rw [List.append_nil, ← r.length]; exact F.len _ _ _ _ h
  have hb' := hb s us I.kIn hl
  rw [List.append_nil] at hb'
  refine wpAny_call (codeAny_mono (F.run X.A X.stack s H ⟨us, []⟩ us vs Q E hgd hr I.env0 hb' r h) fun r s' hq => ?_)
  cases r with
  | error e => exact hx pins σ H s e s' I hq
  | ok fl =>
    cases fl with
    | ret u => exact I.after hq
    | next => exact False.elim hq
    | brk => exact False.elim hq
    | cont => exact False.elim hq
def tCallG (sp : Sp) (E : XK) (t : TA) : TE := fun σ H Q => t σ H fun vs H1 => sp vs H1 Q E
theorem pe_callG (F : FnG X.prog X.w X.K X.mg X.base CX k f fd ps sp) (hgd : X.A.guards = some []) (hr : Room k X.A) (hg : Gl X x) (hm : X.mg x = some (.ref f)) (hk : PySem.W.keepIn X.K (.ref f) = true) (hb : Binds X.K fd ps []) (hx : Passes CX X E)
    (ha : PA X (e :: es) t) (hdb : (x == ("__debug__" : Str)) = false) (he : starEach (e :: es) X.env = (false, eval e X.env) :: starEach es X.env) (hpl : (backTo pos (starEach es X.env)).any (·.1) = false) :
    PE X (.Call (.Name x p) (e :: es) [] pos) (tCallG sp E t) := by
  refine ⟨fun pins s σ H Q I h => ?_⟩
  refine wpAny_Call_Name_kw (ld_glob I hg hm ?_ hdb)
  refine PySem.W.callWith_K (h₀ := X.base) I.ok.mod.kin hk (thn (ha.run pos pins s σ H _ I h) fun us s1 ⟨vs, H1, I1, r, q⟩ => ⟨I1.kIn, ?_⟩) he hpl
  exact run_fnG F hgd hr hb hx I1 r q
theorem pe_callG0 (F : FnG X.prog X.w X.K X.mg X.base CX k f fd ps sp) (hgd : X.A.guards = some []) (hr : Room k X.A) (hg : Gl X x) (hm : X.mg x = some (.ref f)) (hk : PySem.W.keepIn X.K (.ref f) = true) (hb : Binds X.K fd ps []) (hx : Passes CX X E)
    (hdb : (x == ("__debug__" : Str)) = false) : PE X (.Call (.Name x p) [] [] pos) (tCallG sp E tNil) := by
  refine ⟨fun pins s σ H Q I h => ?_⟩
  refine wpAny_Call_Name_kw (ld_glob I hg hm ?_ hdb)
  exact PySem.W.callWith_K0 I.kIn hk (run_fnG (us := []) F hgd hr hb hx I .nil h)
end

/-- the promise of the k-th def -/
def spI (K : PySem.W.Frag) (F : Fn) (k : Nat) : Sp := fun vs H Q _ => ∃ io h ws, RepH K io H h ∧ RepL K io H ws vs ∧ wpR (F k ws h) (Wv K io H Q)

/-- the calls of a level are served -/
def Served (P : Program) (w : World) (K : PySem.W.Frag) (mg : Str → Option Value) (base : Heap) (G : List Str) (F : Fn) (n : Nat) : Prop :=
  ∀ (k : Nat) (x : Str), G[k]? = some x → ∃ (f : Addr) (fd : FuncData) (ps : List Str), mg x = some (.ref f) ∧ PySem.W.keepIn K (.ref f) = true ∧ Binds K fd ps [] ∧ FnG P w K mg base CX0 n f fd ps (spI K F k)

def GkOk (mg : Str → Option Value) (x : Str) : GK → Prop
  | .int i => ∃ t, mg x = some (.int i t)
  | .gcd => mg x = some (.builtin "math.gcd")
/-- a context as the small code asks it -/
structure Good (c : Cc) (F : Fn) (n : Nat) (X : Cx) : Prop where
  hN : X.N = c.N
  nd : c.N.Nodup
  sc : X.env.scope = c.sc
  fn : X.fn = c.fn
  calm : X.calm = true
  gd : X.A.guards = some []
  room : Room n X.A
  blt : ∀ x ∈ bltNames, c.G.contains x = false → X.mg x = none
  srv : Served X.prog X.w X.K X.mg X.base c.G F n
  xe : X.xe = fun _ _ => False
  cst : ∀ (x : Str) (k : GK), c.C.lookup x = some k → GkOk X.mg x k
theorem Good.pass {c : Cc} {F : Fn} {n : Nat} {X : Cx} (g : Good c F n X) : PassesOwn (model X.prog X.w) X.A X.env X.xe := by
  rw [g.xe]; exact PassesOwn.never
theorem Good.units {c : Cc} {F : Fn} {n : Nat} {X : Cx} (g : Good c F n X) : X.A.units + 100 < cLine := by
  have := g.room.un; omega
theorem Good.blk {c : Cc} {F : Fn} {n : Nat} {X : Cx} (g : Good c F n X) (s : Shared) (H : Hp) (scope : Scope) (C : Addr) (cl : List (Str × Addr)) (fp : List Addr) : Good (c.blk scope) F n (X.blk s H scope (compEnvC scope cl C X.env) fp) where
  hN := g.hN
  nd := g.nd
  sc := by show relS scope X.env.scope = _; rw [g.sc]; rfl
  fn := rfl
  calm := g.calm
  gd := g.gd
  room := g.room
  blt := g.blt
  srv := g.srv
  xe := rfl
  cst := g.cst

/-! ### names -/
theorem ixOf_get {N : List Str} {x : Str} {i : Nat} (h : ixOf N x = some i) : N[i]? = some x := by
  unfold ixOf at h
  rw [List.findIdx?_eq_some_iff_getElem] at h
  obtain ⟨hi, h1, _⟩ := h
  rw [List.getElem?_eq_getElem hi]
  exact congrArg some (of_decide_eq_true h1)
theorem visB_vis {sc : Scope} {x : Str} (h : visB sc x = true) : Vis sc x := by
  unfold visB at h
  split at h
  · exact .inl (by assumption)
  · exact .inr (.inl (by assumption))
  · exact .inr (.inr (by assumption))
  · cases h
theorem locB_loc {sc : Scope} {x : Str} (h : locB sc x = true) : Loc sc x := by
  unfold locB at h
  split at h
  · exact .inl (by assumption)
  · exact .inr (by assumption)
  · cases h
theorem isLocal_of {sc : Scope} {x : Str} (h : isLocal sc x = true) : sc.names.lookup x = some .local := by
  unfold isLocal at h
  split at h
  · assumption
  · cases h
theorem isGlob_of {sc : Scope} {x : Str} (h : isGlob sc x = true) : sc.names.lookup x = some .globalImplicit := by
  unfold isGlob at h
  split at h
  · assumption
  · cases h
theorem ne_beq {x y : Str} (h : x ≠ y) : (x == y) = false := beq_eq_false_iff_ne.mpr h
section
variable {c : Cc} {F : Fn} {n : Nat} {X : Cx}
theorem slotR_of (g : Good c F n X) {x : Str} {i : Nat} (h : slotR c x = some i) : X.N[i]? = some x ∧ Vis X.env.scope x ∧ (x == ("__debug__" : Str)) = false ∧ (x == ("__classdict__" : Str)) = false := by
  unfold slotR at h
  split at h
  · rename_i hc
    rw [Bool.and_eq_true, Bool.and_eq_true] at hc
    obtain ⟨⟨h1, h2⟩, h3⟩ := hc
    rw [g.hN, g.sc]
    exact ⟨ixOf_get h, visB_vis h1, ne_beq (by simpa using h2), ne_beq (by simpa using h3)⟩
  · cases h
theorem slotW_of (g : Good c F n X) {x : Str} {i : Nat} (h : slotW c x = some i) : X.N[i]? = some x ∧ Loc X.env.scope x ∧ (X.fn x = true ∨ X.env.scope.names.lookup x = some .local) := by
  unfold slotW at h
  split at h
  · rename_i hc
    rw [Bool.and_eq_true, Bool.or_eq_true] at hc
    rw [g.hN, g.sc, g.fn]
    exact ⟨ixOf_get h, locB_loc hc.1, hc.2.imp id isLocal_of⟩
  · cases h

/-! ### targets -/
def gT (K : PySem.W.Frag) (t : TG) : L2.TG := fun x S H Q => ∃ io σ h v σ2, RepS K io H σ S ∧ RepH K io H h ∧ RepV K io H v x ∧ putT t v σ = some σ2 ∧ ∀ S2, RepS K io H σ2 S2 → (∀ vs, (∀ i ∈ slotsT t, i ∈ vs) → wipe S2 vs = wipe S vs) → Q S2 H
def gTs (K : PySem.W.Frag) (t : TG) : L2.TGs := fun xs S H Q => ∃ io σ h vs σ2, RepS K io H σ S ∧ RepH K io H h ∧ RepL K io H vs xs ∧ putTs t vs σ = some σ2 ∧ ∀ S2, RepS K io H σ2 S2 → (∀ vs, (∀ i ∈ slotsTs t, i ∈ vs) → wipe S2 vs = wipe S vs) → Q S2 H
theorem wipe_set {S : L2.St} {i : Nat} {x : Option V} : ∀ {vs : List Nat}, i ∈ vs → wipe (S.set i x) vs = wipe S vs
  | [], h => by cases h
  | v :: vs, h => by
    unfold wipe
    by_cases hv : i ∈ vs
    · rw [wipe_set hv]
    · have e : i = v := by
        rcases List.mem_cons.mp h with e | e
        · exact e
        · exact absurd e hv
      subst e
      have comm : ∀ (ws : List Nat) (T : L2.St), i ∉ ws → wipe (T.set i x) ws = (wipe T ws).set i x := by
        intro ws T hw
        induction ws with
        | nil => rfl
        | cons w ws ih =>
          unfold wipe
          rw [ih fun q => hw (List.mem_cons_of_mem _ q), List.set_comm _ _ fun q => hw (by rw [q]; exact List.mem_cons_self)]
      rw [comm vs S hv, List.set_set]
theorem each_T {m : Nat} {e : Expr} {t : TG} {env : Env} (h : cTG c m e = some t) (es : List Expr) : assignEach (e :: es) env = (false, assign e env) :: assignEach es env := by
  cases e <;> first | rfl | (cases m <;> simp [cTG] at h)
theorem eachs_T {env : Env} : ∀ {m : Nat} {es : List Expr} {t : TG}, cTGs (cTG c m) es = some t → (assignEach es env).length = es.length ∧ (assignEach es env).findIdx? (fun x => x.1) = none
  | m, [], t, h => ⟨rfl, rfl⟩
  | m, e :: es, t, h => by
    simp only [cTGs] at h
    cases et : cTG c m e with
    | none => rw [et] at h; cases h
    | some t1 =>
      cases er : cTGs (cTG c m) es with
      | none => rw [et, er] at h; cases h
      | some r =>
        obtain ⟨h1, h2⟩ := eachs_T (env := env) er
        rw [each_T et es]
        refine ⟨by rw [List.length_cons, List.length_cons, h1], ?_⟩
        rw [List.findIdx?_cons, h2]
        rfl
theorem putTs_len {m : Nat} : ∀ {es : List Expr} {t : TG}, cTGs (cTG c m) es = some t → ∀ {l : List IV} {σ σ2 : Lo}, putTs t l σ = some σ2 → l.length = es.length
  | [], t, h, l, σ, σ2, ep => by
    simp only [cTGs] at h; cases h
    cases l with
    | nil => rfl
    | cons _ _ => cases ep
  | e :: es, t, h, l, σ, σ2, ep => by
    simp only [cTGs] at h
    cases et : cTG c m e with
    | none => rw [et] at h; cases h
    | some t1 =>
      cases er : cTGs (cTG c m) es with
      | none => rw [et, er] at h; cases h
      | some r =>
        rw [et, er] at h; cases h
        cases l with
        | nil => cases ep
        | cons v l =>
          simp only [putTs] at ep
          cases e1 : putT t1 v σ with
          | none => rw [e1] at ep; cases ep
          | some σ1 =>
            rw [e1] at ep
            rw [List.length_cons, List.length_cons, putTs_len er ep]
theorem pgs_T {m : Nat} (ih : ∀ (e : Expr) (t : TG), cTG c m e = some t → PG X e (gT X.K t)) : ∀ (es : List Expr) (t : TG), cTGs (cTG c m) es = some t → PGs X es (gTs X.K t)
  | [], t, h => by
    simp only [cTGs] at h
    cases h
    refine PGs.imp pgs_nil fun xs S H Q w => ?_
    obtain ⟨io, σ, h, vs, σ2, rs, R, rv, ep, q⟩ := w
    cases rv with
    | nil => cases ep; exact ⟨rfl, q _ rs fun _ _ => rfl⟩
    | cons _ _ => cases ep
  | e :: es, t, h => by
    simp only [cTGs] at h
    cases et : cTG c m e with
    | none => rw [et] at h; cases h
    | some t1 =>
      cases er : cTGs (cTG c m) es with
      | none => rw [et, er] at h; cases h
      | some r =>
        rw [et, er] at h; cases h
        refine PGs.imp (pgs_cons (ih e t1 et) (pgs_T ih es r er) (hs := by rw [each_T et es]; rfl)) fun xs S H Q w => ?_
        obtain ⟨io, σ, h, vs, σ2, rs, R, rv, ep, q⟩ := w
        cases rv with
        | nil => cases ep
        | cons ra rb =>
          rename_i v x l xs
          simp only [putTs] at ep
          cases e1 : putT t1 v σ with
          | none => rw [e1] at ep; cases ep
          | some σ1 =>
            rw [e1] at ep
            refine ⟨x, xs, rfl, io, σ, h, v, σ1, rs, R, ra, e1, fun S1 r1 k1 => ⟨io, σ1, h, l, σ2, r1, R, rb, ep, fun S2 r2 k2 => q S2 r2 fun vs hv => ?_⟩⟩
            rw [k2 vs fun i hi => hv i (by rw [slotsTs]; exact List.mem_append_right _ hi), k1 vs fun i hi => hv i (by rw [slotsTs]; exact List.mem_append_left _ hi)]
theorem pg_name_T (g : Good c F n X) {x : Str} {p : Pos} {t : TG} (h : (slotW c x).map TG.name = some t) : PG X (.Name x p) (gT X.K t) := by
  cases es : slotW c x with
  | none => rw [es] at h; cases h
  | some i =>
    rw [es] at h; cases h
    obtain ⟨h1, h2, h3⟩ := slotW_of g es
    refine PG.imp (pg_name (i := i) (by rw [g.hN]; exact g.nd) h1 h2 h3) fun x S H Q w => ?_
    obtain ⟨io, σ, h, v, σ2, rs, R, rv, ep, q⟩ := w
    cases ep
    exact q _ (rs.set rv i) fun vs hv => wipe_set (hv i (by simp [slotsT]))
theorem pg_T (g : Good c F n X) (m : Nat) : ∀ (e : Expr) (t : TG), cTG c m e = some t → PG X e (gT X.K t) := by
  induction m with
  | zero =>
    intro e t h
    simp only [cTG] at h
    split at h
    · exact pg_name_T g h
    · cases h
  | succ m ih =>
    intro e t h
    simp only [cTG] at h
    split at h
    · exact pg_name_T g h
    · rename_i es k p
      cases et : cTGs (cTG c m) es with
      | none => rw [et] at h; cases h
      | some r =>
        rw [et] at h; cases h
        refine PG.imp (pg_tup (n := es.length) g.calm (pgs_T ih es r et) (hn := (eachs_T et).1) (hst := (eachs_T et).2)) fun x S H Q w => ?_
        obtain ⟨io, σ, h, v, σ2, rs, R, rv, ep, q⟩ := w
        cases rv <;> try exact absurd (show (none : Option Lo) = some σ2 from ep) (fun z => nomatch z)
        rename_i l a xs sa la
        have ep : putTs r l σ = some σ2 := ep
        refine ⟨a, xs, rfl, sa, ?_, io, σ, h, l, σ2, rs, R, la, ep, fun S2 r2 k2 => q S2 r2 fun vs hv => k2 vs fun i hi => hv i (by simpa [slotsT] using hi)⟩
        rw [← la.length]
        exact putTs_len et ep
    · cases h
end
end PI

set_option Elab.async false
set_option linter.all false
set_option maxRecDepth 100000
/-! PIh: expressions. -/
namespace PI
open PySem PySem.Spec PyProof.Rows L2
section
variable {c : Cc} {F : Fn} {n : Nat} {X : Cx}

theorem tI_mk {K : PySem.W.Frag} {e : E} {S : L2.St} {H : Hp} {Q : VK} {io σ h} (rs : RepS K io H σ S) (R : RepH K io H h) (w : wpR (evalE F e σ h) (Wv K io H Q)) : tI K F e S H Q := ⟨io, σ, h, rs, R, w⟩
/-- one expression ahead of the rest -/
theorem tI_then {K : PySem.W.Frag} {e : E} {S : L2.St} {H : Hp} {Q : VK} {io σ h} (rs : RepS K io H σ S) (R : RepH K io H h) {P : IV → IH → Prop} (w : wpR (evalE F e σ h) P)
    (k : ∀ v h' io' H' x, P v h' → Ext io H io' H' → RepS K io' H' σ S → RepH K io' H' h' → RepV K io' H' v x → Q x H') : tI K F e S H Q :=
  ⟨io, σ, h, rs, R, wpR_mono w fun v h' p io' H' x E R' r => k v h' io' H' x p E (rs.mono E) R' r⟩
theorem Wv.ext {K : PySem.W.Frag} {io io' : List Addr} {H H' : Hp} {Q : VK} {z : IV} {h : IH} (w : Wv K io H Q z h) (E : Ext io H io' H') : Wv K io' H' Q z h := fun io2 H2 x E2 R r => w io2 H2 x (E.trans E2) R r
theorem Wb.ext {K : PySem.W.Frag} {io io' : List Addr} {H H' : Hp} {Q : Bool → Hp → Prop} {z : IV} {h : IH} (w : Wb K io H Q z h) (E : Ext io H io' H') : Wb K io' H' Q z h :=
  let ⟨b, e, k⟩ := w; ⟨b, e, fun io2 H2 E2 R => k io2 H2 (E.trans E2) R⟩
theorem wv_ext {K : PySem.W.Frag} {io io' : List Addr} {H H' : Hp} {Q : VK} {r : Res IV} (w : wpR r (Wv K io H Q)) (E : Ext io H io' H') : wpR r (Wv K io' H' Q) := wpR_mono w fun _ _ p => p.ext E
theorem wb_ext {K : PySem.W.Frag} {io io' : List Addr} {H H' : Hp} {Q : Bool → Hp → Prop} {r : Res IV} (w : wpR r (Wb K io H Q)) (E : Ext io H io' H') : wpR r (Wb K io' H' Q) := wpR_mono w fun _ _ p => p.ext E
/-- a test from the value -/
theorem pt_of {e : Expr} {ie : E} (h : PE X e (tI X.K F ie)) (he : ∀ whole, isTrue e X.env whole = (do let v ← whole; standAt e.pos; holding [v] (truthy v)) := by intro _; rfl) : PT X e (tT X.K F ie) :=
  PT.imp (pt_val h he) fun S H Q ⟨io, σ, h, rs, R, w⟩ => ⟨io, σ, h, rs, R, wpR_mono w fun v h' ⟨b, ev, k⟩ io' H' x E R' r => by
    subst ev
    cases r
    exact ⟨b, rfl, k io' H' E R'⟩⟩
theorem star_ne {m : Nat} {e : Expr} {ie : E} (h : cE m c e = some ie) (es : List Expr) (env : Env) : starEach (e :: es) env = (false, eval e env) :: starEach es env := by
  cases e <;> first | rfl | (cases m <;> simp [cE] at h)
theorem stars_ne {env : Env} : ∀ {m : Nat} {es : List Expr} {ie : E}, cEs (cE m c) es = some ie → (starEach es env).any (·.1) = false
  | m, [], ie, h => rfl
  | m, e :: es, ie, h => by
    simp only [cEs] at h
    cases e1 : cE m c e with
    | none => rw [e1] at h; cases h
    | some x =>
      cases e2 : cEs (cE m c) es with
      | none => rw [e1, e2] at h; cases h
      | some r =>
        rw [star_ne e1 es env, List.any_cons, stars_ne e2]; rfl
theorem back_any {pos : Pos} {l : List (Bool × Sem Value)} (h : l.any (·.1) = false) : (backTo pos l).any (·.1) = false := by
  unfold backTo
  rw [List.any_map]
  exact h
theorem slicy_plain {b : Expr} (h : slicy b = false) : PlainIx b := by
  intro o i
  cases b <;> first | rfl | exact absurd h (by simp [slicy])
theorem cmp_marks {op : CmpOp} {b : Expr} {o : COp} (h : cCmp op b = some o) : behindInMarks op b = false ∧ op = uCmp o ∧ ∀ op', lastMarks [op', op] [b, b] = false := by
  have h1 : behindInMarks op b = false := by
    cases op <;> first | exact nobehind _ (by decide) (by decide) | (cases b <;> first | rfl | (simp [cCmp] at h))
  refine ⟨h1, ?_, fun op' => h1⟩
  unfold cCmp at h
  split at h <;> cases h <;> rfl
theorem bin_of {op : Operator} {o : BOp} (h : cBin op = some o) : op = uBin o := by
  cases op <;> cases h <;> rfl

theorem strOk_cst {k : Const} {v : CV} (h : cConst k = some v) {j : Nat} {pos : Pos} : PE X (.Constant k j pos) (tI X.K F (.con v)) := by
  have fin : ∀ {x : V} {e : Expr}, PE X e (tC x) → (∀ io H, RepV X.K io H v.v x) → PE X e (tI X.K F (.con v)) := fun p hr =>
    PE.imp p fun S H Q ⟨io, σ, h, rs, R, w⟩ => (show Wv X.K io H Q v.v h from w).same (X := X) R (hr io H)
  cases k with
  | none => cases h; exact fin pe_non fun _ _ => .non
  | bool b => cases h; exact fin pe_bl fun _ _ => .bl b
  | int i => cases h; exact fin pe_int fun _ _ => .int i
  | str s =>
    unfold cConst at h
    by_cases hs : PyData.strOk s = true
    · simp only [hs, if_true] at h; cases h; exact fin pe_str fun _ _ => .str s hs
    · simp only [hs] at h; cases h
  | _ => cases h

/-! ### argument lists, parts, tests -/
theorem pas_of {m : Nat} (ih : ∀ e ie, cE m c e = some ie → PE X e (tI X.K F ie)) : ∀ (es : List Expr) (ie : E), cEs (cE m c) es = some ie → PA X es (tAs X.K F ie)
  | [], ie, h => by
    simp only [cEs] at h; cases h
    exact PA.imp pa_nil fun S H Q ⟨io, σ, h, rs, R, w⟩ => (show ∀ io' H' xs, Ext io H io' H' → RepH X.K io' H' h → RepL X.K io' H' [] xs → Q xs H' from w) io H [] (Ext.refl _ _) R .nil
  | e :: es, ie, h => by
    simp only [cEs] at h
    cases e1 : cE m c e with
    | none => rw [e1] at h; cases h
    | some x =>
      cases e2 : cEs (cE m c) es with
      | none => rw [e1, e2] at h; cases h
      | some r =>
        rw [e1, e2] at h; cases h
        refine PA.imp (pa_cons (ih e x e1) (pas_of ih es r e2) (star_ne e1 es X.env)) fun S H Q ⟨io, σ, h, rs, R, w⟩ => ?_
        rw [evalEs] at w
        refine tI_then rs R (wpR_bind.1 w) fun v h1 io1 H1 y p E1 rs1 R1 ry => ⟨io1, σ, h1, rs1, R1, wpR_mono (wpR_bind.1 p) fun vs h2 q io2 H2 xs E2 R2 rxs => ?_⟩
        exact q io2 H2 (y :: xs) (E1.trans E2) R2 (.cons (ry.mono E2) rxs)
theorem po_of {m : Nat} (ih : ∀ e ie, cE m c e = some ie → PE X e (tI X.K F ie)) (o : Option Expr) (ie : E) (h : cP (cE m c) o = some ie) : PO X o (tPa X.K F ie) := by
  cases o with
  | none =>
    simp only [cP] at h; cases h
    exact PO.imp po_none fun S H Q ⟨io, σ, h, rs, R, w⟩ => (show ∀ io' H', Ext io H io' H' → RepH X.K io' H' h → Q none H' from w) io H (Ext.refl _ _) R
  | some e =>
    simp only [cP] at h
    cases e1 : cE m c e with
    | none => rw [e1] at h; cases h
    | some x =>
      rw [e1] at h; cases h
      refine PO.imp (po_some (ih e x e1)) fun S H Q ⟨io, σ, h, rs, R, w⟩ => ?_
      rw [evalP] at w
      refine tI_then rs R (wpR_bind.1 w) fun v h1 io1 H1 y p E1 rs1 R1 ry => ?_
      cases ry <;> try exact (show False from p).elim
      rename_i i
      exact ⟨i, rfl, (show ∀ io' H', Ext io H io' H' → RepH X.K io' H' h1 → Q (some i) H' from p) io1 H1 E1 R1⟩
theorem pts_of {m : Nat} (ih : ∀ e ie, cE m c e = some ie → PT X e (tT X.K F ie)) (ifs : List Expr) (ie : E) (h : cEs (cE m c) ifs = some ie) (hl : ifs.length ≤ 1) : PTs X ifs (tBs X.K F ie) := by
  cases ifs with
  | nil =>
    simp only [cEs] at h; cases h
    exact PTs.imp pts_nil fun S H Q ⟨io, σ, h, rs, R, w⟩ => (show ∀ io' H', Ext io H io' H' → RepH X.K io' H' h → Q true H' from w) io H (Ext.refl _ _) R
  | cons e es =>
    cases es with
    | cons _ _ => simp at hl
    | nil =>
      simp only [cEs] at h
      cases e1 : cE m c e with
      | none => rw [e1] at h; cases h
      | some x =>
        rw [e1] at h; cases h
        refine PTs.imp (pts_one (ih e x e1)) fun S H Q ⟨io, σ, h, rs, R, w⟩ => ⟨io, σ, h, rs, R, ?_⟩
        rw [evalB] at w
        refine wpR_mono (wpR_bind.1 w) fun v h1 p => ?_
        cases v <;> try exact (show False from p).elim
        rename_i b
        exact ⟨b, rfl, p⟩

/-! ### comprehensions -/
theorem push_of {d : Nat} {D : Addr} {io : List Addr} {H : Hp} {h : IH} {y : IV} {x : V} {P : Unit → IH → Prop} (R : RepH X.K io H h) (hd : io[d]? = some D) (ry : RepV X.K io H y x) (w : wpR (pushD d y h) P) :
    ∃ acc h', H D = some (.lst acc) ∧ acc.length < sizeLine ∧ RepH X.K io (upd H D (.lst (acc ++ [x]))) h' ∧ Ext io H io (upd H D (.lst (acc ++ [x]))) ∧ P () h' := by
  cases el : getM h d with
  | none => exact (show False by simp only [pushD, el] at w; exact w).elim
  | some l =>
    simp only [pushD, el] at w
    obtain ⟨hz, w⟩ := wpR_ite w
    obtain ⟨acc, ha, la⟩ := R.lst el hd
    have g := R.write el hd (la.append (.cons ry .nil))
    exact ⟨acc, _, ha, by rw [← la.length]; exact hz, g.1, g.2, w⟩
theorem lc_body {ifs elt : E} {d : Nat} {D : Addr} {io : List Addr} {H : Hp} {h : IH} {σ : Lo} {S : L2.St} {P : Unit → IH → Prop} {Nx : Hp → Prop} (rs : RepS X.K io H σ S) (R : RepH X.K io H h) (hd : io[d]? = some D)
    (w : wpR ((evalB F ifs σ h).bind fun b h2 => match b with
      | true => (evalE F elt σ h2).bind fun y h3 => pushD d y h3
      | false => .ok () h2) P)
    (k : ∀ io' H' h', Ext io H io' H' → RepH X.K io' H' h' → P () h' → Nx H') :
    tBs X.K F ifs S H fun b H3 => if b = true then tI X.K F elt S H3 fun y H4 => ∃ acc, H4 D = some (.lst acc) ∧ acc.length < sizeLine ∧ Nx (upd H4 D (.lst (acc ++ [y]))) else Nx H3 := by
  refine ⟨io, σ, h, rs, R, wpR_mono (wpR_bind.1 w) fun b h2 p io2 H2 E2 R2 => ?_⟩
  cases b with
  | false => exact iteF (k io2 H2 h2 E2 R2 p)
  | true =>
    refine iteT (tI_then (rs.mono E2) R2 (wpR_bind.1 p) fun v h3 io3 H3 x q E3 rs3 R3 rx => ?_)
    obtain ⟨acc, h', h1, h2, g1, g2, g3⟩ := push_of R3 ((E2.trans E3).get hd) rx q
    exact ⟨acc, h1, h2, k io3 _ h' ((E2.trans E3).trans g2) g1 g3⟩
/-- a comprehension's loop: one turn leads on -/
theorem loopU_w {turn : IV → IH → Res Unit} {J : It} {P : IH → Prop} {Qe : Hp → Prop} {io0 : List Addr} {H0 : Hp} {m0 : Nat} {st0 : ItS} {h0 : IH} {T : Nat → (Hp → Prop) → Prop} {B : V → Hp → (Hp → Prop) → Prop}
    (R0 : RepH X.K io0 H0 h0) (r0 : ItRel X.K io0 H0 st0 0 J) (w0 : wpR (loopU turn m0 st0 h0) fun _ h' => P h')
    (hQ : ∀ io H h, Ext io0 H0 io H → RepH X.K io H h → P h → Qe H)
    (hT : ∀ (v : IV) (x : V) (io : List Addr) (H : Hp) (h : IH) (Pn : Unit → IH → Prop) (Nx : Hp → Prop), Ext io0 H0 io H → RepH X.K io H h → RepV X.K io H v x → wpR (turn v h) Pn → (∀ io' H' h', Ext io H io' H' → RepH X.K io' H' h' → Pn () h' → Nx H') → B x H Nx) :
    ∃ W : Nat → Nat → Hp → Prop, (∃ m, W 0 m H0) ∧ ∀ i m H, W i m H →
      (J.stop i H ∧ Qe H) ∨ (J.go i H ∧ ∃ Nx : Hp → Prop, (∀ H', Nx H' → ∃ m', m' < m ∧ W (i + 1) m' H') ∧ ∀ x H', J.yld i H x H' → B x H' Nx) := by
  refine ⟨fun i m H => ∃ io h st, Ext io0 H0 io H ∧ RepH X.K io H h ∧ ItRel X.K io H st i J ∧ wpR (loopU turn m st h) fun _ h' => P h', ⟨m0, io0, h0, st0, Ext.refl _ _, R0, r0, w0⟩, ?_⟩
  rintro i m H ⟨io, h, st, E, R, r, w⟩
  cases m with
  | zero => exact w.elim
  | succ m =>
    rw [loopU] at w
    cases en : st.next h with
    | none => rw [en] at w; exact w.elim
    | some o =>
      rw [en] at w
      have s := r.step R en
      cases o with
      | none => exact .inl ⟨s, hQ io H h E R w⟩
      | some p =>
        obtain ⟨v, st'⟩ := p
        obtain ⟨hgo, hy⟩ := s
        refine .inr ⟨hgo, fun H' => ∃ io' h', Ext io0 H0 io' H' ∧ RepH X.K io' H' h' ∧ ItRel X.K io' H' st' (i + 1) J ∧ wpR (loopU turn m st' h') fun _ h' => P h', fun H' ⟨io', h', a1, a2, a3, a4⟩ => ⟨m, Nat.lt_succ_self m, io', h', st', a1, a2, a3, a4⟩, fun x H' y => ?_⟩
        obtain ⟨E1, R1, rv, r1⟩ := hy x H' y
        refine hT v x io H' h _ _ (E.trans E1) R1 rv (wpR_bind.1 w) fun io2 H2 h2 E2 R2 p => ?_
        exact ⟨io2, h2, (E.trans E1).trans E2, R2, r1.mono E2, p⟩
end
end PI

set_option Elab.async false
set_option linter.all false
set_option maxRecDepth 100000
/-! PIi: expressions, all. -/
namespace PI
open PySem PySem.Spec PyProof.Rows L2
theorem blk_own {N : List Str} {scope : Scope} : True := trivial
theorem subNat_mem {l r : List Nat} (h : subNat l r = true) : ∀ i ∈ l, i ∈ r := by
  unfold subNat at h
  rw [List.all_eq_true] at h
  intro i hi
  simpa using h i hi
theorem ownOf_ix {N : List Str} {scope : Scope} {p : Str × Nat} (h : p ∈ ownOf N scope) : N[p.2]? = some p.1 := by
  unfold ownOf at h
  rw [List.mem_filterMap] at h
  obtain ⟨y, _, e⟩ := h
  have key : ∀ {o : Option Nat}, o = ixOf N y.1 → (o.map fun i => (y.1, i)) = some p → N[p.2]? = some p.1 := by
    intro o eo e
    cases o with
    | none => cases e
    | some i => cases e; exact ixOf_get eo.symm
  split at e
  · exact key rfl e
  · exact key rfl e
  · cases e
theorem cBI_of {f : Str} {b : BI} (h : cBI f = some b) : f ∈ bltNames ∧ f ≠ "__name__" ∧ (f == ("__debug__" : Str)) = false ∧
    (b = .len ∧ f = "len" ∨ b = .int ∧ f = "int" ∨ b = .tuple ∧ f = "tuple" ∨ b = .list ∧ f = "list" ∨ b = .repr ∧ f = "repr" ∨ b = .all ∧ f = "all" ∨ b = .sum ∧ f = "sum" ∨ b = .abs ∧ f = "abs" ∨ b = .maxl ∧ f = "max" ∨ b = .minl ∧ f = "min") := by
  unfold cBI at h
  repeat (first
    | (cases h; done)
    | (split at h; · (cases h; subst f; exact ⟨by decide, by decide, by decide, by simp⟩)))
theorem cTY_of {f : Str} {b : TY} (h : cTY f = some b) : f ∈ bltNames ∧ f ≠ "__name__" ∧ (f == ("__debug__" : Str)) = false ∧
    (b = .int ∧ f = "int" ∨ b = .bool ∧ f = "bool" ∨ b = .tuple ∧ f = "tuple") := by
  unfold cTY at h
  repeat (first
    | (cases h; done)
    | (split at h; · (cases h; subst f; exact ⟨by decide, by decide, by decide, by simp⟩)))
theorem cB2_of {f : Str} {b : B2} (h : cB2 f = some b) : f ∈ bltNames ∧ f ≠ "__name__" ∧ (f == ("__debug__" : Str)) = false ∧ (b = .max ∧ f = "max" ∨ b = .min ∧ f = "min") := by
  unfold cB2 at h
  split at h
  · cases h; subst f; exact ⟨by decide, by decide, by decide, by simp⟩
  · split at h
    · cases h; subst f; exact ⟨by decide, by decide, by decide, by simp⟩
    · cases h
theorem setty_folded {e : Expr} (h : setty e = false) : ∀ (env : Env) x, foldedSetIterable e env x = pure x := by
  intro env x
  cases e <;> first | rfl | (simp [setty] at h)

section
variable {c : Cc} {F : Fn} {n : Nat} {X : Cx}
abbrev Both (X : Cx) (F : Fn) (e : Expr) (ie : E) : Prop := PE X e (tI X.K F ie) ∧ PT X e (tT X.K F ie)

theorem e_bin (g : Good c F n X) {a b : Expr} {op : Operator} {pos : Pos} {o : BOp} {x y : E} (ho : cBin op = some o) (ha : PE X a (tI X.K F x)) (hb : PE X b (tI X.K F y)) : Both X F (.BinOp a op b pos) (.bin o x y) := by
  rw [bin_of ho]
  have p : PE X (.BinOp a (uBin o) b pos) (tI X.K F (.bin o x y)) := PE.imp (pe_op (op_bin o) ha hb) fun S H Q ⟨io, σ, h, rs, R, w⟩ => by
    rw [evalE] at w
    exact tI_then rs R (wpR_bind.1 w) fun v h1 io1 H1 z p E1 rs1 R1 rz => tI_then rs1 R1 (wpR_bind.1 p) fun u h2 io2 H2 z2 q E2 rs2 R2 rz2 =>
      ⟨io2, h2, v, u, R2, rz.mono E2, rz2, wv_ext q (E1.trans E2)⟩
  exact ⟨p, pt_of p⟩
theorem e_cmp (g : Good c F n X) {a b : Expr} {op : CmpOp} {pos : Pos} {o : COp} {x y : E} (ho : cCmp op b = some o) (ha : PE X a (tI X.K F x)) (hb : PE X b (tI X.K F y)) : Both X F (.Compare a [op] [b] pos) (.cmp o x y) := by
  obtain ⟨hm, eo, _⟩ := cmp_marks ho
  subst eo
  have hu : X.A.units + 65 < cLine := by have := g.units; omega
  have key : ∀ S H (P : V → Hp → Prop) io σ h, RepS X.K io H σ S → RepH X.K io H h → wpR (evalE F (.cmp o x y) σ h) (Wv X.K io H P) → tOp (r2 X.K fun v w h => opt ((cmpI o v w h).map .bl) h) (tI X.K F x) (tI X.K F y) S H P := fun S H P io σ h rs R w => by
    rw [evalE] at w
    exact tI_then rs R (wpR_bind.1 w) fun v h1 io1 H1 z p E1 rs1 R1 rz => tI_then rs1 R1 (wpR_bind.1 p) fun u h2 io2 H2 z2 q E2 rs2 R2 rz2 =>
      ⟨io2, h2, v, u, R2, rz.mono E2, rz2, wv_ext q (E1.trans E2)⟩
  refine ⟨PE.imp (pe_cmpR (op_cmp hu o) ha hb hm) fun S H Q ⟨io, σ, h, rs, R, w⟩ => key S H Q io σ h rs R w, PT.imp (pt_cmpR (op_cmp hu o) ha hb hm) fun S H Q ⟨io, σ, h, rs, R, w⟩ => ?_⟩
  refine key S H _ io σ h rs R (wpR_mono w fun v h' ⟨b, ev, k⟩ io' H' x E R' r => ?_)
  subst ev
  cases r
  exact ⟨b, rfl, k io' H' E R'⟩
theorem e_chain (g : Good c F n X) {a b d : Expr} {o1 o2 : CmpOp} {pos : Pos} {p q : COp} {x y z : E} (h1 : cCmp o1 b = some p) (h2 : cCmp o2 d = some q) (ha : PE X a (tI X.K F x)) (hb : PE X b (tI X.K F y)) (hd : PE X d (tI X.K F z)) :
    Both X F (.Compare a [o1, o2] [b, d] pos) (.chain p q x y z) := by
  obtain ⟨_, eo, _⟩ := cmp_marks h1
  obtain ⟨hm, eo2, _⟩ := cmp_marks h2
  subst eo eo2
  have hu : X.A.units + 65 < cLine := by have := g.units; omega
  have hm2 : lastMarks [uCmp p, uCmp q] [b, d] = false := hm
  have key : ∀ S H (P : V → Hp → Prop) io σ h, RepS X.K io H σ S → RepH X.K io H h → wpR (evalE F (.chain p q x y z) σ h) (Wv X.K io H P) →
      tChain (r2 X.K fun v w h => opt ((cmpI p v w h).map .bl) h) (r2 X.K fun v w h => opt ((cmpI q v w h).map .bl) h) (tI X.K F x) (tI X.K F y) (tI X.K F z) S H P := fun S H P io σ h rs R w => by
    rw [evalE] at w
    refine tI_then rs R (wpR_bind.1 w) fun v h1 io1 H1 zv p1 E1 rs1 R1 rz => tI_then rs1 R1 (wpR_bind.1 p1) fun u h2 io2 H2 z2 p2 E2 rs2 R2 rz2 => ⟨io2, h2, v, u, R2, rz.mono E2, rz2, ?_⟩
    cases ek : cmpI p v u h2 with
    | none => simp only [ek] at p2; exact p2.elim
    | some k =>
      simp only [ek] at p2 ⊢
      show Wv X.K io2 H2 _ (.bl k) h2
      intro io3 H3 x3 E3 R3 r3
      cases r3
      refine ⟨k, rfl, ?_⟩
      cases k with
      | false =>
        refine iteF ?_
        exact (show Wv X.K io H P (.bl false) h2 from p2) io3 H3 _ ((E1.trans E2).trans E3) R3 (.bl false)
      | true =>
        refine iteT (tI_then (rs2.mono E3) R3 (wpR_bind.1 p2) fun u3 h4 io4 H4 z4 q4 E4 rs4 R4 rz4 => ⟨io4, h4, u, u3, R4, (rz2.mono E3).mono E4, rz4, ?_⟩)
        exact wv_ext q4 (((E1.trans E2).trans E3).trans E4)
  refine ⟨PE.imp (pe_chain (op_cmp hu p) (op_cmp hu q) ha hb hd hm2) fun S H Q ⟨io, σ, h, rs, R, w⟩ => key S H Q io σ h rs R w, PT.imp (pt_chain (op_cmp hu p) (op_cmp hu q) ha hb hd hm2) fun S H Q ⟨io, σ, h, rs, R, w⟩ => ?_⟩
  refine key S H _ io σ h rs R (wpR_mono w fun v h' ⟨b, ev, k⟩ io' H' x E R' r => ?_)
  subst ev
  cases r
  exact ⟨b, rfl, k io' H' E R'⟩
theorem e_not {a : Expr} {pos : Pos} {x : E} (h : Both X F a x) : Both X F (.UnaryOp .Not a pos) (.un .not x) := by
  refine ⟨PE.imp (pe_not h.1) fun S H Q ⟨io, σ, hh, rs, R, w⟩ => ?_, PT.imp (pt_not h.2) fun S H Q ⟨io, σ, hh, rs, R, w⟩ => ?_⟩
  · rw [evalE] at w
    refine tI_then rs R (wpR_bind.1 w) fun v h1 io1 H1 z p E1 rs1 R1 rz => ?_
    cases rz <;> try exact (show False from p).elim
    rename_i b
    exact ⟨b, rfl, (show Wv X.K io H Q (.bl (!b)) h1 from p) io1 H1 _ E1 R1 (.bl _)⟩
  · rw [evalE] at w
    refine ⟨io, σ, hh, rs, R, wpR_mono (wpR_bind.1 w) fun v h1 p => ?_⟩
    cases v <;> try exact (show False from p).elim
    rename_i b
    obtain ⟨b', e, k⟩ := (show Wb X.K io H Q (.bl (!b)) h1 from p)
    cases e
    exact ⟨b, rfl, k⟩
theorem e_neg {a : Expr} {pos : Pos} {x : E} (h : PE X a (tI X.K F x)) : Both X F (.UnaryOp .USub a pos) (.un .neg x) := by
  have p : PE X (.UnaryOp .USub a pos) (tI X.K F (.un .neg x)) := PE.imp (pe_un un_neg h) fun S H Q ⟨io, σ, hh, rs, R, w⟩ => by
    rw [evalE] at w
    refine tI_then rs R (wpR_bind.1 w) fun v h1 io1 H1 z p E1 rs1 R1 rz => ?_
    cases rz <;> try exact (show False from p).elim
    rename_i i
    exact ⟨i, rfl, (show Wv X.K io H Q (.int (-i)) h1 from p) io1 H1 _ E1 R1 (.int _)⟩
  exact ⟨p, pt_of p⟩
theorem e_and {a b : Expr} {r : List Expr} {pos : Pos} {x y : E} (h : Both X F a x) (h1 : PE X (.BoolOp .And (b :: r) pos) (tI X.K F y)) (h2 : PW X (.BoolOp .And (b :: r) pos) (tT X.K F y)) :
    PE X (.BoolOp .And (a :: b :: r) pos) (tI X.K F (.and x y)) ∧ PW X (.BoolOp .And (a :: b :: r) pos) (tT X.K F (.and x y)) := by
  refine ⟨PE.imp (pe_and h.1 h1) fun S H Q ⟨io, σ, hh, rs, R, w⟩ => ?_, PW.imp (pw_and h.2 h2) fun S H Q ⟨io, σ, hh, rs, R, w⟩ => ?_⟩
  · rw [evalE] at w
    refine tI_then rs R (wpR_bind.1 w) fun v h1 io1 H1 z p E1 rs1 R1 rz => ?_
    cases rz <;> try exact (show False from p).elim
    rename_i b
    refine ⟨b, rfl, ?_⟩
    cases b with
    | true => exact iteT (tI_mk rs1 R1 (wv_ext p E1))
    | false => exact iteF ((show Wv X.K io H Q (.bl false) h1 from p) io1 H1 _ E1 R1 (.bl _))
  · rw [evalE] at w
    refine ⟨io, σ, hh, rs, R, wpR_mono (wpR_bind.1 w) fun v h1 p => ?_⟩
    cases v <;> try exact (show False from p).elim
    rename_i b
    refine ⟨b, rfl, fun io1 H1 E1 R1 => ?_⟩
    cases b with
    | true => exact iteT ⟨io1, σ, h1, rs.mono E1, R1, wb_ext p E1⟩
    | false =>
      obtain ⟨b', e, k⟩ := (show Wb X.K io H Q (.bl false) h1 from p)
      cases e
      exact iteF (k io1 H1 E1 R1)
theorem e_or {a b : Expr} {r : List Expr} {pos : Pos} {x y : E} (h : Both X F a x) (h1 : PE X (.BoolOp .Or (b :: r) pos) (tI X.K F y)) (h2 : PW X (.BoolOp .Or (b :: r) pos) (tT X.K F y)) :
    PE X (.BoolOp .Or (a :: b :: r) pos) (tI X.K F (.or x y)) ∧ PW X (.BoolOp .Or (a :: b :: r) pos) (tT X.K F (.or x y)) := by
  refine ⟨PE.imp (pe_or h.1 h1) fun S H Q ⟨io, σ, hh, rs, R, w⟩ => ?_, PW.imp (pw_or h.2 h2) fun S H Q ⟨io, σ, hh, rs, R, w⟩ => ?_⟩
  · rw [evalE] at w
    refine tI_then rs R (wpR_bind.1 w) fun v h1 io1 H1 z p E1 rs1 R1 rz => ?_
    cases rz <;> try exact (show False from p).elim
    rename_i b
    refine ⟨b, rfl, ?_⟩
    cases b with
    | false => exact iteF (tI_mk rs1 R1 (wv_ext p E1))
    | true => exact iteT ((show Wv X.K io H Q (.bl true) h1 from p) io1 H1 _ E1 R1 (.bl _))
  · rw [evalE] at w
    refine ⟨io, σ, hh, rs, R, wpR_mono (wpR_bind.1 w) fun v h1 p => ?_⟩
    cases v <;> try exact (show False from p).elim
    rename_i b
    refine ⟨b, rfl, fun io1 H1 E1 R1 => ?_⟩
    cases b with
    | false => exact iteF ⟨io1, σ, h1, rs.mono E1, R1, wb_ext p E1⟩
    | true =>
      obtain ⟨b', e, k⟩ := (show Wb X.K io H Q (.bl true) h1 from p)
      cases e
      exact iteT (k io1 H1 E1 R1)
theorem e_ite {t a b : Expr} {pos : Pos} {x y z : E} (ht : PT X t (tT X.K F x)) (ha : Both X F a y) (hb : Both X F b z) : Both X F (.IfExp t a b pos) (.ite x y z) := by
  refine ⟨PE.imp (pe_ifExp ht ha.1 hb.1) fun S H Q ⟨io, σ, hh, rs, R, w⟩ => ?_, ⟨fun pins s S H Q I ⟨io, σ, hh, rs, R, w⟩ => ?_⟩⟩
  · rw [evalE] at w
    refine ⟨io, σ, hh, rs, R, wpR_mono (wpR_bind.1 w) fun v h1 p => ?_⟩
    cases v <;> try exact (show False from p).elim
    rename_i b
    refine ⟨b, rfl, fun io1 H1 E1 R1 => ?_⟩
    cases b with
    | true => exact iteT (tI_mk (rs.mono E1) R1 (wv_ext p E1))
    | false => exact iteF (tI_mk (rs.mono E1) R1 (wv_ext p E1))
  · rw [evalE] at w
    have q : tT X.K F x S H fun d H1 => if d = true then tT X.K F y S H1 Q else tT X.K F z S H1 Q := by
      refine ⟨io, σ, hh, rs, R, wpR_mono (wpR_bind.1 w) fun v h1 p => ?_⟩
      cases v <;> try exact (show False from p).elim
      rename_i b
      refine ⟨b, rfl, fun io1 H1 E1 R1 => ?_⟩
      cases b with
      | true => exact iteT ⟨io1, σ, h1, rs.mono E1, R1, wb_ext p E1⟩
      | false => exact iteF ⟨io1, σ, h1, rs.mono E1, R1, wb_ext p E1⟩
    refine isTrue_IfExp (thn (ht.run pins s S H _ I q) fun d s1 ⟨H1, I1, q1⟩ => ?_)
    cases d with
    | true => exact ha.2.run pins s1 S H1 Q I1 q1
    | false => exact hb.2.run pins s1 S H1 Q I1 q1
theorem e_tup {es : List Expr} {k : Nat} {pos : Pos} {x : E} (h : PA X es (tAs X.K F x)) : Both X F (.Tuple es k pos) (.tup x) := by
  have p : PE X (.Tuple es k pos) (tI X.K F (.tup x)) := PE.imp (pe_tup h) fun S H Q ⟨io, σ, hh, rs, R, w⟩ => by
    rw [evalE] at w
    refine ⟨io, σ, hh, rs, R, wpR_mono (wpR_bind.1 w) fun vs h1 p io1 H1 xs E1 R1 rx => ?_⟩
    obtain ⟨hz, p⟩ := wpR_ite p
    have p : Wv X.K io H Q (.tup vs) h1 := p
    exact ⟨by rw [← rx.length]; exact hz, (p.ext E1).newT (X := X) R1 rx⟩
  exact ⟨p, pt_of p⟩
theorem e_lst {es : List Expr} {pos : Pos} {x : E} (h : PA X es (tAs X.K F x)) : Both X F (.List es pos) (.lst x) := by
  have p : PE X (.List es pos) (tI X.K F (.lst x)) := PE.imp (pe_lst h) fun S H Q ⟨io, σ, hh, rs, R, w⟩ => by
    rw [evalE] at w
    refine ⟨io, σ, hh, rs, R, wpR_mono (wpR_bind.1 w) fun vs h1 p io1 H1 xs E1 R1 rx => ?_⟩
    obtain ⟨hz, p⟩ := wpR_ite p
    exact ⟨by rw [← rx.length]; exact hz, Wv.newL (X := X) (wv_ext p E1) R1 rx⟩
  exact ⟨p, pt_of p⟩
theorem e_sub {a b : Expr} {pos : Pos} {x y : E} (hs : slicy b = false) (ha : PE X a (tI X.K F x)) (hb : PE X b (tI X.K F y)) : Both X F (.Subscript a b pos) (.sub x y) := by
  have p : PE X (.Subscript a b pos) (tI X.K F (.sub x y)) := PE.imp (pe_ix ix_sub ha hb (slicy_plain hs)) fun S H Q ⟨io, σ, h, rs, R, w⟩ => by
    rw [evalE] at w
    exact tI_then rs R (wpR_bind.1 w) fun v h1 io1 H1 z p E1 rs1 R1 rz => tI_then rs1 R1 (wpR_bind.1 p) fun u h2 io2 H2 z2 q E2 rs2 R2 rz2 =>
      ⟨io2, h2, v, u, R2, rz.mono E2, rz2, wv_ext q (E1.trans E2)⟩
  exact ⟨p, pt_of p⟩
theorem e_slice {a : Expr} {lo hi : Option Expr} {pos p2 : Pos} {x y z : E} (ha : PE X a (tI X.K F x)) (hl : PO X lo (tPa X.K F y)) (hh : PO X hi (tPa X.K F z)) : Both X F (.Subscript a (.Slice lo hi none p2) pos) (.slice x y z) := by
  have p : PE X (.Subscript a (.Slice lo hi none p2) pos) (tI X.K F (.slice x y z)) := PE.imp (pe_slice sl_slice ha hl hh) fun S H Q ⟨io, σ, h, rs, R, w⟩ => by
    rw [evalE] at w
    refine tI_then rs R (wpR_bind.1 w) fun v h1 io1 H1 zv p E1 rs1 R1 rz => ⟨io1, σ, h1, rs1, R1, wpR_mono (wpR_bind.1 p) fun l h2 q io2 H2 E2 R2 => ⟨io2, σ, h2, rs1.mono E2, R2, wpR_mono (wpR_bind.1 q) fun u h3 q3 io3 H3 E3 R3 => ?_⟩⟩
    exact ⟨io3, h3, v, R3, (rz.mono E2).mono E3, wv_ext q3 ((E1.trans E2).trans E3)⟩
  exact ⟨p, pt_of p⟩
theorem e_call (g : Good c F n X) {f : Str} {p pos : Pos} {es : List Expr} {k : Nat} {x : E} (hg : isGlob c.sc f = true) (hd : f ≠ "__debug__") (hk : ixOf c.G f = some k) (ha : PA X es (tAs X.K F x))
    (hx : es = [] → x = .nil) (hst : ∀ e r, es = e :: r → starEach (e :: r) X.env = (false, eval e X.env) :: starEach r X.env ∧ (starEach r X.env).any (·.1) = false) : Both X F (.Call (.Name f p) es [] pos) (.call k x) := by
  obtain ⟨fa, fd, ps, hm, hkp, hb, FG⟩ := g.srv k f (ixOf_get hk)
  have hG : Gl X f := by show X.env.scope.names.lookup f = _; rw [g.sc]; exact isGlob_of hg
  have hdb : (f == ("__debug__" : Str)) = false := ne_beq hd
  have key : ∀ S H Q, tI X.K F (.call k x) S H Q → tAs X.K F x S H fun vs H1 => spI X.K F k vs H1 Q E0 := fun S H Q ⟨io, σ, h, rs, R, w⟩ => by
    rw [evalE] at w
    exact ⟨io, σ, h, rs, R, wpR_mono (wpR_bind.1 w) fun vs h1 p io1 H1 xs E1 R1 rx => ⟨io1, h1, vs, R1, rx, wv_ext p E1⟩⟩
  have q : PE X (.Call (.Name f p) es [] pos) (tI X.K F (.call k x)) := by
    cases es with
    | nil =>
      refine PE.imp (pe_callG0 FG g.gd g.room hG hm hkp hb pass0 hdb) fun S H Q w => ?_
      obtain ⟨io, σ, h, rs, R, w⟩ := key S H Q w
      rw [hx rfl] at w
      exact (show ∀ io' H' xs, Ext io H io' H' → RepH X.K io' H' h → RepL X.K io' H' [] xs → spI X.K F k xs H' Q E0 from w) io H [] (Ext.refl _ _) R .nil
    | cons e r =>
      obtain ⟨h1, h2⟩ := hst e r rfl
      exact PE.imp (pe_callG FG g.gd g.room hG hm hkp hb pass0 ha hdb h1 (back_any h2)) key
  exact ⟨q, pt_of q⟩
theorem e_bi (g : Good c F n X) {f : Str} {p pos : Pos} {a : Expr} {b : BI} {x : E} (hg : isGlob c.sc f = true) (hG : c.G.contains f = false) (hb : cBI f = some b) (ha : PE X a (tI X.K F x)) (hs : ∀ env, starEach [a] env = [(false, eval a env)]) :
    Both X F (.Call (.Name f p) [a] [] pos) (.bcall b (.cons x .nil)) := by
  obtain ⟨h1, h2, h3, h4⟩ := cBI_of hb
  have hgl : Gl X f := by show X.env.scope.names.lookup f = _; rw [g.sc]; exact isGlob_of hg
  have hm := g.blt f h1 hG
  have hpa : PA X [a] (tCons (tI X.K F x) tNil) := pa_cons ha pa_nil (hs X.env)
  have key : ∀ S H Q, tI X.K F (.bcall b (.cons x .nil)) S H Q → tCB (r1c X.K (bI b)) (tCons (tI X.K F x) tNil) S H Q := fun S H Q ⟨io, σ, h, rs, R, w⟩ => by
    simp only [evalE, evalEs] at w
    refine tI_then rs R (wpR_bind.1 (wpR_bind.1 w)) fun v h1 io1 H1 z p E1 rs1 R1 rz => ?_
    exact ⟨io1, h1, v, z, rfl, R1, rz, wv_ext (show wpR (bI b v h1) (Wv X.K io H Q) from p) E1⟩
  have q : PE X (.Call (.Name f p) [a] [] pos) (tI X.K F (.bcall b (.cons x .nil))) := by
    rcases h4 with ⟨rfl, rfl⟩ | ⟨rfl, rfl⟩ | ⟨rfl, rfl⟩ | ⟨rfl, rfl⟩ | ⟨rfl, rfl⟩ | ⟨rfl, rfl⟩ | ⟨rfl, rfl⟩ | ⟨rfl, rfl⟩ | ⟨rfl, rfl⟩ | ⟨rfl, rfl⟩
    · exact PE.imp (pe_callB call_len_i hgl hm PySem.boot_len hpa (by decide) h3 (hs X.env) rfl) key
    · exact PE.imp (pe_callTy call_int_i hgl hm PyProof.Rows.boot_int hpa (by decide) h3 (hs X.env) rfl) key
    · exact PE.imp (pe_callTy call_tuple_i hgl hm PyProof.Rows.boot_tuple hpa (by decide) h3 (hs X.env) rfl) key
    · exact PE.imp (pe_callTy call_list_i hgl hm PyProof.Rows.boot_list hpa (by decide) h3 (hs X.env) rfl) key
    · exact PE.imp (pe_callB (call_repr_i g.gd g.units) hgl hm PyProof.Rows.boot_repr hpa (by decide) h3 (hs X.env) rfl) key
    · exact PE.imp (pe_callB (call_all_i g.calm) hgl hm (by decide +kernel) hpa (by decide) h3 (hs X.env) rfl) key
    · exact PE.imp (pe_callB (call_sum_i g.calm) hgl hm (by decide +kernel) hpa (by decide) h3 (hs X.env) rfl) key
    · exact PE.imp (pe_callB call_abs_i hgl hm (by decide +kernel) hpa (by decide) h3 (hs X.env) rfl) key
    · exact PE.imp (pe_callB (call_maxl_i g.calm) hgl hm PyProof.Rows.boot_max hpa (by decide) h3 (hs X.env) rfl) key
    · exact PE.imp (pe_callB (call_minl_i g.calm) hgl hm PyProof.Rows.boot_min hpa (by decide) h3 (hs X.env) rfl) key
  exact ⟨q, pt_of q⟩
theorem e_bi2 (g : Good c F n X) {f : Str} {p pos : Pos} {a d : Expr} {b : B2} {x y : E} (hg : isGlob c.sc f = true) (hG : c.G.contains f = false) (hb : cB2 f = some b) (ha : PE X a (tI X.K F x)) (hd : PE X d (tI X.K F y))
    (hs : starEach [a, d] X.env = (false, eval a X.env) :: starEach [d] X.env) (hs2 : starEach [d] X.env = [(false, eval d X.env)]) :
    Both X F (.Call (.Name f p) [a, d] [] pos) (.bcall2 b x y) := by
  obtain ⟨h1, h2, h3, h4⟩ := cB2_of hb
  have hgl : Gl X f := by show X.env.scope.names.lookup f = _; rw [g.sc]; exact isGlob_of hg
  have hm := g.blt f h1 hG
  have hpa : PA X [a, d] (tCons (tI X.K F x) (tCons (tI X.K F y) tNil)) := pa_cons ha (pa_cons hd pa_nil hs2) hs
  have hany : (starEach [d] X.env).any (·.1) = false := by rw [hs2]; rfl
  have q : PE X (.Call (.Name f p) [a, d] [] pos) (tI X.K F (.bcall2 b x y)) := by
    rcases h4 with ⟨rfl, rfl⟩ | ⟨rfl, rfl⟩
    · refine PE.imp (pe_callB (call_max2 g.calm) hgl hm PyProof.Rows.boot_max hpa (by decide) h3 hs (back_any hany)) fun S H Q ⟨io, σ, h, rs, R, w⟩ => ?_
      rw [evalE] at w
      refine tI_then rs R (wpR_bind.1 w) fun v h1 io1 H1 z p E1 rs1 R1 rz => tI_then rs1 R1 (wpR_bind.1 p) fun u h2 io2 H2 z2 q E2 rs2 R2 rz2 => ?_
      cases v <;> try exact (show False from q).elim
      cases u <;> try exact (show False from q).elim
      cases rz
      cases rz2
      exact ⟨_, _, rfl, (show Wv X.K io H Q _ _ from q) io2 H2 _ (E1.trans E2) R2 (.int _)⟩
    · refine PE.imp (pe_callB (call_min2 g.calm) hgl hm PyProof.Rows.boot_min hpa (by decide) h3 hs (back_any hany)) fun S H Q ⟨io, σ, h, rs, R, w⟩ => ?_
      rw [evalE] at w
      refine tI_then rs R (wpR_bind.1 w) fun v h1 io1 H1 z p E1 rs1 R1 rz => tI_then rs1 R1 (wpR_bind.1 p) fun u h2 io2 H2 z2 q E2 rs2 R2 rz2 => ?_
      cases v <;> try exact (show False from q).elim
      cases u <;> try exact (show False from q).elim
      cases rz
      cases rz2
      exact ⟨_, _, rfl, (show Wv X.K io H Q _ _ from q) io2 H2 _ (E1.trans E2) R2 (.int _)⟩
  exact ⟨q, pt_of q⟩
theorem e_gcd (g : Good c F n X) {f : Str} {p pos : Pos} {a d : Expr} {x y : E} (hg : isGlob c.sc f = true) (hd' : f ≠ "__debug__") (hk : c.C.lookup f = some .gcd) (ha : PE X a (tI X.K F x)) (hd : PE X d (tI X.K F y))
    (hs : starEach [a, d] X.env = (false, eval a X.env) :: starEach [d] X.env) (hs2 : starEach [d] X.env = [(false, eval d X.env)]) :
    Both X F (.Call (.Name f p) [a, d] [] pos) (.bcall2 .gcd x y) := by
  have hgl : Gl X f := by show X.env.scope.names.lookup f = _; rw [g.sc]; exact isGlob_of hg
  have hm : X.mg f = some (.builtin "math.gcd") := g.cst f _ hk
  have hpa : PA X [a, d] (tCons (tI X.K F x) (tCons (tI X.K F y) tNil)) := pa_cons ha (pa_cons hd pa_nil hs2) hs
  have hany : (starEach [d] X.env).any (·.1) = false := by rw [hs2]; rfl
  have q : PE X (.Call (.Name f p) [a, d] [] pos) (tI X.K F (.bcall2 .gcd x y)) := by
    refine PE.imp (pe_callBfun cr_gcd hgl hm hpa (ne_beq hd') hs (back_any hany)) fun S H Q ⟨io, σ, h, rs, R, w⟩ => ?_
    rw [evalE] at w
    refine tI_then rs R (wpR_bind.1 w) fun v h1 io1 H1 z p E1 rs1 R1 rz => tI_then rs1 R1 (wpR_bind.1 p) fun u h2 io2 H2 z2 q E2 rs2 R2 rz2 => ?_
    cases v <;> try exact (show False from q).elim
    cases u <;> try exact (show False from q).elim
    cases rz
    cases rz2
    exact ⟨_, _, rfl, (show Wv X.K io H Q _ _ from q) io2 H2 _ (E1.trans E2) R2 (.int _)⟩
  exact ⟨q, pt_of q⟩
def tyN : TY → String
  | .int => "int" | .bool => "bool" | .tuple => "tuple"
theorem sqt_ty {K : PySem.W.Frag} {H : Hp} {a : Addr} {xs : List V} (h : SqT K H a xs) : TyX K H (.ref a) (.type "tuple") := by
  rcases h with (h | ⟨o, h⟩) | ⟨o, its, n, e, hc, _⟩
  · exact .base (.tup h)
  · exact .fTuple h
  · exact .kTuple e hc
theorem sql_ty {K : PySem.W.Frag} {H : Hp} {a : Addr} {xs : List V} (h : SqL K H a xs) : TyX K H (.ref a) (.type "list") := by
  rcases h with (h | ⟨o, h⟩) | ⟨o, its, n, e, hc, _⟩
  · exact .base (.lst h)
  · exact .base (.frz h)
  · exact .kList e hc
theorem kit_is {K : PySem.W.Frag} {io : List Addr} {H : Hp} {h : IH} {v : IV} {x : V} (t : TY) (R : RepH K io H h) (r : RepV K io H v x) : ∃ T : String, TyX K H x (.type T) ∧ PySem.W.kitOne K (.type T) (.type (tyN t)) = some (isT t v) := by
  cases r with
  | non => exact ⟨_, .base .non, by cases t <;> exact kit_ty (by kernel_rfl)⟩
  | bl b => exact ⟨_, .base (.bl b), by cases t <;> exact kit_ty (by kernel_rfl)⟩
  | int i => exact ⟨_, .base (.int i), by cases t <;> exact kit_ty (by kernel_rfl)⟩
  | str x _ => exact ⟨_, .base (.str x), by cases t <;> exact kit_ty (by kernel_rfl)⟩
  | rep d => exact ⟨_, .base (.str _), by cases t <;> exact kit_ty (by kernel_rfl)⟩
  | tup s l => exact ⟨_, sqt_ty s, by cases t <;> exact kit_ty (by kernel_rfl)⟩
  | ref ha =>
    rename_i n a
    obtain ⟨l, hl⟩ : ∃ l, getL h n = some l := by
      have hn : n < h.length := by rw [← R.len]; exact (List.getElem?_eq_some_iff.mp ha).1
      unfold getL
      rw [List.getElem?_eq_getElem hn]
      cases h[n] <;> exact ⟨_, rfl⟩
    obtain ⟨xs, hx, _⟩ := R.sql hl ha
    exact ⟨_, sql_ty hx, by cases t <;> exact kit_ty (by kernel_rfl)⟩
theorem e_isi (g : Good c F n X) {f ty : Str} {p p2 pos : Pos} {a : Expr} {x : E} {k : TY} (hf : f = "isinstance") (hg : isGlob c.sc f = true) (hG : c.G.contains f = false) (hgt : isGlob c.sc ty = true) (hGt : c.G.contains ty = false) (hk : cTY ty = some k) (ha : PE X a (tI X.K F x))
    (hs : starEach [a, .Name ty p2] X.env = (false, eval a X.env) :: starEach [.Name ty p2] X.env) :
    Both X F (.Call (.Name f p) [a, .Name ty p2] [] pos) (.isi x k) := by
  subst hf
  obtain ⟨t1, t2, t3, t4⟩ := cTY_of hk
  have hgl : Gl X "isinstance" := by show X.env.scope.names.lookup ("isinstance" : Str) = _; rw [g.sc]; exact isGlob_of hg
  have hm := g.blt "isinstance" (by decide) hG
  have hglt : Gl X ty := by show X.env.scope.names.lookup ty = _; rw [g.sc]; exact isGlob_of hgt
  have hmt := g.blt ty t1 hGt
  have hv : bootBuiltins ty = some (.type (tyN k)) := by
    rcases t4 with ⟨rfl, rfl⟩ | ⟨rfl, rfl⟩ | ⟨rfl, rfl⟩ <;> decide +kernel
  have hpt : PE X (.Name ty p2) (tC (.ty (tyN k))) := pe_bltn hglt hmt hv rfl t2 t3
  have hpa : PA X [a, .Name ty p2] (tCons (tI X.K F x) (tCons (tC (.ty (tyN k))) tNil)) := pa_cons ha (pa_cons hpt pa_nil rfl) hs
  have q : PE X (.Call (.Name "isinstance" p) [a, .Name ty p2] [] pos) (tI X.K F (.isi x k)) := by
    refine PE.imp (pe_callB call_isi hgl hm (by decide +kernel) hpa (by decide) (by decide) hs rfl) fun S H Q ⟨io, σ, h, rs, R, w⟩ => ?_
    rw [evalE] at w
    refine tI_then rs R (wpR_bind.1 w) fun v h1 io1 H1 z p E1 rs1 R1 rz => ?_
    obtain ⟨T, ty1, ko⟩ := kit_is k R1 rz
    exact ⟨z, .ty (tyN k), _, _, _, rfl, .ty _, ty1, ko, (show Wv X.K io H Q (.bl (isT k v)) h1 from p) io1 H1 _ E1 R1 (.bl _)⟩
  exact ⟨q, pt_of q⟩
theorem isL_ty {K : PySem.W.Frag} {io : List Addr} {H : Hp} {h : IH} {v : IV} {x : V} (R : RepH K io H h) (r : RepV K io H v x) (e : isL v h = true) : tyV K "list" x H := by
  cases r <;> try exact absurd (show false = true from e) Bool.false_ne_true
  rename_i n a ha
  have e : (getM h n).isSome = true := e
  cases el : getM h n with
  | none => rw [el] at e; cases e
  | some l =>
    obtain ⟨xs, hx, _⟩ := R.lst el ha
    exact .inl ⟨rfl, xs, SqL.of hx⟩
theorem e_meth (g : Good c F n X) {o a : Expr} {m : Str} {apos pos : Pos} {k : MI} {x y : E} (hp : plainBase o = true) (hl : (apos.endLine == pos.line) = true) (hk : cMI m = some k) (ho : PE X o (tI X.K F x)) (ha : PE X a (tI X.K F y)) (hs : ∀ env, starEach [a] env = [(false, eval a env)]) :
    Both X F (.Call (.Attribute o m apos) [a] [] pos) (.meth k x (.cons y .nil)) := by
  have hpa : PA X [a] (tCons (tI X.K F y) tNil) := pa_cons ha pa_nil (hs X.env)
  have hbase : attributeBase o m X.env (eval o X.env) = eval o X.env := by
    cases o <;> first | rfl | (simp [plainBase] at hp)
  have hfew : ((backTo pos (starEach [a] X.env)).all (fun x => !x.1) && (backToKw pos (keywordEach [] X.env)).all (fun x => x.1.isSome)
      && decide (([a] : List Expr).length + ([] : List Keyword).length + (if ([] : List Keyword).isEmpty then 0 else 1) < 30)) = true := by
    rw [hs X.env]; rfl
  have key : ∀ S H Q, tI X.K F (.meth k x (.cons y .nil)) S H Q → tBM X.K "list" (r1m X.K (mI k)) (tI X.K F x) (tCons (tI X.K F y) tNil) S H Q := fun S H Q ⟨io, σ, h, rs, R, w⟩ => by
    rw [evalE] at w
    refine tI_then rs R (wpR_bind.1 w) fun v h1 io1 H1 z p E1 rs1 R1 rz => ?_
    obtain ⟨hz, p⟩ := wpR_iteB p
    simp only [evalEs] at p
    refine ⟨isL_ty R1 rz hz, tI_then rs1 R1 (wpR_bind.1 (wpR_bind.1 p)) fun u h2 io2 H2 z2 q E2 rs2 R2 rz2 => ?_⟩
    exact ⟨io2, h2, v, u, z2, rfl, R2, rz.mono E2, rz2, wv_ext (show wpR (mI k v u h2) (Wv X.K io H Q) from q) (E1.trans E2)⟩
  have q : PE X (.Call (.Attribute o m apos) [a] [] pos) (tI X.K F (.meth k x (.cons y .nil))) := by
    unfold cMI at hk
    split at hk
    · cases hk; subst m
      exact PE.imp (pe_bm PySem.F.plainAttrs_list PySem.F.slot_list_append PySem.F.type_list_append mt_append_i ho hpa hbase hfew hl (hs X.env) rfl) key
    · split at hk
      · cases hk; subst m
        exact PE.imp (pe_bm PySem.F.plainAttrs_list PySem.F.slot_list_extend PySem.F.type_list_extend mt_extend_i ho hpa hbase hfew hl (hs X.env) rfl) key
      · split at hk
        · cases hk; subst m
          exact PE.imp (pe_bm PySem.F.plainAttrs_list PySem.F.slot_list_index PySem.F.type_list_index (mt_index_i (by have := g.units; omega)) ho hpa hbase hfew hl (hs X.env) rfl) key
        · cases hk
  exact ⟨q, pt_of q⟩
end
end PI

set_option Elab.async false
set_option linter.all false
set_option maxRecDepth 100000
/-! PIj: what is walked, comprehensions, the theorem of expressions. -/
namespace PI
open PySem PySem.Spec PyProof.Rows L2
theorem wipe_get (S : L2.St) : ∀ (vs : List Nat) (i : Nat), (wipe S vs)[i]? = if i ∈ vs then (if i < S.length then some none else none) else S[i]?
  | [], i => by simp [wipe]
  | v :: vs, i => by
    unfold wipe
    by_cases hv : v = i
    · subst hv
      rw [if_pos List.mem_cons_self]
      by_cases hl : v < S.length
      · rw [if_pos hl, List.getElem?_set_self (by rw [wipe_length]; exact hl)]
      · rw [if_neg hl, List.getElem?_eq_none (by rw [List.length_set, wipe_length]; omega)]
    · rw [List.getElem?_set_ne hv, wipe_get S vs i]
      by_cases hi : i ∈ vs
      · rw [if_pos hi, if_pos (List.mem_cons_of_mem _ hi)]
      · rw [if_neg hi, if_neg]
        intro q
        rcases List.mem_cons.mp q with e | e
        · exact hv e.symm
        · exact hi e
theorem wipe_wipe (S : L2.St) (vs : List Nat) : wipe (wipe S vs) vs = wipe S vs := by
  apply List.ext_getElem?
  intro i
  rw [wipe_get, wipe_length, wipe_get]
  by_cases hi : i ∈ vs
  · rw [if_pos hi, if_pos hi]
  · rw [if_neg hi]
section
variable {c : Cc} {F : Fn} {n : Nat} {X : Cx}
theorem evalEs_len {σ : Lo} : ∀ {m : Nat} {es : List Expr} {x : E} {h : IH} {P : List IV → IH → Prop}, cEs (cE m c) es = some x → wpR (evalEs F x σ h) P → wpR (evalEs F x σ h) fun vs h' => vs.length = es.length ∧ P vs h'
  | m, [], x, h, P, e, w => by
    simp only [cEs] at e; cases e
    exact ⟨rfl, w⟩
  | m, a :: es, x, h, P, e, w => by
    simp only [cEs] at e
    cases e1 : cE m c a with
    | none => rw [e1] at e; cases e
    | some y =>
      cases e2 : cEs (cE m c) es with
      | none => rw [e1, e2] at e; cases e
      | some r =>
        rw [e1, e2] at e; cases e
        rw [evalEs] at w ⊢
        rw [wpR_bind] at w ⊢
        refine wpR_mono w fun v h1 p => ?_
        rw [wpR_bind] at p ⊢
        refine wpR_mono (evalEs_len e2 p) fun vs h2 ⟨q1, q2⟩ => ⟨?_, q2⟩
        rw [List.length_cons, List.length_cons, q1]
theorem seq_it {e tg : Expr} {x : E} (h : PE X e (tI X.K F x)) : PI X tg e (tIt X.K F (.iseq x)) :=
  PI.imp (pi_seqA h) fun S H R ⟨io, σ, hh, rs, RR, w⟩ => by
    rw [evalIt] at w
    refine tI_then rs RR (wpR_bind.1 w) fun v h1 io1 H1 y p E1 rs1 R1 ry => ?_
    obtain ⟨st, es, q⟩ := wpR_opt p
    cases ry <;> try exact absurd (show (none : Option ItS) = some st from es) (fun z => nomatch z)
    · rename_i l a xs sa la
      have es : some (ItS.items l) = some st := es
      cases es
      exact ⟨a, xs, rfl, .inr ⟨sa, q io1 H1 _ E1 R1 (.items sa la (by simp))⟩⟩
    · rename_i m a ha
      have es : (getL h1 m).map (fun _ => ItS.lref m 0) = some st := es
      cases el : getL h1 m with
      | none => rw [el] at es; cases es
      | some l =>
        rw [el] at es; cases es
        obtain ⟨xs, hx, lx⟩ := R1.sql el ha
        exact ⟨a, xs, rfl, .inl ⟨hx, q io1 H1 _ E1 R1 (.lref ha)⟩⟩
theorem enum_it (g : Good c F n X) {a : Expr} {elts : List Expr} {kk : Nat} {tpos p pos : Pos} {x : E} (hg : isGlob c.sc "enumerate" = true) (hG : c.G.contains "enumerate" = false) (h : PE X a (tI X.K F x)) (hs : ∀ env, starEach [a] env = [(false, eval a env)]) :
    PI X (.Tuple elts kk tpos) (.Call (.Name "enumerate" p) [a] [] pos) (tIt X.K F (.ienum x)) := by
  have hgl : Gl X "enumerate" := by show X.env.scope.names.lookup ("enumerate" : Str) = _; rw [g.sc]; exact isGlob_of hg
  refine PI.imp (pi_enumA hgl (g.blt _ (by decide) hG) h (hs X.env)) fun S H R ⟨io, σ, hh, rs, RR, w⟩ => ?_
  rw [evalIt] at w
  refine tI_then rs RR (wpR_bind.1 w) fun v h1 io1 H1 y p E1 rs1 R1 ry => ?_
  obtain ⟨st, es, q⟩ := wpR_opt p
  cases ry <;> try exact absurd (show (none : Option ItS) = some st from es) (fun z => nomatch z)
  · rename_i l a xs sa la
    have es : some (ItS.eitems 0 l) = some st := es
    cases es
    exact ⟨a, xs, rfl, .inr ⟨sa, q io1 H1 _ E1 R1 (.eitems sa la (by simp))⟩⟩
  · rename_i m a ha
    have es : (getL h1 m).map (fun _ => ItS.elref m 0) = some st := es
    cases el : getL h1 m with
    | none => rw [el] at es; cases es
    | some l =>
      rw [el] at es; cases es
      obtain ⟨xs, hx, lx⟩ := R1.sql el ha
      exact ⟨a, xs, rfl, .inl ⟨hx, q io1 H1 _ E1 R1 (.elref ha)⟩⟩
theorem range_it (g : Good c F n X) {tg : Expr} {es : List Expr} {m : Nat} {p pos : Pos} {x : E} (hg : isGlob c.sc "range" = true) (hG : c.G.contains "range" = false) (hl : es.length = 1 ∨ es.length = 2) (h : PA X es (tAs X.K F x)) (he : cEs (cE m c) es = some x) :
    PI X tg (.Call (.Name "range" p) es [] pos) (tIt X.K F (.irange x)) := by
  have hgl : Gl X "range" := by show X.env.scope.names.lookup ("range" : Str) = _; rw [g.sc]; exact isGlob_of hg
  have hm := g.blt "range" (by decide) hG
  have shape : ∀ {ws : List IV} {st : ItS}, rangeIt ws = some st → (∃ j, ws = [.int j] ∧ (-(2 ^ 62) ≤ j ∧ j < 2 ^ 62) ∧ st = .range 0 j.toNat) ∨
      (∃ i j, ws = [.int i, .int j] ∧ (-(2 ^ 62) ≤ i ∧ i < 2 ^ 62 ∧ -(2 ^ 62) ≤ j ∧ j < 2 ^ 62) ∧ st = .range i (j - i).toNat) := by
    intro ws st e
    unfold rangeIt at e
    split at e
    · split at e
      · cases e; exact .inl ⟨_, rfl, by assumption, rfl⟩
      · cases e
    · split at e
      · cases e; exact .inr ⟨_, _, rfl, by assumption, rfl⟩
      · cases e
    · cases e
  cases es with
  | nil => simp at hl
  | cons a r =>
    have hsA : ∀ env, starEach (a :: r) env = (false, eval a env) :: starEach r env := fun env => by
      simp only [cEs] at he
      cases e1 : cE m c a with
      | none => rw [e1] at he; cases he
      | some y => exact star_ne e1 r env
    cases r with
    | nil =>
      refine PI.imp (pi_range1 hgl hm h (hsA X.env)) fun S H R ⟨io, σ, hh, rs, RR, w⟩ => ?_
      rw [evalIt] at w
      refine ⟨io, σ, hh, rs, RR, wpR_mono (evalEs_len he (wpR_bind.1 w)) fun ws h1 ⟨hlen, p⟩ io1 H1 xs E1 R1 rx => ?_⟩
      obtain ⟨st, es, q⟩ := wpR_opt p
      rcases shape es with ⟨j, rfl, ⟨b1, b2⟩, rfl⟩ | ⟨i, j, rfl, _, rfl⟩
      · cases rx with
        | cons rx rn =>
          cases rx; cases rn
          exact ⟨j, rfl, b1, b2, q io1 H1 _ E1 R1 (.range (by simp) (by simp))⟩
      · simp at hlen
    | cons b r =>
      cases r with
      | cons _ _ => simp at hl
      | nil =>
        have hsB : ∀ env, starEach [b] env = [(false, eval b env)] := fun env => by
          simp only [cEs] at he
          cases e1 : cE m c a with
          | none => rw [e1] at he; cases he
          | some y =>
            cases e2 : cE m c b with
            | none => rw [e1, e2] at he; cases he
            | some z => exact star_ne e2 [] env
        refine PI.imp (pi_range2 hgl hm h (by rw [hsA, hsB]) (hsB X.env)) fun S H R ⟨io, σ, hh, rs, RR, w⟩ => ?_
        rw [evalIt] at w
        refine ⟨io, σ, hh, rs, RR, wpR_mono (evalEs_len he (wpR_bind.1 w)) fun ws h1 ⟨hlen, p⟩ io1 H1 xs E1 R1 rx => ?_⟩
        obtain ⟨st, es, q⟩ := wpR_opt p
        rcases shape es with ⟨j, rfl, ⟨b1, b2⟩, rfl⟩ | ⟨i, j, rfl, b1, rfl⟩
        · simp at hlen
        · cases rx with
          | cons rx rn =>
            cases rn with
            | cons ry rn =>
              cases rx; cases ry; cases rn
              exact ⟨i, j, rfl, b1, q io1 H1 _ E1 R1 (.range (by simp) (by simp))⟩

theorem zip_it (g : Good c F n X) {st : Bool} {a b : Expr} {elts : List Expr} {kk : Nat} {tpos p pos kp cp : Pos} {ck : Nat} {x y : E} (hg : isGlob c.sc "zip" = true) (hG : c.G.contains "zip" = false) (ha : PE X a (tI X.K F x)) (hb : PE X b (tI X.K F y))
    (hs : starEach [a, b] X.env = (false, eval a X.env) :: starEach [b] X.env) (hs2 : starEach [b] X.env = [(false, eval b X.env)]) :
    PI X (.Tuple elts kk tpos) (.Call (.Name "zip" p) [a, b] [] pos) (tIt X.K F (.izip false x y)) ∧ PI X (.Tuple elts kk tpos) (.Call (.Name "zip" p) [a, b] [⟨some "strict", .Constant (.bool true) ck cp, kp⟩] pos) (tIt X.K F (.izip true x y)) := by
  have hgl : Gl X "zip" := by show X.env.scope.names.lookup ("zip" : Str) = _; rw [g.sc]; exact isGlob_of hg
  have hm := g.blt "zip" (by decide) hG
  have hpa : PA X [a, b] (tCons (tI X.K F x) (tCons (tI X.K F y) tNil)) := pa_cons ha (pa_cons hb pa_nil hs2) hs
  have hany : (starEach [b] X.env).any (·.1) = false := by rw [hs2]; rfl
  have hany2 : (starEach [a, b] X.env).any (·.1) = false := by rw [hs, List.any_cons, hany]; rfl
  have key : ∀ (st : Bool) S H R, tIt X.K F (.izip st x y) S H R → PZ.iZipK st X.K (tCons (tI X.K F x) (tCons (tI X.K F y) tNil)) S H R := by
    intro st S H R ⟨io, σ, hh, rs, RR, w⟩
    rw [evalIt] at w
    refine tI_then rs RR (wpR_bind.1 w) fun v h1 io1 H1 z p E1 rs1 R1 rz => tI_then rs1 R1 (wpR_bind.1 p) fun u h2 io2 H2 z2 q E2 rs2 R2 rz2 => ?_
    obtain ⟨st', es, q⟩ := wpR_opt q
    have rz := rz.mono E2
    unfold zipIt at es
    cases el : seqI h2 v with
    | none => rw [el] at es; cases es
    | some l =>
      cases er : seqI h2 u with
      | none => rw [el, er] at es; cases es
      | some r =>
        rw [el, er] at es; cases es
        have ref_of : ∀ {v : IV} {z : V} {l : List IV}, RepV X.K io2 H2 v z → seqI h2 v = some l → ∃ a, z = .ref a := fun {v z l} r e => by
          cases r <;> first | exact ⟨_, rfl⟩ | exact absurd (show (none : Option (List IV)) = some l from e) (fun z => nomatch z)
        obtain ⟨A, rfl⟩ := ref_of rz el
        obtain ⟨B, rfl⟩ := ref_of rz2 er
        obtain ⟨xs, hx, lx⟩ := seqV R2 rz el
        obtain ⟨ys, hy, ly⟩ := seqV R2 rz2 er
        exact ⟨_, _, A, B, xs, ys, rfl, hx, hy, q io2 H2 _ (E1.trans E2) R2 (.zip rz rz2)⟩
  exact ⟨PI.imp (PZ.pi_zipK hgl hm hpa hs (back_any hany)) (key false), PI.imp (PZ.pi_zipS hgl hm hpa hs (back_any hany2)) (key true)⟩
theorem it_of (g : Good c F n X) {m : Nat} (ih : ∀ e ie, cE m c e = some ie → PE X e (tI X.K F ie)) {tg it : Expr} {ie : E} (h : cIt (cE m c) c tg it = some ie) : PI X tg it (tIt X.K F ie) := by
  have seq : (cE m c it).map E.iseq = some ie → PI X tg it (tIt X.K F ie) := fun h => by
    cases e1 : cE m c it with
    | none => rw [e1] at h; cases h
    | some x => rw [e1] at h; cases h; exact seq_it (ih it x e1)
  unfold cIt at h
  split at h
  · rename_i f p es pos
    split at h
    · rename_i hc
      rw [Bool.and_eq_true] at hc
      have hG : c.G.contains f = false := by simpa using hc.2
      split at h
      · subst f
        split at h
        · rename_i hl
          cases e1 : cEs (cE m c) es with
          | none => rw [e1] at h; cases h
          | some x =>
            rw [e1] at h; cases h
            rw [Bool.or_eq_true] at hl
            exact range_it g hc.1 hG (by simpa using hl) (pas_of ih es x e1) e1
        · cases h
      · split at h
        · subst f
          split at h
          · rename_i a
            cases e1 : cE m c a with
            | none => rw [e1] at h; cases h
            | some x => rw [e1] at h; cases h; exact enum_it g hc.1 hG (ih a x e1) fun env => star_ne e1 [] env
          · cases h
        · split at h
          · subst f
            split at h
            · rename_i a b
              split at h
              · rename_i x y e1 e2
                cases h
                exact (zip_it (st := false) (kp := pos) (cp := pos) (ck := 0) g hc.1 hG (ih a x e1) (ih b y e2) (star_ne e1 _ _) (star_ne e2 [] _)).1
              · cases h
            · cases h
          · exact seq h
    · exact seq h
  · rename_i f p a b k ck cp kp pos
    split at h
    · rename_i hc
      simp only [Bool.and_eq_true, decide_eq_true_eq] at hc
      obtain ⟨⟨⟨c1, c2⟩, c3⟩, c4⟩ := hc
      subst c3 c4
      split at h
      · split at h
        · rename_i x y e1 e2
          cases h
          exact (zip_it (st := true) g c1 (by simpa using c2) (ih a x e1) (ih b y e2) (star_ne e1 _ _) (star_ne e2 [] _)).2
        · cases h
      · cases h
    · cases h
  · exact seq h

theorem lc_read {t : TG} {i f x : E} {vs : List Nat} (hsub : subNat (slotsT t) vs = true) : ∀ S H Q, tI X.K F (.lc vs t i f x) S H Q → tLc (tIt X.K F i) (gT X.K t) (tBs X.K F f) (tI X.K F x) vs S H Q := by
  intro S H Q ⟨io, σ, hh, rs, R, w⟩
  rw [evalE] at w
  refine ⟨io, σ, hh, rs, R, wpR_mono (wpR_bind.1 w) fun st h1 p io1 H1 J E1 R1 r1 D hD => ?_⟩
  have g1 := R1.new (l := []) hD .nil
  have hd : (io1 ++ [D])[h1.length]? = some D := by rw [← R1.len, List.getElem?_append_right (Nat.le_refl _)]; simp
  exact loopU_w (X := X) (J := J) (P := fun h' => Wv X.K io H Q (.ref h1.length) h') (Qe := fun H => Q (.ref D) H) (T := fun _ _ => True)
    (B := fun x0 H' Nx => gT X.K t x0 (wipe S vs) H' fun σ2 H2 => wipe σ2 vs = wipe S vs ∧
      tBs X.K F f σ2 H2 fun b H3 => if b = true then tI X.K F x σ2 H3 fun y H4 => ∃ acc, H4 D = some (.lst acc) ∧ acc.length < sizeLine ∧ Nx (upd H4 D (.lst (acc ++ [y]))) else Nx H3)
    g1.1 (r1.mono g1.2) (wpR_bind.1 p) (fun io2 H2 h2 E2 R2 q => q io2 H2 _ ((E1.trans g1.2).trans E2) R2 (.ref (E2.get hd)))
    fun v x0 io2 H2 h2 Pn Nx E2 R2 rv wt k => by
      cases ep : putT t v (wipeI σ vs) with
      | none => rw [ep] at wt; exact wt.elim
      | some σ2 =>
        rw [ep] at wt
        have rw0 := (rs.mono ((E1.trans g1.2).trans E2)).wipe vs
        refine ⟨io2, _, h2, v, σ2, rw0, R2, rv, ep, fun S2 r2 k2 => ⟨?_, lc_body r2 R2 (E2.get hd) wt k⟩⟩
        rw [k2 _ (subNat_mem hsub)]
        exact wipe_wipe _ _
theorem e_lc (g : Good c F n X) {elt tg it : Expr} {ifs : List Expr} {scope : Scope} {pos : Pos} {t : TG} {i f x : E} {m : Nat} (hb : blkC c.N c.sc scope (ownOf c.N scope) = true) (hset : setty it = false)
    (ht : cTG (c.blk scope) m tg = some t) (hi : PI X tg it (tIt X.K F i))
    (hf : ∀ s H C cl fp, PTs (X.blk s H scope (compEnvC scope cl C X.env) fp) ifs (tBs X.K F f))
    (hx : ∀ s H C cl fp, PE (X.blk s H scope (compEnvC scope cl C X.env) fp) elt (tI X.K F x)) (hsub : subNat (slotsT t) ((ownOf c.N scope).map (·.2)) = true) :
    PE X (.ListComp elt [⟨tg, it, ifs, 0⟩] scope pos) (tI X.K F (.lc ((ownOf c.N scope).map (·.2)) t i f x)) := by
  have nd : X.N.Nodup := by rw [g.hN]; exact g.nd
  have bok : BlkOk X.N X.env.scope scope (ownOf c.N scope) := by rw [g.hN, g.sc]; exact blkOk_by hb
  exact PE.imp (pe_lc (g := gT X.K t) g.calm nd hi bok (fun s H C cl fp => pg_T (g.blk s H scope C cl fp) m tg t ht) hf hx (setty_folded hset X.env)) (lc_read hsub)
theorem s_lc (g : Good c F n X) {elt tg it : Expr} {ifs : List Expr} {scope : Scope} {pos spos py : Pos} {y : Str} {j : Nat} {t : TG} {i f x : E} {m : Nat} (hb : blkC c.N c.sc scope (ownOf c.N scope) = true) (hset : setty it = false)
    (ht : cTG (c.blk scope) m tg = some t) (hi : PI X tg it (tIt X.K F i))
    (hf : ∀ s H C cl fp, PTs (X.blk s H scope (compEnvC scope cl C X.env) fp) ifs (tBs X.K F f))
    (hx : ∀ s H C cl fp, PE (X.blk s H scope (compEnvC scope cl C X.env) fp) elt (tI X.K F x)) (hsub : subNat (slotsT t) ((ownOf c.N scope).map (·.2)) = true)
    (hy : X.N[j]? = some y) (hyl : X.env.scope.names.lookup y = some .local) (hsw : swapsWith (.ListComp elt [⟨tg, it, ifs, 0⟩] scope pos) (some (.Name y py)) spos.line X.env = pure true) :
    PS X (.Assign [.Name y py] (.ListComp elt [⟨tg, it, ifs, 0⟩] scope pos) spos) (tAsg (tI X.K F (.lc ((ownOf c.N scope).map (·.2)) t i f x)) (gName j)) := by
  have nd : X.N.Nodup := by rw [g.hN]; exact g.nd
  have bok : BlkOk X.N X.env.scope scope (ownOf c.N scope) := by rw [g.hN, g.sc]; exact blkOk_by hb
  exact PS.imp (ps_setLc (g := gT X.K t) g.calm nd hy hyl hsw hi bok (fun s H C cl fp => pg_T (g.blk s H scope C cl fp) m tg t ht) hf hx (setty_folded hset X.env)) fun D S H w => lc_read hsub _ _ _ w
end
end PI

set_option Elab.async false
set_option linter.all false
set_option maxRecDepth 100000
/-! PIk: two clauses; the theorem of expressions. -/
namespace PI
open PySem PySem.Spec PyProof.Rows L2
theorem wipeI_get (S : Lo) : ∀ (vs : List Nat) (i : Nat), (wipeI S vs)[i]? = if i ∈ vs then (if i < S.length then some none else none) else S[i]?
  | [], i => by simp [wipeI]
  | v :: vs, i => by
    have hl0 : ∀ vs : List Nat, (wipeI S vs).length = S.length := fun vs => by
      induction vs with
      | nil => rfl
      | cons w ws ih => unfold wipeI; rw [List.length_set, ih]
    unfold wipeI
    by_cases hv : v = i
    · subst hv
      rw [if_pos List.mem_cons_self]
      by_cases hl : v < S.length
      · rw [if_pos hl, List.getElem?_set_self (by rw [hl0]; exact hl)]
      · rw [if_neg hl, List.getElem?_eq_none (by rw [List.length_set, hl0]; omega)]
    · rw [List.getElem?_set_ne hv, wipeI_get S vs i]
      by_cases hi : i ∈ vs
      · rw [if_pos hi, if_pos (List.mem_cons_of_mem _ hi)]
      · rw [if_neg hi, if_neg]
        intro q
        rcases List.mem_cons.mp q with e | e
        · exact hv e.symm
        · exact hi e
section
variable {c : Cc} {F : Fn} {n : Nat} {X : Cx}
theorem lc2_read {t t1 : TG} {i f i1 f1 x : E} {vs : List Nat} (hsub : subNat (slotsT t) vs = true) : ∀ S H Q, tI X.K F (.lc2 vs t i f (slotsT t1) t1 i1 f1 x) S H Q →
    tLc2 (tIt X.K F i) (gT X.K t) (tBs X.K F f) (tIt X.K F i1) (gT X.K t1) (tBs X.K F f1) (tI X.K F x) vs (slotsT t1) S H Q := by
  intro S H Q ⟨io, σ, hh, rs, R, w⟩
  rw [evalE] at w
  refine ⟨io, σ, hh, rs, R, wpR_mono (wpR_bind.1 w) fun st h1 p io1 H1 J E1 R1 r1 D hD => ?_⟩
  have g1 := R1.new (l := []) hD .nil
  have hd : (io1 ++ [D])[h1.length]? = some D := by rw [← R1.len, List.getElem?_append_right (Nat.le_refl _)]; simp
  refine loopU_w (X := X) (J := J) (P := fun h' => Wv X.K io H Q (.ref h1.length) h') (Qe := fun H => Q (.ref D) H) (T := fun _ _ => True)
    (B := fun x0 H' Nx => gT X.K t x0 (wipe S vs) H' fun σ2 H2 => wipe σ2 vs = wipe S vs ∧ tBs X.K F f σ2 H2 fun b H3 =>
      if b = true then tIt X.K F i1 σ2 H3 fun J1 H4 => ∃ W1 : Nat → Nat → Hp → Prop, (∃ m, W1 0 m H4) ∧ ∀ j k H, W1 j k H →
        (J1.stop j H ∧ Nx H) ∨ (J1.go j H ∧ ∃ Nx1 : Hp → Prop, (∀ H', Nx1 H' → ∃ k', k' < k ∧ W1 (j + 1) k' H') ∧ ∀ x0 H', J1.yld j H x0 H' → gT X.K t1 x0 (wipe σ2 (slotsT t1)) H' fun σ3 H5 => wipe σ3 (slotsT t1) = wipe σ2 (slotsT t1) ∧ tBs X.K F f1 σ3 H5 fun b H6 =>
          if b = true then tI X.K F x σ3 H6 fun y H7 => ∃ acc, H7 D = some (.lst acc) ∧ acc.length < sizeLine ∧ Nx1 (upd H7 D (.lst (acc ++ [y]))) else Nx1 H6)
      else Nx H3)
    g1.1 (r1.mono g1.2) (wpR_bind.1 p) (fun io2 H2 h2 E2 R2 q => q io2 H2 _ ((E1.trans g1.2).trans E2) R2 (.ref (E2.get hd)))
    fun v x0 io2 H2 h2 Pn Nx E2 R2 rv wt k => ?_
  cases ep : putT t v (wipeI σ vs) with
  | none => rw [ep] at wt; exact wt.elim
  | some σ2 =>
    rw [ep] at wt
    have rw0 := (rs.mono ((E1.trans g1.2).trans E2)).wipe vs
    refine ⟨io2, _, h2, v, σ2, rw0, R2, rv, ep, fun S2 r2 k2 => ⟨?_, io2, σ2, h2, r2, R2, wpR_mono (wpR_bind.1 wt) fun b h3 p3 io3 H3 E3 R3 => ?_⟩⟩
    · rw [k2 _ (subNat_mem hsub)]
      exact wipe_wipe _ _
    · cases b with
      | false => exact iteF (k io3 H3 h3 E3 R3 p3)
      | true =>
        refine iteT ⟨io3, σ2, h3, r2.mono E3, R3, wpR_mono (wpR_bind.1 p3) fun st1 h4 p4 io4 H4 J1 E4 R4 q1 => ?_⟩
        exact loopU_w (X := X) (J := J1) (P := fun h' => Pn () h') (Qe := Nx) (T := fun _ _ => True)
          (B := fun x0 H' Nx1 => gT X.K t1 x0 (wipe S2 (slotsT t1)) H' fun σ3 H5 => wipe σ3 (slotsT t1) = wipe S2 (slotsT t1) ∧ tBs X.K F f1 σ3 H5 fun b H6 =>
            if b = true then tI X.K F x σ3 H6 fun y H7 => ∃ acc, H7 D = some (.lst acc) ∧ acc.length < sizeLine ∧ Nx1 (upd H7 D (.lst (acc ++ [y]))) else Nx1 H6)
          R4 q1 p4 (fun io5 H5 h5 E5 R5 q => k io5 H5 h5 ((E3.trans E4).trans E5) R5 q)
          fun v1 x1 io5 H5 h5 Pn1 Nx1 E5 R5 rv1 wt1 kk => by
            cases ep1 : putT t1 v1 (wipeI σ2 (slotsT t1)) with
            | none => rw [ep1] at wt1; exact wt1.elim
            | some σ3 =>
              rw [ep1] at wt1
              have rw1 := (((r2.mono E3).mono E4).mono E5).wipe (slotsT t1)
              have hd5 : io5[h1.length]? = some D := E5.get (E4.get (E3.get (E2.get hd)))
              refine ⟨io5, _, h5, v1, σ3, rw1, R5, rv1, ep1, fun S3 r3 k3 => ⟨?_, lc_body r3 R5 hd5 wt1 kk⟩⟩
              rw [k3 _ fun i hi => hi]
              exact wipe_wipe _ _

theorem e_lc2 (g : Good c F n X) {elt tg it tg1 it1 : Expr} {ifs ifs1 : List Expr} {scope : Scope} {pos : Pos} {t t1 : TG} {i f i1 f1 x : E} {m : Nat} (hb : blkC c.N c.sc scope (ownOf c.N scope) = true) (hset : setty it = false) (hset1 : setty it1 = false)
    (ht : cTG (c.blk scope) m tg = some t) (hi : PI X tg it (tIt X.K F i))
    (hf : ∀ s H C cl fp, PTs (X.blk s H scope (compEnvC scope cl C X.env) fp) ifs (tBs X.K F f))
    (ht1 : cTG (c.blk scope) m tg1 = some t1) (hi1 : ∀ s H C cl fp, PI (X.blk s H scope (compEnvC scope cl C X.env) fp) tg1 it1 (tIt X.K F i1))
    (hf1 : ∀ s H C cl fp, PTs (X.blk s H scope (compEnvC scope cl C X.env) fp) ifs1 (tBs X.K F f1))
    (hx : ∀ s H C cl fp, PE (X.blk s H scope (compEnvC scope cl C X.env) fp) elt (tI X.K F x)) (hsub : subNat (slotsT t) ((ownOf c.N scope).map (·.2)) = true) (hsub1 : subNat (slotsT t1) ((ownOf c.N scope).map (·.2)) = true) :
    PE X (.ListComp elt [⟨tg, it, ifs, 0⟩, ⟨tg1, it1, ifs1, 0⟩] scope pos) (tI X.K F (.lc2 ((ownOf c.N scope).map (·.2)) t i f (slotsT t1) t1 i1 f1 x)) := by
  have nd : X.N.Nodup := by rw [g.hN]; exact g.nd
  have bok : BlkOk X.N X.env.scope scope (ownOf c.N scope) := by rw [g.hN, g.sc]; exact blkOk_by hb
  exact PE.imp (pe_lc2 (g := gT X.K t) (g1 := gT X.K t1) (vs1 := slotsT t1) g.calm nd hi bok (subNat_mem hsub1) (fun s H C cl fp => pg_T (g.blk s H scope C cl fp) m tg t ht) hf hi1
    (fun s H C cl fp => pg_T (g.blk s H scope C cl fp) m tg1 t1 ht1) hf1 hx (setty_folded hset X.env) (setty_folded hset1)) (lc2_read hsub)
theorem s_lc2 (g : Good c F n X) {elt tg it tg1 it1 : Expr} {ifs ifs1 : List Expr} {scope : Scope} {pos spos py : Pos} {y : Str} {j : Nat} {t t1 : TG} {i f i1 f1 x : E} {m : Nat} (hb : blkC c.N c.sc scope (ownOf c.N scope) = true) (hset : setty it = false) (hset1 : setty it1 = false)
    (ht : cTG (c.blk scope) m tg = some t) (hi : PI X tg it (tIt X.K F i))
    (hf : ∀ s H C cl fp, PTs (X.blk s H scope (compEnvC scope cl C X.env) fp) ifs (tBs X.K F f))
    (ht1 : cTG (c.blk scope) m tg1 = some t1) (hi1 : ∀ s H C cl fp, PI (X.blk s H scope (compEnvC scope cl C X.env) fp) tg1 it1 (tIt X.K F i1))
    (hf1 : ∀ s H C cl fp, PTs (X.blk s H scope (compEnvC scope cl C X.env) fp) ifs1 (tBs X.K F f1))
    (hx : ∀ s H C cl fp, PE (X.blk s H scope (compEnvC scope cl C X.env) fp) elt (tI X.K F x)) (hsub : subNat (slotsT t) ((ownOf c.N scope).map (·.2)) = true) (hsub1 : subNat (slotsT t1) ((ownOf c.N scope).map (·.2)) = true)
    (hy : X.N[j]? = some y) (hyl : X.env.scope.names.lookup y = some .local) (hsw : swapsWith (.ListComp elt [⟨tg, it, ifs, 0⟩, ⟨tg1, it1, ifs1, 0⟩] scope pos) (some (.Name y py)) spos.line X.env = pure true) :
    PS X (.Assign [.Name y py] (.ListComp elt [⟨tg, it, ifs, 0⟩, ⟨tg1, it1, ifs1, 0⟩] scope pos) spos) (tAsg (tI X.K F (.lc2 ((ownOf c.N scope).map (·.2)) t i f (slotsT t1) t1 i1 f1 x)) (gName j)) := by
  have nd : X.N.Nodup := by rw [g.hN]; exact g.nd
  have bok : BlkOk X.N X.env.scope scope (ownOf c.N scope) := by rw [g.hN, g.sc]; exact blkOk_by hb
  exact PS.imp (ps_setLc2 (g := gT X.K t) (g1 := gT X.K t1) (vs1 := slotsT t1) g.calm nd hy hyl hsw hi bok (subNat_mem hsub1) (fun s H C cl fp => pg_T (g.blk s H scope C cl fp) m tg t ht) hf hi1
    (fun s H C cl fp => pg_T (g.blk s H scope C cl fp) m tg1 t1 ht1) hf1 hx (setty_folded hset X.env) (setty_folded hset1)) fun D S H w => lc2_read hsub _ _ _ w

/-- what is shown of every expression -/
def Expr.Is (X : Cx) (F : Fn) (e : Expr) (ie : E) : Prop := Both X F e ie ∧ ∀ op vs pos, e = .BoolOp op vs pos → PW X e (tT X.K F ie)
theorem exprs (m : Nat) : ∀ (c : Cc) (X : Cx), Good c F n X → ∀ (e : Expr) (ie : E), cE m c e = some ie → Expr.Is X F e ie := by
  induction m with
  | zero => intro c X g e ie h; simp [cE] at h
  | succ m ih =>
    intro c X g e ie h
    have ihE : ∀ e ie, cE m c e = some ie → PE X e (tI X.K F ie) := fun e ie h => (ih c X g e ie h).1.1
    have ihB : ∀ e ie, cE m c e = some ie → Both X F e ie := fun e ie h => (ih c X g e ie h).1
    have no : ∀ {e : Expr} {ie : E}, Both X F e ie → (∀ op vs pos, e ≠ .BoolOp op vs pos) → Expr.Is X F e ie := fun b k => ⟨b, fun op vs pos e => absurd e (k op vs pos)⟩
    unfold cE at h
    split at h
    · -- Name
      rename_i x p
      cases es : slotR c x with
      | none =>
        simp only [es] at h
        split at h
        · rename_i hc
          simp only [Bool.and_eq_true, Bool.not_eq_true', decide_eq_false_iff_not] at hc
          split at h
          · rename_i i ek
            cases h
            have hgl : Gl X x := by show X.env.scope.names.lookup x = _; rw [g.sc]; exact isGlob_of hc.1.1
            obtain ⟨t, hm⟩ := g.cst x _ ek
            have q : PE X (.Name x p) (tI X.K F (.con (.int i))) := PE.imp (pe_glob (v := V.int i) hgl hm ⟨t, rfl⟩ (ne_beq hc.2)) fun S H Q ⟨io, σ, hh, rs, R, w⟩ => by
              rw [evalE] at w
              exact Wv.same (X := X) (show Wv X.K io H Q (.int i) hh from w) R (.int i)
            exact no ⟨q, pt_of q⟩ (fun _ _ _ e => nomatch e)
          · cases h
        · cases h
      | some i =>
        simp only [es] at h; cases h
        obtain ⟨h1, h2, h3, h4⟩ := slotR_of g es
        have q : PE X (.Name x p) (tI X.K F (.var i)) := PE.imp (pe_var h1 h2 h3 h4) fun S H Q ⟨io, σ, hh, rs, R, w⟩ => by
          rw [evalE] at w
          cases ev : σ[i]? with
          | none => rw [ev] at w; exact w.elim
          | some o =>
            cases o with
            | none => rw [ev] at w; exact w.elim
            | some v =>
              rw [ev] at w
              obtain ⟨y, hy, ry⟩ := rs.get i v ev
              exact ⟨y, hy, Wv.same (X := X) w R ry⟩
        exact no ⟨q, pt_of q⟩ (fun _ _ _ e => nomatch e)
    · -- Constant
      rename_i k j p
      cases es : cConst k with
      | none => rw [es] at h; cases h
      | some v => rw [es] at h; cases h; exact no ⟨strOk_cst es, pt_of (strOk_cst es)⟩ (fun _ _ _ e => nomatch e)
    · -- BinOp
      split at h
      · cases h; exact no (e_bin g (by assumption) (ihE _ _ (by assumption)) (ihE _ _ (by assumption))) (fun _ _ _ e => nomatch e)
      · cases h
    · -- Compare
      split at h
      · cases h; exact no (e_cmp g (by assumption) (ihE _ _ (by assumption)) (ihE _ _ (by assumption))) (fun _ _ _ e => nomatch e)
      · cases h
    · -- chain
      split at h
      · rename_i a1 a2 a3 a4 a5
        cases h; exact no (e_chain g a1 a2 (ihE _ _ a3) (ihE _ _ a4) (ihE _ _ a5)) (fun _ _ _ e => nomatch e)
      · cases h
    · -- Not
      rename_i a p
      cases e1 : cE m c a with
      | none => rw [e1] at h; cases h
      | some x => rw [e1] at h; cases h; exact no (e_not (ihB _ _ e1)) (fun _ _ _ e => nomatch e)
    · -- USub
      rename_i a p
      cases e1 : cE m c a with
      | none => rw [e1] at h; cases h
      | some x => rw [e1] at h; cases h; exact no (e_neg (ihE _ _ e1)) (fun _ _ _ e => nomatch e)
    · -- one
      rename_i op a p
      have b := ihB _ _ h
      refine ⟨⟨pe_one b.1, ?_⟩, ?_⟩
      · cases op with
        | And => exact (pw_and1 b.2).pt
        | Or => exact (pw_or1 b.2).pt
      · intro op' vs pos e
        cases e
        cases op with
        | And => exact pw_and1 b.2
        | Or => exact pw_or1 b.2
    · -- and
      split at h
      · rename_i a1 a2
        cases h
        have i2 := ih c X g _ _ a2
        obtain ⟨q1, q2⟩ := e_and (ihB _ _ a1) i2.1.1 (i2.2 _ _ _ rfl)
        exact ⟨⟨q1, q2.pt⟩, fun _ _ _ _ => q2⟩
      · cases h
    · -- or
      split at h
      · rename_i a1 a2
        cases h
        have i2 := ih c X g _ _ a2
        obtain ⟨q1, q2⟩ := e_or (ihB _ _ a1) i2.1.1 (i2.2 _ _ _ rfl)
        exact ⟨⟨q1, q2.pt⟩, fun _ _ _ _ => q2⟩
      · cases h
    · -- IfExp
      split at h
      · rename_i a1 a2 a3
        cases h; exact no (e_ite (ihB _ _ a1).2 (ihB _ _ a2) (ihB _ _ a3)) (fun _ _ _ e => nomatch e)
      · cases h
    · -- Tuple
      rename_i es k p
      cases e1 : cEs (cE m c) es with
      | none => rw [e1] at h; cases h
      | some x => rw [e1] at h; cases h; exact no (e_tup (pas_of ihE _ _ e1)) (fun _ _ _ e => nomatch e)
    · -- List
      rename_i es p
      cases e1 : cEs (cE m c) es with
      | none => rw [e1] at h; cases h
      | some x => rw [e1] at h; cases h; exact no (e_lst (pas_of ihE _ _ e1)) (fun _ _ _ e => nomatch e)
    · -- slice
      split at h
      · rename_i a1 a2 a3
        cases h; exact no (e_slice (ihE _ _ a1) (po_of ihE _ _ a2) (po_of ihE _ _ a3)) (fun _ _ _ e => nomatch e)
      · cases h
    · -- sub
      split at h
      · cases h
      · rename_i hs
        split at h
        · rename_i a1 a2
          cases h; exact no (e_sub (by simpa using hs) (ihE _ _ a1) (ihE _ _ a2)) (fun _ _ _ e => nomatch e)
        · cases h
    · -- call
      rename_i f p es pos
      split at h
      · rename_i hc
        rw [Bool.and_eq_true] at hc
        have hd : f ≠ ("__debug__" : Str) := by simpa using hc.2
        split at h
        · split at h
          · rename_i k hk
            cases e1 : cEs (cE m c) es with
            | none => rw [e1] at h; cases h
            | some x =>
              rw [e1] at h; cases h
              refine no (e_call g hc.1 hd hk (pas_of ihE _ _ e1) (fun z => by subst z; simp only [cEs] at e1; cases e1; rfl) (fun e r z => ?_)) (fun _ _ _ e => nomatch e)
              subst z
              simp only [cEs] at e1
              cases e2 : cE m c e with
              | none => rw [e2] at e1; cases e1
              | some y =>
                cases e3 : cEs (cE m c) r with
                | none => rw [e2, e3] at e1; cases e1
                | some z => exact ⟨star_ne e2 r _, stars_ne e3⟩
          · cases h
        · rename_i hG
          split at h
          · rename_i a
            split at h
            · rename_i b x hb e1
              cases h; exact no (e_bi g hc.1 (by simpa using hG) hb (ihE _ _ e1) fun env => star_ne e1 [] env) (fun _ _ _ e => nomatch e)
            · cases h
          · rename_i a d
            split at h
            · rename_i hf
              split at h
              · rename_i ty p2
                split at h
                · rename_i hc2
                  simp only [Bool.and_eq_true, Bool.not_eq_true', decide_eq_false_iff_not] at hc2
                  split at h
                  · rename_i k x hk e1
                    cases h; exact no (e_isi g hf hc.1 (by simpa using hG) hc2.1.1 hc2.1.2 hk (ihE _ _ e1) (star_ne e1 _ _)) (fun _ _ _ e => nomatch e)
                  · cases h
                · cases h
              · cases h
            · split at h
              · rename_i hgc
                split at h
                · rename_i x y e1 e2
                  cases h; exact no (e_gcd g hc.1 hd hgc (ihE _ _ e1) (ihE _ _ e2) (star_ne e1 _ _) (star_ne e2 [] _)) (fun _ _ _ e => nomatch e)
                · cases h
              · split at h
                · rename_i b2 x y hb2 e1 e2
                  cases h; exact no (e_bi2 g hc.1 (by simpa using hG) hb2 (ihE _ _ e1) (ihE _ _ e2) (star_ne e1 _ _) (star_ne e2 [] _)) (fun _ _ _ e => nomatch e)
                · cases h
          · cases h
      · cases h
    · -- method
      rename_i o m' apos a pos
      split at h
      · rename_i hc
        rw [Bool.and_eq_true] at hc
        split at h
        · rename_i a1 a2 a3
          cases h; exact no (e_meth g hc.1 hc.2 a1 (ihE _ _ a2) (ihE _ _ a3) fun env => star_ne a3 [] env) (fun _ _ _ e => nomatch e)
        · cases h
      · cases h
    · -- comprehension
      rename_i elt tg it ifs scope pos
      split at h
      · rename_i hc
        rw [Bool.and_eq_true] at hc
        split at h
        · rename_i a1 a2 a3 a4
          split at h
          · rename_i hl
            rw [Bool.and_eq_true] at hl
            cases h
            have bl := fun s H C cl fp => ih (c.blk scope) _ (g.blk s H scope C cl fp)
            have q := e_lc g (pos := pos) hc.1 (by simpa using hc.2) a1 (it_of g ihE a2) (fun s H C cl fp => pts_of (fun e ie h => (bl s H C cl fp e ie h).1.2) ifs _ a3 (by simpa using hl.1)) (fun s H C cl fp => (bl s H C cl fp _ _ a4).1.1) hl.2
            exact no ⟨q, pt_of q⟩ (fun _ _ _ e => nomatch e)
          · cases h
        · cases h
      · cases h
    · -- two clauses
      rename_i elt tg it ifs tg1 it1 ifs1 scope pos
      split at h
      · rename_i hc
        rw [Bool.and_eq_true, Bool.and_eq_true] at hc
        split at h
        · rename_i a1 a2 a3 a4 a5 a6 a7
          split at h
          · rename_i hl
            simp only [Bool.and_eq_true] at hl
            obtain ⟨⟨⟨l1, l2⟩, l3⟩, l4⟩ := hl
            cases h
            have bl := fun s H C cl fp => ih (c.blk scope) _ (g.blk s H scope C cl fp)
            have q := e_lc2 g (pos := pos) hc.1.1 (by simpa using hc.1.2) (by simpa using hc.2) a1 (it_of g ihE a2) (fun s H C cl fp => pts_of (fun e ie h => (bl s H C cl fp e ie h).1.2) ifs _ a3 (by simpa using l1))
              a4 (fun s H C cl fp => it_of (g.blk s H scope C cl fp) (fun e ie h => (bl s H C cl fp e ie h).1.1) a5) (fun s H C cl fp => pts_of (fun e ie h => (bl s H C cl fp e ie h).1.2) ifs1 _ a6 (by simpa using l2)) (fun s H C cl fp => (bl s H C cl fp _ _ a7).1.1) l3 l4
            exact no ⟨q, pt_of q⟩ (fun _ _ _ e => nomatch e)
          · cases h
        · cases h
      · cases h
    · cases h
end
end PI

set_option Elab.async false
set_option linter.all false
set_option maxRecDepth 100000
/-! PIl: statements. -/
namespace PI
open PySem PySem.Spec PyProof.Rows L2
def We (K : PySem.W.Frag) (io : List Addr) (H : Hp) (D : Ends) : Fl × Lo → IH → Prop := fun p h' => ∀ io' H' S', Ext io H io' H' → RepH K io' H' h' → RepS K io' H' p.2 S' →
  match p.1 with
  | .nx => D.nx S' H'
  | .bk => D.bk S' H'
  | .ct => D.ct S' H'
  | .rt v => ∀ x, RepV K io' H' v x → D.rt x H'
theorem We.ext {K : PySem.W.Frag} {io io' : List Addr} {H H' : Hp} {D : Ends} {z : Fl × Lo} {h : IH} (w : We K io H D z h) (E : Ext io H io' H') : We K io' H' D z h := fun io2 H2 S2 E2 R r => w io2 H2 S2 (E.trans E2) R r
theorem we_ext {K : PySem.W.Frag} {io io' : List Addr} {H H' : Hp} {D : Ends} {r : Res (Fl × Lo)} (w : wpR r (We K io H D)) (E : Ext io H io' H') : wpR r (We K io' H' D) := wpR_mono w fun _ _ p => p.ext E
def tS (K : PySem.W.Frag) (F : Fn) (W : Nat) (s : S) : TS := fun D S H => ∃ io σ h, RepS K io H σ S ∧ RepH K io H h ∧ wpR (execS F W s σ h) (We K io H D)

theorem swaps_no {e : Expr} (h : isComp e = false) (t : Option Expr) (l : Nat) (env : Env) : swapsWith e t l env = pure false := by
  cases e <;> first | rfl | (simp [isComp] at h)
theorem swaps_yes {e : Expr} {x : Str} {px : Pos} {sc : Scope} {l : Nat} {env : Env} (hk : env.scope.kind = .function) (hs : env.scope = sc) (h : swC sc x px e = true) : swapsWith e (some (.Name x px)) l env = pure true := by
  cases e <;> try exact absurd (show false = true from h) Bool.false_ne_true
  rename_i elt gs scope pos
  unfold swC at h
  simp only [Bool.and_eq_true] at h
  obtain ⟨⟨h1, h2⟩, h3⟩ := h
  exact sw_true hk (by rw [hs]; exact isLocal_of h1) h2 (by simpa using h3)
theorem notLocal_of {env : Env} {sc : Scope} {x : Str} (hs : env.scope = sc) (h : isLocal sc x = false) : (env.kindOf x == some NameKind.local) = false := by
  unfold Env.kindOf
  rw [hs]
  unfold isLocal at h
  cases e : sc.names.lookup x with
  | none => rfl
  | some k => rw [e] at h; cases k <;> first | rfl | (simp at h)
theorem swaps_cell {e : Expr} {x : Str} {px : Pos} {sc : Scope} {l : Nat} {env : Env} (hs : env.scope = sc) (h : isLocal sc x = false) : swapsWith e (some (.Name x px)) l env = pure false := by
  have := notLocal_of hs h
  cases e <;> first | rfl | (simp only [swapsWith, this, Bool.and_false, Bool.false_and])
theorem filterMap_lt {α β : Type} {f : α → Option β} : ∀ l : List α, (∃ t ∈ l, f t = none) → (l.filterMap f).length < l.length
  | [], ⟨_, h, _⟩ => by cases h
  | a :: l, ⟨t, ht, e⟩ => by
    have le : (l.filterMap f).length ≤ l.length := List.length_filterMap_le f l
    cases ea : f a with
    | none => rw [List.filterMap_cons_none ea, List.length_cons]; omega
    | some b =>
      rw [List.filterMap_cons_some ea, List.length_cons, List.length_cons]
      rcases List.mem_cons.mp ht with rfl | ht
      · rw [e] at ea; cases ea
      · have := filterMap_lt l ⟨t, ht, e⟩; omega
theorem swapped_none {es vs : List Expr} {k k2 : Nat} {p p2 : Pos} {sc : Scope} {env : Env} (hs : env.scope = sc) (h : noSwap sc es = true) : swappedStores [.Tuple es k p] (.Tuple vs k2 p2) env = pure none := by
  unfold swappedStores
  simp only
  split
  · rfl
  · split
    · rfl
    · rw [if_pos]
      rw [Bool.or_eq_true]
      left
      rw [bne_iff_ne]
      refine Nat.ne_of_lt (filterMap_lt _ ?_)
      unfold noSwap at h
      rw [List.any_eq_true] at h
      obtain ⟨t, ht, e⟩ := h
      refine ⟨t, ht, ?_⟩
      cases t <;> try rfl
      rename_i x px
      have := notLocal_of (env := env) hs (by simpa using e)
      simp only [this, Bool.false_and]
      rfl
theorem swapped_tup {es : List Expr} {k : Nat} {p : Pos} {e : Expr} {env : Env} (h : ∀ a b d, e ≠ .Tuple a b d) : swappedStores [.Tuple es k p] e env = pure none := by
  cases e <;> first | rfl | (exact absurd rfl (h _ _ _))
theorem swapped_2 {x y : Str} {px py pt pt2 : Pos} {a b : Expr} {kt k2 : Nat} {env : Env} (hk : env.scope.kind = .function) (hx : env.kindOf x = some .local) (hy : env.kindOf y = some .local) (hxy : x ≠ y) (hl : (px.line == py.line) = true)
    (hf : (foldedForSure 8 a && foldedForSure 8 b) = false) (hc : (constantsAlone 8 a && constantsAlone 8 b) = false) (ha : notStar a = true) (hb : notStar b = true) :
    swappedStores [.Tuple [.Name x px, .Name y py] kt pt] (.Tuple [a, b] k2 pt2) env = pure (some [x, y]) := by
  have hbk : env.blockKind = .function := by unfold Env.blockKind; rw [hk]; rfl
  have hl2 : (py.line == px.line) = true := by
    have : px.line = py.line := by simpa using hl
    simp [this]
  unfold swappedStores
  simp only [List.length_cons, List.length_nil, hbk, List.any_cons, List.any_nil, List.filterMap_cons, List.filterMap_nil, hx, hy, List.head?_cons, Option.map_some, Option.getD_some, Expr.pos, hl2, List.all_cons, List.all_nil, hf, hc, Bool.and_true]
  simp [List.eraseDups_cons, hxy, Ne.symm hxy]
  intro h
  exfalso
  rcases h with h | h
  · cases a <;> simp [notStar] at h ha
  · cases b <;> simp [notStar] at h hb
theorem swapped_3 {x y z : Str} {px py pz pt pt2 : Pos} {a b d : Expr} {kt k2 : Nat} {env : Env} (hk : env.scope.kind = .function) (hx : env.kindOf x = some .local) (hy : env.kindOf y = some .local) (hz : env.kindOf z = some .local)
    (hxy : x ≠ y) (hxz : x ≠ z) (hyz : y ≠ z) (hl : (px.line == py.line) = true) (hm : (px.line == pz.line) = true)
    (hf : (foldedForSure 8 a && foldedForSure 8 b && foldedForSure 8 d) = false) (hc : (constantsAlone 8 a && constantsAlone 8 b && constantsAlone 8 d) = false) (ha : notStar a = true) (hb : notStar b = true) (hd : notStar d = true) :
    swappedStores [.Tuple [.Name x px, .Name y py, .Name z pz] kt pt] (.Tuple [a, b, d] k2 pt2) env = pure (some [x, y, z]) := by
  have hbk : env.blockKind = .function := by unfold Env.blockKind; rw [hk]; rfl
  have hl2 : (py.line == px.line) = true := by
    have : px.line = py.line := by simpa using hl
    simp [this]
  have hm2 : (pz.line == px.line) = true := by
    have : px.line = pz.line := by simpa using hm
    simp [this]
  unfold swappedStores
  rw [Bool.and_assoc] at hf hc
  simp only [List.length_cons, List.length_nil, hbk, List.any_cons, List.any_nil, List.filterMap_cons, List.filterMap_nil, hx, hy, hz, List.head?_cons, Option.map_some, Option.getD_some, Expr.pos, hl2, hm2, List.all_cons, List.all_nil, hf, hc, Bool.and_true]
  simp [List.eraseDups_cons, hxy, hxz, hyz, Ne.symm hxy, Ne.symm hxz, Ne.symm hyz]
  intro h
  exfalso
  rcases h with h | h | h
  · cases a <;> simp [notStar] at h ha
  · cases b <;> simp [notStar] at h hb
  · cases d <;> simp [notStar] at h hd

section
variable {c : Cc} {F : Fn} {n W : Nat} {X : Cx}
/-- a value stored at a name -/
theorem asg_name {e : E} {i : Nat} : ∀ D S H, tS X.K F W (.asg (.name i) e) D S H → tAsg (tI X.K F e) (gName i) D S H := fun D S H ⟨io, σ, h, rs, R, w⟩ => by
  rw [execS] at w
  refine tI_then rs R (wpR_bind.1 w) fun v h1 io1 H1 x p E1 rs1 R1 rx => ?_
  have p : We X.K io H D (.nx, σ.set i (some v)) h1 := p
  exact p io1 H1 _ E1 R1 (rs1.set rx i)
theorem ix_ne {N : List Str} {i j : Nat} {x y : Str} (hi : N[i]? = some x) (hj : N[j]? = some y) (h : x ≠ y) : i ≠ j := fun e => by
  subst e; rw [hi] at hj; exact h (Option.some.inj hj)
/-- a loop over what is walked -/
theorem loopF_w {body : IV → Lo → IH → Res (Fl × Lo)} {J : It} {D : Ends} {io0 : List Addr} {H0 : Hp} {m0 : Nat} {st0 : ItS} {h0 : IH} {σ0 : Lo} {S0 : L2.St} {B : V → L2.St → Hp → Ends → Prop}
    (rs0 : RepS X.K io0 H0 σ0 S0) (R0 : RepH X.K io0 H0 h0) (r0 : ItRel X.K io0 H0 st0 0 J) (w0 : wpR (loopF body m0 st0 σ0 h0) (We X.K io0 H0 D))
    (hT : ∀ (v : IV) (x : V) (io : List Addr) (H : Hp) (h : IH) (σ : Lo) (S : L2.St) (N : L2.St → Hp → Prop), Ext io0 H0 io H → RepS X.K io H σ S → RepH X.K io H h → RepV X.K io H v x →
      wpR (body v σ h) (We X.K io H { D with nx := N, ct := N, bk := D.nx }) → B x S H { D with nx := N, ct := N, bk := D.nx }) :
    ∃ Wv : Nat → Nat → L2.St → Hp → Prop, (∃ m, Wv 0 m S0 H0) ∧ ∀ i m S H, Wv i m S H →
      (J.stop i H ∧ D.nx S H) ∨ (J.go i H ∧ ∃ N : L2.St → Hp → Prop, (∀ S' H', N S' H' → ∃ m', m' < m ∧ Wv (i + 1) m' S' H') ∧ ∀ x H', J.yld i H x H' → B x S H' { D with nx := N, ct := N, bk := D.nx }) := by
  refine ⟨fun i m S H => ∃ io h st σ, Ext io0 H0 io H ∧ RepS X.K io H σ S ∧ RepH X.K io H h ∧ ItRel X.K io H st i J ∧ wpR (loopF body m st σ h) (We X.K io H D), ⟨m0, io0, h0, st0, σ0, Ext.refl _ _, rs0, R0, r0, w0⟩, ?_⟩
  rintro i m S H ⟨io, h, st, σ, E, rs, R, r, w⟩
  cases m with
  | zero => exact w.elim
  | succ m =>
    rw [loopF] at w
    cases en : st.next h with
    | none => rw [en] at w; exact w.elim
    | some o =>
      rw [en] at w
      have s := r.step R en
      cases o with
      | none => exact .inl ⟨s, (show We X.K io H D (.nx, σ) h from w) io H S (Ext.refl _ _) R rs⟩
      | some p =>
        obtain ⟨v, st'⟩ := p
        obtain ⟨hgo, hy⟩ := s
        refine .inr ⟨hgo, fun S' H' => ∃ io' h' σ', Ext io0 H0 io' H' ∧ RepS X.K io' H' σ' S' ∧ RepH X.K io' H' h' ∧ ItRel X.K io' H' st' (i + 1) J ∧ wpR (loopF body m st' σ' h') (We X.K io' H' D), fun S' H' ⟨io', h', σ', a1, a2, a3, a4, a5⟩ => ⟨m, Nat.lt_succ_self m, io', h', st', σ', a1, a2, a3, a4, a5⟩, fun x H' y => ?_⟩
        obtain ⟨E1, R1, rv, r1⟩ := hy x H' y
        refine hT v x io H' h σ S _ (E.trans E1) (rs.mono E1) R1 rv (wpR_mono (wpR_bind.1 w) fun p2 h2 q io2 H2 S2 E2 R2 rs2 => ?_)
        obtain ⟨f2, σ2⟩ := p2
        have E12 := E1.trans E2
        cases f2 with
        | nx => exact ⟨io2, h2, σ2, E.trans E12, rs2, R2, r1.mono E2, we_ext q E12⟩
        | ct => exact ⟨io2, h2, σ2, E.trans E12, rs2, R2, r1.mono E2, we_ext q E12⟩
        | bk => exact (show We X.K io H D (.nx, σ2) h2 from q) io2 H2 S2 E12 R2 rs2
        | rt v2 => exact (show We X.K io H D (.rt v2, σ2) h2 from q) io2 H2 S2 E12 R2 rs2
/-- a while -/
theorem loopW_w {e : E} {b : S} : ∀ D S H, tS X.K F W (.whil e b) D S H → tWhile (tT X.K F e) (tS X.K F W b) D S H := fun D S0 H0 ⟨io0, σ0, h0, rs0, R0, w0⟩ => by
  rw [execS] at w0
  refine ⟨fun m S H => ∃ io h σ, Ext io0 H0 io H ∧ RepS X.K io H σ S ∧ RepH X.K io H h ∧ wpR (loopW (fun σ h => evalE F e σ h) (fun σ h => execS F W b σ h) m σ h) (We X.K io H D), ⟨W, io0, h0, σ0, Ext.refl _ _, rs0, R0, w0⟩, ?_⟩
  rintro m S H ⟨io, h, σ, E, rs, R, w⟩
  cases m with
  | zero => exact w.elim
  | succ m =>
    rw [loopW] at w
    refine ⟨io, σ, h, rs, R, wpR_mono (wpR_bind.1 w) fun v h1 p => ?_⟩
    cases v <;> try exact (show False from p).elim
    rename_i k
    refine ⟨k, rfl, fun io1 H1 E1 R1 => ?_⟩
    cases k with
    | false => exact iteF ((show We X.K io H D (.nx, σ) h1 from p) io1 H1 S E1 R1 (rs.mono E1))
    | true =>
      refine iteT ⟨fun S' H' => ∃ io' h' σ', Ext io0 H0 io' H' ∧ RepS X.K io' H' σ' S' ∧ RepH X.K io' H' h' ∧ wpR (loopW (fun σ h => evalE F e σ h) (fun σ h => execS F W b σ h) m σ' h') (We X.K io' H' D),
        fun S' H' ⟨io', h', σ', a1, a2, a3, a5⟩ => ⟨m, Nat.lt_succ_self m, io', h', σ', a1, a2, a3, a5⟩, io1, σ, h1, rs.mono E1, R1, wpR_mono (wpR_bind.1 p) fun p2 h2 q io2 H2 S2 E2 R2 rs2 => ?_⟩
      obtain ⟨f2, σ2⟩ := p2
      have E12 := E1.trans E2
      cases f2 with
      | nx => exact ⟨io2, h2, σ2, E.trans E12, rs2, R2, we_ext q E12⟩
      | ct => exact ⟨io2, h2, σ2, E.trans E12, rs2, R2, we_ext q E12⟩
      | bk => exact (show We X.K io H D (.nx, σ2) h2 from q) io2 H2 S2 E12 R2 rs2
      | rt v2 => exact (show We X.K io H D (.rt v2, σ2) h2 from q) io2 H2 S2 E12 R2 rs2
end
end PI

set_option Elab.async false
set_option linter.all false
set_option maxRecDepth 100000
/-! PIm: the theorem of statements; defs; the end. -/
namespace PI
open PySem PySem.Spec PyProof.Rows L2
section
variable {c : Cc} {F : Fn} {n W : Nat} {X : Cx}
theorem stmts_list {m : Nat} (ih : ∀ st s, cS m c st = some s → PS X st (tS X.K F W s)) : ∀ (l : List Stmt) (s : S), cSs (cS m c) l = some s → PSs X l (tS X.K F W s)
  | [], s, h => by
    simp only [cSs] at h; cases h
    refine PSs.imp pss_nil fun D S H ⟨io, σ, hh, rs, R, w⟩ => ?_
    exact (show We X.K io H D (.nx, σ) hh from w) io H S (Ext.refl _ _) R rs
  | st :: l, s, h => by
    simp only [cSs] at h
    cases e1 : cS m c st with
    | none => rw [e1] at h; cases h
    | some x =>
      cases e2 : cSs (cS m c) l with
      | none => rw [e1, e2] at h; cases h
      | some r =>
        rw [e1, e2] at h; cases h
        refine PSs.imp (pss_cons (ih st x e1) (stmts_list ih l r e2)) fun D S H ⟨io, σ, hh, rs, R, w⟩ => ?_
        rw [execS] at w
        refine ⟨io, σ, hh, rs, R, wpR_mono (wpR_bind.1 w) fun p h1 q io1 H1 S1 E1 R1 rs1 => ?_⟩
        obtain ⟨f, σ1⟩ := p
        cases f with
        | nx => exact ⟨io1, σ1, h1, rs1, R1, we_ext q E1⟩
        | bk => exact (show We X.K io H D (.bk, σ1) h1 from q) io1 H1 S1 E1 R1 rs1
        | ct => exact (show We X.K io H D (.ct, σ1) h1 from q) io1 H1 S1 E1 R1 rs1
        | rt v => exact (show We X.K io H D (.rt v, σ1) h1 from q) io1 H1 S1 E1 R1 rs1
theorem s_tup (g : Good c F n X) {m W : Nat} (ihE : ∀ e ie, cE m c e = some ie → PE X e (tI X.K F ie)) {es vs : List Expr} {k k2 : Nat} {p p2 pos : Pos} {s : S} (hn : noSwap c.sc es = true) (h : cTup c (cE m c) (.Tuple es k p) (.Tuple vs k2 p2) = some s) :
    PS X (.Assign [.Tuple es k p] (.Tuple vs k2 p2) pos) (tS X.K F W s) := by
  unfold cTup at h
  split at h
  · rename_i t v a1 a2
    cases h
    have hw : swappedStores [.Tuple es k p] (.Tuple vs k2 p2) X.env = pure none := swapped_none g.sc hn
    have hs : swapsWithSole [.Tuple es k p] (.Tuple vs k2 p2) pos.line X.env = pure false := by
      unfold swapsWithSole
      exact swaps_no rfl _ _ _
    refine PS.imp (ps_asg (ihE _ _ a2) (pg_T g 3 _ t a1) hs hw rfl) fun D S H ⟨io, σ, hh, rs, R, w⟩ => ?_
    rw [execS] at w
    refine tI_then rs R (wpR_bind.1 w) fun v h1 io1 H1 x p E1 rs1 R1 rx => ?_
    obtain ⟨z, ez, q⟩ := wpR_opt p
    cases ep : putT t v σ with
    | none => rw [ep] at ez; cases ez
    | some σ2 =>
      rw [ep] at ez; cases ez
      exact ⟨io1, σ, h1, v, σ2, rs1, R1, rx, ep, fun S2 r2 _ => q io1 H1 S2 E1 R1 r2⟩
  · cases h
theorem lc_parts (g : Good c F n X) {m : Nat} {elt : Expr} {gs : List Comprehension} {scope : Scope} {pos : Pos} {v : E} (h : cE m c (.ListComp elt gs scope pos) = some v) {y : Str} {j : Nat} {py spos : Pos}
    (hy : X.N[j]? = some y) (hyl : X.env.scope.names.lookup y = some .local) (hsw : swapsWith (.ListComp elt gs scope pos) (some (.Name y py)) spos.line X.env = pure true) :
    PS X (.Assign [.Name y py] (.ListComp elt gs scope pos) spos) (tAsg (tI X.K F v) (gName j)) := by
  cases m with
  | zero => simp [cE] at h
  | succ m =>
    have ihE : ∀ e ie, cE m c e = some ie → PE X e (tI X.K F ie) := fun e ie h => (exprs m c X g e ie h).1.1
    have bl := fun scope s H C cl fp => exprs m (c.blk scope) _ (g.blk (n := n) (F := F) s H scope C cl fp)
    unfold cE at h
    split at h <;> try contradiction
    · rename_i e1 tg it ifs sc2 p2 heq
      cases heq
      split at h
      · rename_i hc
        rw [Bool.and_eq_true] at hc
        split at h
        · rename_i a1 a2 a3 a4
          split at h
          · rename_i hl
            rw [Bool.and_eq_true] at hl
            cases h
            exact s_lc g hc.1 (by simpa using hc.2) a1 (it_of g ihE a2) (fun s H C cl fp => pts_of (fun e ie h => (bl _ s H C cl fp e ie h).1.2) ifs _ a3 (by simpa using hl.1)) (fun s H C cl fp => (bl _ s H C cl fp _ _ a4).1.1) hl.2 hy hyl hsw
          · cases h
        · cases h
      · cases h
    · rename_i e1 tg it ifs tg1 it1 ifs1 sc2 p2 heq
      cases heq
      split at h
      · rename_i hc
        rw [Bool.and_eq_true, Bool.and_eq_true] at hc
        split at h
        · rename_i a1 a2 a3 a4 a5 a6 a7
          split at h
          · rename_i hl
            simp only [Bool.and_eq_true] at hl
            obtain ⟨⟨⟨l1, l2⟩, l3⟩, l4⟩ := hl
            cases h
            exact s_lc2 g hc.1.1 (by simpa using hc.1.2) (by simpa using hc.2) a1 (it_of g ihE a2) (fun s H C cl fp => pts_of (fun e ie h => (bl _ s H C cl fp e ie h).1.2) ifs _ a3 (by simpa using l1))
              a4 (fun s H C cl fp => it_of (g.blk s H _ C cl fp) (fun e ie h => (bl _ s H C cl fp e ie h).1.1) a5) (fun s H C cl fp => pts_of (fun e ie h => (bl _ s H C cl fp e ie h).1.2) ifs1 _ a6 (by simpa using l2)) (fun s H C cl fp => (bl _ s H C cl fp _ _ a7).1.1) l3 l4 hy hyl hsw
          · cases h
        · cases h
      · cases h
theorem stmts (m : Nat) : ∀ (c : Cc) (X : Cx), Good c F n X → X.env.scope.kind = .function → ∀ (st : Stmt) (s : S), cS m c st = some s → PS X st (tS X.K F W s) := by
  induction m with
  | zero => intro c X g hk st s h; simp [cS] at h
  | succ m ih =>
    intro c X g hk st s h
    have ihE : ∀ e ie, cE m c e = some ie → PE X e (tI X.K F ie) := fun e ie h => (exprs m c X g e ie h).1.1
    have ihT : ∀ e ie, cE m c e = some ie → PT X e (tT X.K F ie) := fun e ie h => (exprs m c X g e ie h).1.2
    have ihS : ∀ l s, cSs (cS m c) l = some s → PSs X l (tS X.K F W s) := stmts_list fun st s h => ih c X g hk st s h
    have nd : X.N.Nodup := by rw [g.hN]; exact g.nd
    have loc : ∀ {x}, isLocal c.sc x = true → X.env.scope.names.lookup x = some .local := fun h => by rw [g.sc]; exact isLocal_of h
    unfold cS at h
    split at h
    · -- Expr
      split at h
      · cases h
      · rename_i e p hc
        cases e1 : cE m c e with
        | none => rw [e1] at h; cases h
        | some x =>
          rw [e1] at h; cases h
          refine PS.imp (ps_expr (ihE _ _ e1) (swaps_no (by simpa using hc) _ _ _)) fun D S H ⟨io, σ, hh, rs, R, w⟩ => ?_
          rw [execS] at w
          exact tI_then rs R (wpR_bind.1 w) fun v h1 io1 H1 x p E1 rs1 R1 rx => (show We X.K io H D (.nx, σ) h1 from p) io1 H1 S E1 R1 rs1
    · -- name = e
      rename_i x px e p
      split at h
      · rename_i i v a1 a2
        obtain ⟨h1, h2, h3⟩ := slotW_of g a1
        split at h
        · split at h
          · rename_i hsw
            cases h
            cases e <;> try exact absurd (show false = true from hsw) Bool.false_ne_true
            rename_i elt gs scope pos
            have hl : isLocal c.sc x = true := by
              unfold swC at hsw
              simp only [Bool.and_eq_true] at hsw
              exact hsw.1.1
            exact PS.imp (lc_parts g a2 h1 (loc hl) (swaps_yes hk g.sc hsw)) asg_name
          · split at h
            · rename_i hloc
              cases h
              exact PS.imp (ps_set nd h1 h2 (ihE _ _ a2) (swaps_cell g.sc (by simpa using hloc)) h3) asg_name
            · cases h
        · rename_i hc
          cases h
          exact PS.imp (ps_set nd h1 h2 (ihE _ _ a2) (swaps_no (by simpa using hc) _ _ _) h3) asg_name
      · cases h
    · -- x, y = a, b
      rename_i x px y py k1 p1 a b k2 p2 p
      split at h
      · rename_i i j v w a1 a2 a3 a4
        split at h
        · rename_i hc
          cases h
          simp only [Bool.and_eq_true, Bool.not_eq_true'] at hc
          obtain ⟨⟨⟨⟨⟨⟨⟨b1, b2⟩, b3⟩, b4⟩, b5⟩, b6⟩, b7⟩, b8⟩ := hc
          have hxy : x ≠ y := by simpa using b3
          obtain ⟨h1, _, _⟩ := slotW_of g a1
          obtain ⟨h2, _, _⟩ := slotW_of g a2
          refine PS.imp (ps_par g.calm nd h1 h2 (ix_ne h1 h2 hxy) (loc b1) (loc b2) (pa_cons (ihE _ _ a3) (pa_cons (ihE _ _ a4) pa_nil (star_ne a4 [] _)) (star_ne a3 _ _)) (swapped_2 hk (loc b1) (loc b2) hxy b4 b5 b6 b7 b8) rfl) fun D S H ⟨io, σ, hh, rs, R, w⟩ => ?_
          rw [execS] at w
          refine tI_then rs R (wpR_bind.1 w) fun v h1 io1 H1 x p E1 rs1 R1 rx => tI_then rs1 R1 (wpR_bind.1 p) fun u h2 io2 H2 y q E2 rs2 R2 ry => ⟨x, y, rfl, ?_⟩
          exact (show We X.K io H D (.nx, (σ.set i (some v)).set j (some u)) h2 from q) io2 H2 _ (E1.trans E2) R2 ((rs2.set (rx.mono E2) i).set ry j)
        · split at h
          · rename_i hn
            exact s_tup g ihE hn h
          · cases h
      · cases h
    · -- x, y, z = a, b, d
      rename_i x px y py z pz k1 p1 a b d k2 p2 p
      split at h
      · rename_i i j l v w u a1 a2 a3 a4 a5 a6
        split at h
        · rename_i hc
          cases h
          simp only [Bool.and_eq_true, Bool.not_eq_true'] at hc
          obtain ⟨⟨⟨⟨⟨⟨⟨⟨⟨⟨⟨⟨b1, b2⟩, b3⟩, n1⟩, n2⟩, n3⟩, l1⟩, l2⟩, f1⟩, f2⟩, s1⟩, s2⟩, s3⟩ := hc
          have hxy : x ≠ y := by simpa using n1
          have hxz : x ≠ z := by simpa using n2
          have hyz : y ≠ z := by simpa using n3
          obtain ⟨h1, _, _⟩ := slotW_of g a1
          obtain ⟨h2, _, _⟩ := slotW_of g a2
          obtain ⟨h3, _, _⟩ := slotW_of g a3
          refine PS.imp (ps_par3 g.calm nd h1 h2 h3 (ix_ne h1 h2 hxy) (ix_ne h1 h3 hxz) (ix_ne h2 h3 hyz) (loc b1) (loc b2) (loc b3) (pa_cons (ihE _ _ a4) (pa_cons (ihE _ _ a5) (pa_cons (ihE _ _ a6) pa_nil (star_ne a6 [] _)) (star_ne a5 _ _)) (star_ne a4 _ _))
            (swapped_3 hk (loc b1) (loc b2) (loc b3) hxy hxz hyz l1 l2 f1 f2 s1 s2 s3) rfl) fun D S H ⟨io, σ, hh, rs, R, w⟩ => ?_
          rw [execS] at w
          refine tI_then rs R (wpR_bind.1 w) fun v h1 io1 H1 x p E1 rs1 R1 rx => tI_then rs1 R1 (wpR_bind.1 p) fun u h2 io2 H2 y q E2 rs2 R2 ry => tI_then rs2 R2 (wpR_bind.1 q) fun t h3 io3 H3 z q3 E3 rs3 R3 rz => ⟨x, y, z, rfl, ?_⟩
          exact (show We X.K io H D (.nx, ((σ.set i (some v)).set j (some u)).set l (some t)) h3 from q3) io3 H3 _ ((E1.trans E2).trans E3) R3 (((rs3.set ((rx.mono E2).mono E3) i).set (ry.mono E3) j).set rz l)
        · cases h
      · cases h
    · -- tuple target
      rename_i es k p e p' n1 n2
      split at h
      · split at h
        · rename_i hn
          exact s_tup g ihE hn h
        · cases h
      · rename_i hnt
        split at h
        · cases h
        · rename_i hc
          split at h
          · rename_i t v a1 a2
            cases h
            have hw : swappedStores [.Tuple es k p] e X.env = pure none := swapped_tup fun a b d => by
              intro z; subst z; exact hnt a b d rfl
            have hs : swapsWithSole [.Tuple es k p] e p'.line X.env = pure false := by
              unfold swapsWithSole
              exact swaps_no (by simpa using hc) _ _ _
            refine PS.imp (ps_asg (ihE _ _ a2) (pg_T g 3 _ t a1) hs hw rfl) fun D S H ⟨io, σ, hh, rs, R, w⟩ => ?_
            rw [execS] at w
            refine tI_then rs R (wpR_bind.1 w) fun v h1 io1 H1 x p E1 rs1 R1 rx => ?_
            obtain ⟨z, ez, q⟩ := wpR_opt p
            cases ep : putT t v σ with
            | none => rw [ep] at ez; cases ez
            | some σ2 =>
              rw [ep] at ez; cases ez
              exact ⟨io1, σ, h1, v, σ2, rs1, R1, rx, ep, fun S2 r2 _ => q io1 H1 S2 E1 R1 r2⟩
          · cases h
    · -- o[i] = e
      rename_i o i p e p'
      split at h
      · cases h
      · rename_i hc
        simp only [Bool.or_eq_true, not_or, Bool.not_eq_true] at hc
        split at h
        · rename_i v x y a1 a2 a3
          cases h
          have hs : swapsWithSole [.Subscript o i p] e p'.line X.env = pure false := by
            unfold swapsWithSole
            exact swaps_no hc.2 _ _ _
          have hsl := hc.1
          refine PS.imp (ps_asg (ihE _ _ a1) (pg_sub (ihE _ _ a2) (ihE _ _ a3) set_i (by intro v; cases i <;> first | rfl | (simp [slicy] at hsl))) hs (by rfl) rfl) fun D S H ⟨io, σ, hh, rs, R, w⟩ => ?_
          rw [execS] at w
          refine tI_then rs R (wpR_bind.1 w) fun v h1 io1 H1 x p E1 rs1 R1 rx => tI_then rs1 R1 (wpR_bind.1 p) fun u h2 io2 H2 y q E2 rs2 R2 ry => tI_then rs2 R2 (wpR_bind.1 q) fun t h3 io3 H3 z q3 E3 rs3 R3 rz => ?_
          refine ⟨io3, h3, u, t, v, R3, ry.mono E3, rz, (rx.mono E2).mono E3, wpR_mono (wpR_bind.1 q3) fun _ h4 q4 io4 H4 E4 R4 => ?_⟩
          exact (show We X.K io H D (.nx, σ) h4 from q4) io4 H4 S (((E1.trans E2).trans E3).trans E4) R4 (rs3.mono E4)
        · cases h
    · -- name op= e
      rename_i x px op e p
      have hop : ∀ {o : BOp}, cBin op = some o → op = uBin o := bin_of
      split at h
      · rename_i i v a1 a2 a3
        cases h
        have e0 := hop a2; subst e0
        obtain ⟨h1, h2, h3⟩ := slotW_of g a1
        refine PS.imp (ps_aug nd h1 h2 (ihE _ _ a3) ip_add h3) fun D S H ⟨io, σ, hh, rs, R, w⟩ => ?_
        rw [execS] at w
        cases es : σ[i]? with
        | none => rw [es] at w; exact w.elim
        | some o =>
          cases o with
          | none => rw [es] at w; exact w.elim
          | some v0 =>
            rw [es] at w
            obtain ⟨x0, hx0, rx0⟩ := rs.get i v0 es
            refine ⟨x0, hx0, tI_then rs R (wpR_bind.1 w) fun v h1 io1 H1 x p E1 rs1 R1 rx => ?_⟩
            cases rx0 <;> cases rx <;> try exact (show False from p).elim
            rename_i a b
            exact ⟨a, b, rfl, rfl, (show We X.K io H D (.nx, σ.set i (some (.int (a + b)))) h1 from p) io1 H1 _ E1 R1 (rs1.set (.int _) i)⟩
      · rename_i i v a1 a2 a3
        cases h
        have e0 := hop a2; subst e0
        obtain ⟨h1, h2, h3⟩ := slotW_of g a1
        refine PS.imp (ps_aug nd h1 h2 (ihE _ _ a3) ip_sub h3) fun D S H ⟨io, σ, hh, rs, R, w⟩ => ?_
        rw [execS] at w
        cases es : σ[i]? with
        | none => rw [es] at w; exact w.elim
        | some o =>
          cases o with
          | none => rw [es] at w; exact w.elim
          | some v0 =>
            rw [es] at w
            obtain ⟨x0, hx0, rx0⟩ := rs.get i v0 es
            refine ⟨x0, hx0, tI_then rs R (wpR_bind.1 w) fun v h1 io1 H1 x p E1 rs1 R1 rx => ?_⟩
            cases rx0 <;> cases rx <;> try exact (show False from p).elim
            rename_i a b
            exact ⟨a, b, rfl, rfl, (show We X.K io H D (.nx, σ.set i (some (.int (a - b)))) h1 from p) io1 H1 _ E1 R1 (rs1.set (.int _) i)⟩
      · cases h
    · -- o[i] op= e
      rename_i o i px op e p
      have hop : ∀ {o : BOp}, cBin op = some o → op = uBin o := bin_of
      split at h
      · cases h
      · rename_i hsl
        have aux : ∀ (f : Int → Int → Int) (bo : BOp) (xo yi ve : E) (D : Ends) (S : L2.St) (H : Hp) (io : List Addr) (σ : Lo) (hh : IH), RepS X.K io H σ S → RepH X.K io H hh → (∀ x y c, augV bo x y = some c → ∃ a b, x = .int a ∧ y = .int b ∧ c = f a b) →
            wpR ((evalE F xo σ hh).bind fun v h1 => (evalE F yi σ h1).bind fun w h2 => if isL v h2 then (opt (subI v w h2) h2).bind fun x h3 => (evalE F ve σ h3).bind fun y h4 => (opt (augV bo x y) h4).bind fun c h5 => (setI v w (.int c) h5).bind fun _ h6 => .ok ((.nx, σ) : Fl × Lo) h6
              else .bad) (We X.K io H D) →
            tAugS (tI X.K F xo) (tI X.K F yi) (tI X.K F ve) (rIxL X.K) (ipI f) (r3s X.K) D S H := by
          intro f bo xo yi ve D S H io σ hh rs R hf w
          refine tI_then rs R (wpR_bind.1 w) fun v h1 io1 H1 x1 p E1 rs1 R1 ro => tI_then rs1 R1 (wpR_bind.1 p) fun u h2 io2 H2 x2 q E2 rs2 R2 ri => ?_
          cases hL : isL v h2 with
          | false => rw [hL] at q; exact (show False from q).elim
          | true =>
            rw [hL, if_pos rfl] at q
            have ro2 := ro.mono E2
            cases ro2 <;> try exact absurd (show false = true from hL) Bool.false_ne_true
            rename_i n a ha
            have hm : (getM h2 n).isSome = true := hL
            cases el : getM h2 n with
            | none => rw [el] at hm; cases hm
            | some l =>
              obtain ⟨xs, hx, lx⟩ := R2.lst el ha
              obtain ⟨z, ez, q5⟩ := wpR_opt (wpR_bind.1 q)
              clear q
              cases ri <;> try exact absurd (show (none : Option IV) = some z from ez) (fun z => nomatch z)
              rename_i k
              have gl : seqI h2 (.ref n) = some l := by
                show getL h2 n = some l
                unfold getM at el
                unfold getL
                split at el
                · rename_i l' e'; rw [e']; exact el
                · cases el
              simp only [subI, gl] at ez
              obtain ⟨z', hz', rz⟩ := lx.atI ez
              refine ⟨a, xs, k, z', rfl, rfl, SqL.of hx, hz', tI_then rs2 R2 (wpR_bind.1 q5) fun y h3 io3 H3 y' q3 E3 rs3 R3 ry => ?_⟩
              obtain ⟨cc, ec, q6⟩ := wpR_opt (wpR_bind.1 q3)
              obtain ⟨b1, b2, e1, e2, e3⟩ := hf z y cc ec
              subst e1
              subst e2
              subst e3
              have rz3 := rz.mono E3
              cases rz3
              cases ry
              refine ⟨b1, b2, rfl, rfl, io3, h3, .ref n, .int k, .int (f b1 b2), R3, (RepV.ref ha).mono E3, .int _, .int _, wpR_mono (wpR_bind.1 q6) fun _ h4 q4 io4 H4 E4 R4 => ?_⟩
              exact (show We X.K io H D (.nx, σ) h4 from q4) io4 H4 S (((E1.trans E2).trans E3).trans E4) R4 (rs3.mono E4)
        split at h
        · rename_i xo yi ve a1 a2 a3 a4
          cases h
          have e0 := hop a3; subst e0
          refine PS.imp (ps_augS (ihE _ _ a1) (ihE _ _ a2) get_list (ihE _ _ a4) ip_add set_i (by intro ov iv new; cases i <;> first | rfl | (simp [slicy] at hsl))) fun D S H ⟨io, σ, hh, rs, R, w⟩ => ?_
          rw [execS] at w
          exact aux (fun i j => i + j) .add xo yi ve D S H io σ hh rs R (fun x y c e => by cases x <;> cases y <;> first | (cases e; exact ⟨_, _, rfl, rfl, rfl⟩) | cases e) w
        · rename_i xo yi ve a1 a2 a3 a4
          cases h
          have e0 := hop a3; subst e0
          refine PS.imp (ps_augS (ihE _ _ a1) (ihE _ _ a2) get_list (ihE _ _ a4) ip_sub set_i (by intro ov iv new; cases i <;> first | rfl | (simp [slicy] at hsl))) fun D S H ⟨io, σ, hh, rs, R, w⟩ => ?_
          rw [execS] at w
          exact aux (fun i j => i - j) .sub xo yi ve D S H io σ hh rs R (fun x y c e => by cases x <;> cases y <;> first | (cases e; exact ⟨_, _, rfl, rfl, rfl⟩) | cases e) w
        · cases h
    · -- return e
      rename_i e p
      cases e1 : cE m c e with
      | none => rw [e1] at h; cases h
      | some x =>
        rw [e1] at h; cases h
        refine PS.imp (ps_ret (ihE _ _ e1)) fun D S H ⟨io, σ, hh, rs, R, w⟩ => ?_
        rw [execS] at w
        exact tI_then rs R (wpR_bind.1 w) fun v h1 io1 H1 x p E1 rs1 R1 rx => (show We X.K io H D (.rt v, σ) h1 from p) io1 H1 S E1 R1 rs1 x rx
    · -- return
      cases h
      refine PS.imp ps_retN fun D S H ⟨io, σ, hh, rs, R, w⟩ => ?_
      exact (show We X.K io H D (.rt .non, σ) hh from w) io H S (Ext.refl _ _) R rs .non .non
    · -- if
      split at h
      · rename_i t a b p x y z a1 a2 a3
        cases h
        refine PS.imp (ps_if (ihT _ _ a1) (ihS _ _ a2) (ihS _ _ a3)) fun D S H ⟨io, σ, hh, rs, R, w⟩ => ?_
        rw [execS] at w
        refine ⟨io, σ, hh, rs, R, wpR_mono (wpR_bind.1 w) fun v h1 p => ?_⟩
        cases v <;> try exact (show False from p).elim
        rename_i k
        refine ⟨k, rfl, fun io1 H1 E1 R1 => ?_⟩
        cases k with
        | true => exact iteT ⟨io1, σ, h1, rs.mono E1, R1, we_ext p E1⟩
        | false => exact iteF ⟨io1, σ, h1, rs.mono E1, R1, we_ext p E1⟩
      · cases h
    · -- while
      split at h
      · rename_i a1 a2
        cases h
        exact PS.imp (ps_while g.pass (ihT _ _ a1) (ihS _ _ a2)) loopW_w
      · cases h
    · -- for
      rename_i tg it b p
      split at h
      · cases h
      · rename_i hset
        split at h
        · rename_i t i y a1 a2 a3
          cases h
          refine PS.imp (ps_for g.pass g.calm (it_of g ihE a2) (pg_T g 3 _ t a1) (ihS _ _ a3) (setty_folded (by simpa using hset) X.env)) fun D S H ⟨io, σ, hh, rs, R, w⟩ => ?_
          rw [execS] at w
          refine ⟨io, σ, hh, rs, R, wpR_mono (wpR_bind.1 w) fun st h1 p io1 H1 J E1 R1 r1 => ?_⟩
          refine loopF_w (X := X) (B := fun x S H D' => gT X.K t x S H fun S2 H2 => tS X.K F W y D' S2 H2) (rs.mono E1) R1 r1 (we_ext p E1) fun v x io2 H2 h2 σ2 S2 N E2 rs2 R2 rx wb => ?_
          cases ep : putT t v σ2 with
          | none => rw [ep] at wb; exact wb.elim
          | some σ3 =>
            rw [ep] at wb
            exact ⟨io2, σ2, h2, v, σ3, rs2, R2, rx, ep, fun S3 r3 _ => ⟨io2, σ3, h2, r3, R2, wb⟩⟩
        · cases h
    · cases h
      refine PS.imp ps_break fun D S H ⟨io, σ, hh, rs, R, w⟩ => ?_
      exact (show We X.K io H D (.bk, σ) hh from w) io H S (Ext.refl _ _) R rs
    · cases h
      refine PS.imp ps_continue fun D S H ⟨io, σ, hh, rs, R, w⟩ => ?_
      exact (show We X.K io H D (.ct, σ) hh from w) io H S (Ext.refl _ _) R rs
    · cases h
      refine PS.imp ps_pass fun D S H ⟨io, σ, hh, rs, R, w⟩ => ?_
      exact (show We X.K io H D (.nx, σ) hh from w) io H S (Ext.refl _ _) R rs
    · cases h
end
end PI

set_option Elab.async false
set_option linter.all false
set_option maxRecDepth 100000
/-! PIn: defs, levels, the end. -/
namespace PI
open PySem PySem.Spec PyProof.Rows L2

theorem fnG_of {CX : CXT} {P : Program} {w : World} {K : PySem.W.Frag} {mg : Str → Option Value} {base : Heap} {k : Nat} {f : Addr} {name qual : Str} {params : Arguments} {body : List Stmt} {scope : Scope} {dV kV doc pm cdv ct oc : Value} {an od : Option Addr}
    {osl : Array (Option Value)} {N ps : List Str} {sp : Sp} (lk : K.lookup f = some ⟨oc, od, .func (PySem.W.fnOf name qual params body scope dV kV doc pm an cdv ct), osl⟩) (hcd : PySem.W.codeIn K cdv qual = true) (S : FnScope N ps scope)
    (len : ∀ vs H Q E, sp vs H Q E → vs.length = ps.length)
    (hbody : ∀ (A : Around) (outer : List Env) (s : Shared) (H : Hp) (vs : List V) (Q : VK) (E : XK), A.guards = some [] → Room k (A.deeper (envOfC qual scope s.heap.objs.size f cdv)) → sp vs H Q E →
      ∃ t, PSs (cxOf CX P w K mg base N qual scope f cdv A outer s H E) body t ∧ t { nx := fun _ H' => Q .non H', rt := Q } (start N vs) H) :
    FnG P w K mg base CX (k + 1) f (PySem.W.fnOf name qual params body scope dV kV doc pm an cdv ct) ps sp := by
  refine ⟨len, fun A outer s H args us vs Q E hgd hr e0 hb r hsp => ?_⟩
  have hl := len _ _ _ _ hsp
  have KX : K.In s.heap := e0.mod.kin.keeps fun b o e => (e0.bs b o e).1
  have lim : s.heap.NoLimit := e0.mod.nolimit.keeps fun b o e => (e0.bs b o e).1
  have hkind : ∀ y ∈ ps.zip us, scope.names.lookup y.1 = some .local ∨ (scope.names.lookup y.1 = some .cell ∧ ((cellsFrom (s.heap.objs.size + 1) scope.names []).lookup y.1).isSome = true) := fun ⟨n, v⟩ hy => by
    rcases S.par n (List.of_mem_zip hy).1 with q | q
    · exact .inl q
    · exact .inr ⟨q, PySem.W.cellsFrom_some _ _ _ (.inl q)⟩
  refine codeAny_call_function hr.depth (KX _ _ lk) rfl S.co S.gen rfl (PySem.W.codeRec_of KX hcd) (hb _ _ _ _ ?_)
  refine wpAny_newFunctionEnv_cells S.kind hkind fun env he s1 x => ?_
  subst he
  refine ⟨lim.keeps x.toInCall.keep, codeAny_func ?_⟩
  obtain ⟨t, ht, hq⟩ := hbody A outer s H vs Q E hgd (hr.deeper _) hsp
  have I : Inv (cxOf CX P w K mg base N qual scope f cdv A outer s H E) [] (start N vs) H s1 := inv_start S hr.hd e0 hl r x
  refine wpAny_mono (ht.run [] s1 (start N vs) H _ I hq) (fun fl s' hs => ?_) fun e s' hs => hs
  have fin : ∀ {σ' : L2.St} {H' : Hp} {v : V} {u : Value}, Inv (cxOf CX P w K mg base N qual scope f cdv A outer s H E) [] σ' H' s' → RelV v u → Q v H' → CE outer P w H s Q u s' :=
    fun {σ' H' v u} J rv q => ⟨v, H', J.os, J.bare, J.base, J.hok, rv, q⟩
  cases fl with
  | ret u =>
    obtain ⟨v, σ', H', J, rv, q⟩ := hs
    exact fin J rv q
  | next =>
    obtain ⟨σ', H', J, q⟩ := hs
    exact fin (v := V.non) (u := Value.none) J rfl q
  | brk =>
    obtain ⟨_, _, _, q⟩ := hs
    exact False.elim q
  | cont =>
    obtain ⟨_, _, _, q⟩ := hs
    exact False.elim q

/-- how a def of the text is the k-th small def -/
structure DefOk (K : PySem.W.Frag) (mg : Str → Option Value) (G : List Str) (C : List (Str × GK)) (x : Str) (d : Def) : Prop where
  ex : ∃ (st : Stmt) (f : Addr) (fd : FuncData) (N ps : List Str) (m : Nat), mg x = some (.ref f) ∧ Fun K x x st f fd ∧ Binds K fd ps [] ∧ FnScope N ps (defScope st) ∧
    cSs (cS m { N := N, sc := defScope st, fn := fun _ => true, G := G, C := C }) (defBody st) = some d.body ∧ d.ps = ps.length ∧ d.slots = N.length

theorem run_len {T : Tab} {W n k : Nat} {d : Def} {vs : List IV} {h : IH} {Q : IV → IH → Prop} (hd : T[k]? = some d) (w : wpR (run T W n k vs h) Q) : vs.length = d.ps := by
  cases n with
  | zero => exact w.elim
  | succ n =>
    rw [run, hd] at w
    simp only [runD] at w
    by_cases hl : vs.length = d.ps
    · exact hl
    · rw [if_neg hl] at w; exact w.elim

theorem served {P : Program} {w : World} {K : PySem.W.Frag} {mg : Str → Option Value} {base : Heap} {G : List Str} {C : List (Str × GK)} {T : Tab} {W : Nat} (hC : ∀ (x : Str) (k : GK), C.lookup x = some k → GkOk mg x k)
    (hG : ∀ (k : Nat) (x : Str), G[k]? = some x → ∃ d, T[k]? = some d ∧ DefOk K mg G C x d) (hB : ∀ x ∈ bltNames, G.contains x = false → mg x = none) :
    ∀ n, Served P w K mg base G (run T W n) n := by
  intro n
  induction n with
  | zero =>
    intro k x hk
    obtain ⟨d, hd, ⟨st, f, fd, N, ps, m, hm, HF, hb, _⟩⟩ := hG k x hk
    exact ⟨f, fd, ps, hm, HF.kp, hb, ⟨fun vs H Q E ⟨io, h, ws, _, _, w⟩ => w.elim, fun A outer s H args us vs Q E _ _ _ _ _ ⟨io, h, ws, _, _, w⟩ => w.elim⟩⟩
  | succ n ih =>
    intro k x hk
    obtain ⟨d, hd, ⟨st, f, fd, N, ps, m, hm, HF, hb, S, hc, hps, hsl⟩⟩ := hG k x hk
    refine ⟨f, fd, ps, hm, HF.kp, hb, ?_⟩
    obtain ⟨oc, od, kV, doc, pm, an, cdv, ct, osl, rfl, lk, hcd⟩ := HF.ex
    refine fnG_of lk hcd S (fun vs H Q E ⟨io, h, ws, R, rl, w⟩ => by rw [← rl.length, run_len hd w, hps]) fun A outer s H vs Q E hgd hr ⟨io, h, ws, R, rl, w⟩ => ?_
    have g : Good { N := N, sc := defScope st, fn := fun _ => true, G := G, C := C } (run T W n) n (cxOf CX0 P _ K mg base N x (defScope st) f cdv A outer s H E).nox :=
      { hN := rfl, nd := S.nd, sc := rfl, fn := rfl, calm := rfl, gd := hgd, room := hr, blt := hB, srv := ih, xe := rfl, cst := hC }
    have body := stmts_list (F := run T W n) (W := W) (fun st s h => stmts m _ _ g S.kind st s h) _ _ hc
    refine ⟨_, body.nox, ?_⟩
    have hl := run_len hd w
    rw [run, hd] at w
    simp only [runD] at w
    rw [if_pos hl] at w
    refine ⟨io, _, h, ?_, R, wpR_mono (wpR_bind.1 w) fun p h1 q io1 H1 S1 E1 R1 rs1 => ?_⟩
    · have hlen : ws.length = vs.length := rl.length
      have hpl : vs.length ≤ N.length := by
        have h1 := congrArg List.length S.pre
        rw [List.length_take] at h1
        omega
      refine ⟨?_, fun i v e => ?_⟩
      · unfold L2.start
        simp only [List.length_append, List.length_map, List.length_replicate]
        omega
      · by_cases hi : i < ws.length
        · rw [List.getElem?_append_left (by simpa using hi), List.getElem?_map] at e
          cases ew : ws[i]? with
          | none => rw [ew] at e; cases e
          | some v0 =>
            rw [ew] at e; cases e
            obtain ⟨y, hy, ry⟩ := rl.get ew
            refine ⟨y, ?_, ry⟩
            unfold L2.start
            rw [List.getElem?_append_left (by rw [List.length_map, ← hlen]; exact hi), List.getElem?_map, hy]
            rfl
        · rw [List.getElem?_append_right (by simpa using hi), List.getElem?_replicate] at e
          split at e <;> cases e
    · obtain ⟨fl, σ1⟩ := p
      obtain ⟨v, ev, q⟩ := wpR_opt q
      cases fl with
      | nx => cases ev; exact q io1 H1 _ E1 R1 .non
      | rt v0 => cases ev; exact fun x rx => q io1 H1 x E1 R1 rx
      | bk => cases ev
      | ct => cases ev

/-! ### the end -/
theorem law_callG {P : Program} {w : World} {K : PySem.W.Frag} {mg mb : Str → Option Value} {k : Nat} {fa a : Addr} {sp : Sp} {s₁ : Shared} {vs : List Value} {ns : List Int}
    (KX : K.In s₁.heap) (hns : s₁.heap.Ns mainGlobals mg) (hb : s₁.heap.Ns builtinsNs mb) (hbb : ∀ x : Str, x ≠ "__name__" → mb x = bootBuiltins x) (hlim : s₁.heap.NoLimit) (hg : s₁.gens = #[])
    (ha : s₁.heap.get? a = some { cls := .type "list", data := .seq vs.toArray }) (hi : IntsAre vs ns) (hl : ns.length ≤ sizeLine) (hr : Room k callerA)
    (F : ∀ base : Heap, K.In base → base.Ns mainGlobals mg → ∃ fd ps, Binds K fd ps [] ∧ FnG P w K mg base CX0 k fa fd ps sp)
    (hsp : ∀ H : Hp, Only H → Fz K H a (ns.map V.int) → sp [.ref a] H (fun v _ => v = .bl true) fun _ _ _ => False) :
    codeAny (model P w) callerA (.call (.ref fa) ⟨[.ref a], []⟩) (fun r s' => r = .ok (.ret (.bool true)) ∧ OldK s₁.heap s'.heap ∧ s'.os = s₁.os ∧ AllBare s'.gens) s₁ := by
  have rv := vals_ints hi
  have lenV := hi.length
  have core : ∀ H : Hp, Only H → Fz K H a (ns.map V.int) → HOk P w H s₁.heap → (∀ b, H b ≠ none → b = a) → (H a ≠ none → K.lookup a = none) →
      codeAny (model P w) callerA (.call (.ref fa) ⟨[.ref a], []⟩) (fun r s' => r = .ok (.ret (.bool true)) ∧ OldK s₁.heap s'.heap ∧ s'.os = s₁.os ∧ AllBare s'.gens) s₁ := by
    intro H hO hS hok hA hK
    have base_of : ∀ {b : Addr} {o : Obj}, s₁.heap.get? b = some o → H b = none → (hidT s₁.heap H).get? b = some o := fun e n => hidT_get e n
    have noA : ∀ {b : Addr} {o : Obj} {es : Array DictEntry} {ep : Nat}, s₁.heap.get? b = some o → o.data = .dict es ep → H b = none := fun {b o es ep} e d => by
      cases q : H b with
      | none => rfl
      | some u =>
        have e' : b = a := hA b (by rw [q]; simp)
        subst e'
        rw [ha] at e; cases e
        have d' : Data.seq vs.toArray _ = Data.dict es ep := d
        cases d'
    have nsK : ∀ {b : Addr} {m : Str → Option Value}, s₁.heap.Ns b m → (hidT s₁.heap H).Ns b m := fun {b m} ⟨o, es, ep, e, d, r⟩ => ⟨o, es, ep, base_of e (noA e d), d, r⟩
    have hKb : K.In (hidT s₁.heap H) := fun b o e => base_of (KX b o e) (by
      cases q : H b with
      | none => rfl
      | some u =>
        have e' : b = a := hA b (by rw [q]; simp)
        subst e'
        rw [hK (by rw [q]; simp)] at e; cases e)
    have hM : Mod K mg (hidT s₁.heap H) := ⟨hKb, nsK hns, ⟨mb, nsK hb, hbb⟩, let ⟨mc, h1, h2⟩ := hlim; ⟨mc, nsK h1, h2⟩⟩
    have e0 : Env0 P w K mg (hidT s₁.heap H) callerA [] s₁ H := ⟨rfl, hM, fun b o e => of_hidT e, Nat.le_of_eq (hidT_size _ _), trivial, fun b hb => absurd (show b ∈ ([] : List Addr) from hb) (by simp), hok, .of_eq hg⟩
    obtain ⟨fd, ps, hbd, FG⟩ := F _ hKb (nsK hns)
    have hS0 := hsp H hO hS
    have hlen := FG.len _ _ _ _ hS0
    have hbind := hbd s₁ [.ref a] KX hlen
    refine codeAny_mono (FG.run callerA [] s₁ H ⟨[.ref a], []⟩ [.ref a] [.ref a] _ _ rfl hr e0 hbind (.cons rfl .nil) hS0) fun r s' h => ?_
    cases r with
    | error e => exact False.elim h
    | ok fl =>
      cases fl with
      | next => exact False.elim h
      | brk => exact False.elim h
      | cont => exact False.elim h
      | ret u =>
        obtain ⟨v, H', os, bare, un, hok', r', q⟩ := h
        have q' : v = .bl true := q
        subst q'
        obtain rfl : u = Value.bool true := r'
        refine ⟨rfl, OldK.of_keep fun b o e => ?_, os, bare⟩
        cases q : H b with
        | none => exact un.keep b o e q (by intro z; exact absurd (show b ∈ ([] : List Addr) from z) (by simp)) (by simp)
        | some u =>
          rcases hO b with z | ⟨ob, xs, z⟩
          · rw [q] at z; cases z
          · have z2 := un.frzs b ob _ z
            obtain ⟨e1, _⟩ := hok b _ z
            obtain ⟨e2, _⟩ := hok' b _ z2
            rw [e] at e1; cases e1
            exact e2
  cases hk : K.lookup a with
  | some o =>
    have e := KX a o hk
    rw [ha] at e
    cases e
    refine core (fun _ => none) (fun _ => .inl rfl) (.inr ⟨_, vs.toArray, _, hk, rfl, rfl, rfl, by rw [List.size_toArray, lenV]; exact hl, by simpa using rv⟩) (fun b u z => by have z' : (none : Option HO) = some u := z; cases z') (fun b z => absurd rfl z) fun z => absurd rfl z
  | none =>
    refine core (fun b => if b = a then some (.frz { cls := .type "list", data := .seq vs.toArray } (.lst (ns.map V.int))) else none) (fun b => ?_) (.inl ⟨{ cls := .type "list", data := .seq vs.toArray }, if_pos rfl⟩) (fun b u z => ?_) (fun b z => ?_) fun _ => hk
    · by_cases hb : b = a
      · exact .inr ⟨_, _, if_pos hb⟩
      · exact .inl (if_neg hb)
    · by_cases hb : b = a
      · have z' := (if_pos hb).symm.trans z
        cases z'
        subst hb
        exact ⟨ha, by rw [List.length_map]; exact hl, vs, _, rv, ha⟩
      · have z' := (if_neg hb).symm.trans z
        cases z'
    · by_cases hb : b = a
      · exact hb
      · exact absurd (if_neg hb) z

/-- THE END: what the small code's run of the law gives is what the law gives -/
theorem walk_I {l : PySem.W.OpenLaw} {n k : Nat} {q : Program} {loose : List Str} {XP : (Str → Option Value) → Heap → Prop} {YP : World → Heap → Prop} {d : DefRec} {K : Params → PySem.W.Frag} {G : List Str} {C : List (Str × GK)} {T : Tab} {W lv : Nat}
    (hn : l.most = some n) (hn2 : n ≤ sizeLine) (hdf : d.params.defaults = []) (hr : Room k callerA)
    (hY : ∀ (w : World) (h : Heap), YP w h → (K w.params).In h) (hlv : G[lv]? = some d.name)
    (hG : ∀ (w : World) (mg : Str → Option Value) (h : Heap), (K w.params).In h → h.Ns mainGlobals mg → (∀ (k : Nat) (x : Str), G[k]? = some x → ∃ d, T[k]? = some d ∧ DefOk (K w.params) mg G C x d) ∧ (∀ x ∈ bltNames, G.contains x = false → mg x = none) ∧ ∀ (x : Str) (k : GK), C.lookup x = some k → GkOk mg x k)
    (hrun : ∀ ns : List Int, ns.length ≤ n → ∃ h', run T W k lv [.ref 0] [.frz (ns.map IV.int)] = .ok (.bl true) h') :
    PySem.W.WalkO q loose XP YP l.row.toRowW d [] (fun f vs => PySem.call f vs) := by
  refine Att.attach_call hn hdf fun w s₀ s₁ mg mb fa o pm cd doc a vs ns Gd Y ho hd hcd hmg hobj hints hlen hg => ?_
  have KX := hY w _ Y
  obtain ⟨hG1, hB, hC⟩ := hG w mg _ KX Gd.T.g
  refine law_callG (sp := spI (K w.params) (run T W k) lv) (k := k) KX Gd.T.g Gd.T.b Gd.T.builtins Gd.T.nolimit hg hobj hints (Nat.le_trans hlen hn2) hr (fun base hKb hns => ?_) fun H hO hS => ?_
  · obtain ⟨f, fd, ps, hm, _, hb, FG⟩ := served (P := l.prog) (w := w) (base := base) hC hG1 hB k lv d.name hlv
    rw [hmg] at hm; cases hm
    exact ⟨fd, ps, hb, FG⟩
  · obtain ⟨h', e⟩ := hrun ns hlen
    have rl : ∀ ns : List Int, RepL (K w.params) [a] H (ns.map IV.int) (ns.map V.int) := fun ns => by
      induction ns with
      | nil => exact .nil
      | cons i r ih => exact .cons (.int i) ih
    refine ⟨[a], [.frz (ns.map IV.int)], [.ref 0], ⟨rfl, fun m o b em eb => ?_, fun m n' l r b e1 e2 _ _ => ?_⟩, .cons (.ref rfl) .nil, ?_⟩
    · cases m with
      | zero => cases em; cases eb; exact ⟨_, hS, rl ns⟩
      | succ m => cases em
    · cases m with
      | zero => cases e1
      | succ m => cases e1
    · rw [e]
      intro io' H' x E R r
      cases r
      rfl

/-! ### the text's defs, one by one -/
def DefsOk (K : PySem.W.Frag) (mg : Str → Option Value) (G : List Str) (C : List (Str × GK)) : List Str → List Def → Prop
  | [], [] => True
  | x :: xs, d :: ds => DefOk K mg G C x d ∧ DefsOk K mg G C xs ds
  | _, _ => False
theorem defs_ix {K : PySem.W.Frag} {mg : Str → Option Value} {G : List Str} {C : List (Str × GK)} : ∀ {xs : List Str} {ds : List Def}, DefsOk K mg G C xs ds → ∀ (k : Nat) (x : Str), xs[k]? = some x → ∃ d, ds[k]? = some d ∧ DefOk K mg G C x d
  | [], [], _, k, x, h => by simp at h
  | y :: xs, d :: ds, h, 0, x, e => by
    have e : y = x := Option.some.inj e
    subst e
    exact ⟨d, rfl, h.1⟩
  | y :: xs, d :: ds, h, k + 1, x, e => defs_ix h.2 k x e
  | [], _ :: _, h, _, _, _ => h.elim
  | _ :: _, [], h, _, _, _ => h.elim
theorem def_mk {K : PySem.W.Frag} {h : Heap} {mg : Str → Option Value} {G : List Str} {C : List (Str × GK)} (X : K.In h) (Gn : h.Ns mainGlobals mg) {x : Str} {st : Stmt} {d : Def} (N ps : List Str) (m : Nat) {f : Addr} {oc : Value} {od an : Option Addr} {osl : Array (Option Value)} {kV doc pm cdv ct : Value}
    (a : PySem.W.nsIn K mainGlobals x = some (some (.ref f))) (l : K.lookup f = some ⟨oc, od, .func (PySem.W.fnOf x x (defArgs st) (defBody st) (defScope st) .none kV doc pm an cdv ct), osl⟩) (c : PySem.W.codeIn K cdv x = true) (k : PySem.W.keepIn K (.ref f) = true)
    (hb : ∀ (kV doc pm : Value) (an : Option Addr) (cdv ct : Value) (us : List Value), us.length = ps.length → bindArgs (PySem.W.fnOf x x (defArgs st) (defBody st) (defScope st) .none kV doc pm an cdv ct) ⟨us, []⟩ = pure (ps.zip us))
    (S : FnScope N ps (defScope st)) (hc : cSs (cS m { N := N, sc := defScope st, fn := fun _ => true, G := G, C := C }) (defBody st) = some d.body) (h1 : d.ps = ps.length) (h2 : d.slots = N.length) : DefOk K mg G C x d := by
  have F1 := fun_mk (st := st) l c k
  exact ⟨st, f, _, N, ps, m, PySem.W.mg_of X Gn a, F1, F1.binds hb, S, hc, h1, h2⟩
theorem blt_mk {K : PySem.W.Frag} {h : Heap} {mg : Str → Option Value} (X : K.In h) (Gn : h.Ns mainGlobals mg) (z : bltNames.all (fun x => decide (PySem.W.nsIn K mainGlobals x = some none)) = true) : ∀ x ∈ bltNames, mg x = none := fun x hx => by
  rw [List.all_eq_true] at z
  exact PySem.W.mg_none_of X Gn (of_decide_eq_true (z x hx))
end PI

set_option Elab.async false
set_option linter.all false
set_option maxRecDepth 100000
/-! the code of paidahead_k05_steps_by_hand -/
namespace K5
open PI PySem
def c_replaced : Def := ⟨3, 3,
  (.cons (.ret (.bin .add (.bin .add (.slice (.var 0) .nopart (.cons (.var 1) .nil)) (.tup (.cons (.var 2) .nil))) (.slice (.var 0) (.cons (.bin .add (.var 1) (.con (.int 1))) .nil) .nopart)))
    .nil)⟩
def c_done : Def := ⟨3, 9,
  (.cons (.asg (.tup (.cons (.name 3) (.cons (.name 4) .nil))) (.var 2))
    (.cons (.asg (.name 5) (.var 1))
    (.cons (.asg (.name 6) (.con (.int 0)))
    (.cons (.forr (.name 7) (.iseq (.sub (.sub (.sub (.var 0) (.con (.int 2))) (.var 3)) (.var 4))) (.cons (.asg (.name 8) (.call 3 (.cons (.sub (.var 0) (.con (.int 0))) (.cons (.var 5) (.cons (.var 7) .nil)))))
    (.cons (.ite (.cmp .isN (.var 8) (.con .non)) (.cons (.ret (.con .non))
    .nil) .nil)
    (.cons (.asg (.name 5) (.sub (.var 8) (.con (.int 0))))
    (.cons (.aug 6 .add (.sub (.var 8) (.con (.int 1))))
    .nil)))))
    (.cons (.ret (.tup (.cons (.var 5) (.cons (.var 6) .nil))))
    .nil)))))⟩
def c_moves : Def := ⟨2, 7,
  (.cons (.asg (.name 2) (.lst .nil))
    (.cons (.forr (.tup (.cons (.name 3) (.cons (.name 4) .nil))) (.ienum (.sub (.var 0) (.con (.int 2)))) (.cons (.forr (.name 5) (.irange (.cons (.bcall .len (.cons (.var 4) .nil)) .nil)) (.cons (.asg (.name 6) (.call 1 (.cons (.var 0) (.cons (.var 1) (.cons (.tup (.cons (.var 3) (.cons (.var 5) .nil))) .nil)))))
    (.cons (.ite (.cmp .notN (.var 6) (.con .non)) (.cons (.expr (.meth .append (.var 2) (.cons (.tup (.cons (.tup (.cons (.var 3) (.cons (.var 5) .nil))) (.cons (.sub (.var 6) (.con (.int 0))) (.cons (.sub (.var 6) (.con (.int 1))) .nil)))) .nil)))
    .nil) .nil)
    .nil)))
    .nil))
    (.cons (.ret (.bcall .tuple (.cons (.var 2) .nil)))
    .nil)))⟩
def c__stepped : Def := ⟨3, 8,
  (.cons (.asg (.name 3) (.sub (.var 2) (.con (.int 0))))
    (.cons (.ite (.cmp .eq (.var 3) (.con (.str ⟨#[112, 97, 121]⟩))) (.cons (.ret (.tup (.cons (.var 1) (.cons (.sub (.var 2) (.con (.int 1))) .nil))))
    .nil) .nil)
    (.cons (.asg2 4 5 (.sub (.var 2) (.con (.int 1))) (.sub (.var 2) (.con (.int 2))))
    (.cons (.asg (.name 6) (.sub (.var 1) (.var 4)))
    (.cons (.ite (.cmp .eq (.var 3) (.con (.str ⟨#[116, 111, 108, 108]⟩))) (.cons (.ret (.tup (.cons (.var 1) (.cons (.sub (.var 5) (.var 6)) .nil))))
    .nil) .nil)
    (.cons (.ite (.cmp .eq (.var 3) (.con (.str ⟨#[115, 101, 116]⟩))) (.cons (.ret (.call 4 (.cons (.var 0) (.cons (.var 1) (.cons (.var 4) (.cons (.var 5) .nil))))))
    .nil) .nil)
    (.cons (.ite (.cmp .eq (.var 3) (.con (.str ⟨#[97, 100, 100]⟩))) (.cons (.ret (.call 4 (.cons (.var 0) (.cons (.var 1) (.cons (.var 4) (.cons (.bin .add (.var 6) (.var 5)) .nil))))))
    .nil) .nil)
    (.cons (.ite (.cmp .eq (.var 3) (.con (.str ⟨#[116, 97, 107, 101]⟩))) (.cons (.ret (.call 4 (.cons (.var 0) (.cons (.var 1) (.cons (.var 4) (.cons (.bin .sub (.var 6) (.var 5)) .nil))))))
    .nil) .nil)
    (.cons (.ite (.cmp .eq (.var 3) (.con (.str ⟨#[112, 111, 117, 114]⟩))) (.cons (.ret (.call 4 (.cons (.var 0) (.cons (.call 0 (.cons (.var 1) (.cons (.var 4) (.cons (.con (.int 0)) .nil)))) (.cons (.var 5) (.cons (.bin .add (.sub (.var 1) (.var 5)) (.var 6)) .nil))))))
    .nil) .nil)
    (.cons (.asg (.name 7) (.chain .le .le (.var 5) (.var 6) (.sub (.var 2) (.con (.int 3)))))
    (.cons (.ite (.cmp .eq (.var 3) (.con (.str ⟨#[111, 110, 108, 121]⟩))) (.cons (.ret (.ite (.var 7) (.tup (.cons (.var 1) (.cons (.con (.int 0)) .nil))) (.con .non)))
    .nil) .nil)
    (.cons (.ret (.ite (.var 7) (.call 3 (.cons (.var 0) (.cons (.var 1) (.cons (.sub (.var 2) (.con (.int 4))) .nil)))) (.tup (.cons (.var 1) (.cons (.con (.int 0)) .nil)))))
    .nil))))))))))))⟩
def c__given : Def := ⟨4, 4,
  (.cons (.ite (.chain .le .lt (.con (.int 0)) (.var 3) (.sub (.var 0) (.var 2))) (.cons (.ret (.tup (.cons (.call 0 (.cons (.var 1) (.cons (.var 2) (.cons (.var 3) .nil)))) (.cons (.con (.int 0)) .nil))))
    .nil) .nil)
    (.cons (.ret (.con .non))
    .nil))⟩
def c__law_pen : Def := ⟨1, 1,
  (.cons (.ret (.lst (.cons (.bcall .list (.cons (.slice (.var 0) .nopart (.cons (.con (.int 63)) .nil)) .nil)) (.cons (.con (.int 0)) (.cons (.con (.int 0)) .nil)))))
    .nil)⟩
def c__law_fresh : Def := ⟨1, 7,
  (.cons (.asg (.name 1) (.sub (.var 0) (.con (.int 1))))
    (.cons (.setsub (.bin .add (.var 1) (.con (.int 1))) (.var 0) (.con (.int 1)))
    (.cons (.asg (.name 2) (.con (.int 0)))
    (.cons (.ite (.cmp .ne (.sub (.var 0) (.con (.int 0))) (.lst .nil)) (.cons (.asg (.name 2) (.sub (.sub (.var 0) (.con (.int 0))) (.bin .mod (.bcall .int (.cons (.var 1) .nil)) (.bcall .len (.cons (.sub (.var 0) (.con (.int 0))) .nil)))))
    .nil) .nil)
    (.cons (.ite (.and (.cmp .lt (.var 1) (.bcall .len (.cons (.sub (.var 0) (.con (.int 0))) .nil))) (.cmp .ge (.var 2) (.bin .pow (.con (.int 10)) (.con (.int 18))))) (.cons (.ret (.bin .sub (.var 2) (.bin .pow (.con (.int 10)) (.con (.int 18)))))
    .nil) .nil)
    (.cons (.asg (.name 3) (.con (.int 2305843009213693951)))
    (.cons (.asg (.name 4) (.bin .mod (.bcall .int (.cons (.bin .add (.bin .add (.bin .mul (.var 2) (.con (.int 48271))) (.bin .mul (.con (.int 40692)) (.var 1))) (.con (.int 31))) .nil)) (.var 3)))
    (.cons (.asg (.name 5) (.var 4))
    (.cons (.forr (.name 6) (.irange (.cons (.con (.int 6)) .nil)) (.cons (.asg (.name 4) (.bin .mod (.bcall .int (.cons (.bin .add (.bin .add (.bin .mul (.var 4) (.var 4)) (.bin .mul (.bin .mul (.con (.int 69621)) (.bin .add (.var 6) (.con (.int 1)))) (.bin .add (.var 1) (.con (.int 1))))) (.var 2)) .nil)) (.var 3)))
    (.cons (.asg (.name 5) (.bin .add (.bin .mul (.var 5) (.var 3)) (.var 4)))
    .nil)))
    (.cons (.ret (.var 5))
    .nil))))))))))⟩
def c__law_draw : Def := ⟨2, 3,
  (.cons (.ite (.cmp .lt (.sub (.var 0) (.con (.int 2))) (.var 1)) (.cons (.setsub (.call 6 (.cons (.var 0) .nil)) (.var 0) (.con (.int 2)))
    .nil) .nil)
    (.cons (.asg (.name 2) (.bin .mod (.bcall .int (.cons (.sub (.var 0) (.con (.int 2))) .nil)) (.var 1)))
    (.cons (.setsub (.bin .fdiv (.bcall .int (.cons (.sub (.var 0) (.con (.int 2))) .nil)) (.var 1)) (.var 0) (.con (.int 2)))
    (.cons (.ret (.var 2))
    .nil))))⟩
def c__law_made : Def := ⟨2, 5,
  (.cons (.asg (.name 2) (.tup (.cons (.tup (.cons (.con (.int 4)) (.cons (.con (.int 3)) .nil))) (.cons (.tup (.cons (.con (.int 0)) (.cons (.con (.int 0)) .nil))) (.cons (.tup (.cons (.tup (.cons (.var 1) .nil)) .nil)) .nil)))))
    (.cons (.asg (.name 3) (.call 1 (.cons (.var 2) (.cons (.var 0) (.cons (.tup (.cons (.con (.int 0)) (.cons (.con (.int 0)) .nil))) .nil)))))
    (.cons (.asg (.name 4) (.ite (.cmp .isN (.var 3) (.con .non)) (.tup .nil) (.tup (.cons (.bin .add (.tup (.cons (.tup (.cons (.con (.int 0)) (.cons (.con (.int 0)) .nil))) .nil)) (.var 3)) .nil))))
    (.cons (.ret (.ite (.cmp .eq (.call 2 (.cons (.var 2) (.cons (.var 0) .nil))) (.var 4)) (.var 3) (.con (.str ⟨#[111, 116, 104, 101, 114]⟩))))
    .nil))))⟩
def c__law_rows : Def := ⟨1, 7,
  (.cons (.asg (.name 1) (.tup (.cons (.con (.str ⟨#[112, 97, 121]⟩)) (.cons (.var 0) .nil))))
    (.cons (.asg (.name 2) (.lst (.cons (.tup (.cons (.tup (.cons (.con (.int 0)) (.cons (.con (.int 0)) .nil))) (.cons (.tup .nil) (.cons (.tup (.cons (.tup (.cons (.con (.int 0)) (.cons (.con (.int 0)) .nil))) (.cons (.con (.int 0)) .nil))) .nil)))) (.cons (.tup (.cons (.tup (.cons (.con (.int 3)) (.cons (.con (.int 2)) .nil))) (.cons (.tup (.cons (.var 1) (.cons (.var 1) .nil))) (.cons (.tup (.cons (.tup (.cons (.con (.int 3)) (.cons (.con (.int 2)) .nil))) (.cons (.bin .mul (.con (.int 2)) (.var 0)) .nil))) .nil)))) .nil))))
    (.cons (.asg (.name 2) (.bin .add (.var 2) (.lst (.cons (.tup (.cons (.tup (.cons (.con (.int 3)) (.cons (.con (.int 0)) .nil))) (.cons (.tup (.cons (.tup (.cons (.con (.str ⟨#[97, 100, 100]⟩)) (.cons (.con (.int 0)) (.cons (.con (.int 1)) .nil)))) (.cons (.var 1) .nil))) (.cons (.con .non) .nil)))) .nil))))
    (.cons (.asg (.name 2) (.bin .add (.var 2) (.lst (.cons (.tup (.cons (.tup (.cons (.con (.int 0)) (.cons (.con (.int 2)) .nil))) (.cons (.tup (.cons (.tup (.cons (.con (.str ⟨#[97, 100, 100]⟩)) (.cons (.con (.int 0)) (.cons (.con (.int 3)) .nil)))) (.cons (.tup (.cons (.con (.str ⟨#[116, 111, 108, 108]⟩)) (.cons (.con (.int 0)) (.cons (.tup (.cons (.con (.int 9)) (.cons (.con (.int 8)) (.cons (.con (.int 7)) (.cons (.var 0) .nil))))) .nil)))) .nil))) (.cons (.tup (.cons (.tup (.cons (.con (.int 3)) (.cons (.con (.int 2)) .nil))) (.cons (.var 0) .nil))) .nil)))) .nil))))
    (.cons (.asg (.name 2) (.bin .add (.var 2) (.lst (.cons (.tup (.cons (.tup (.cons (.con (.int 1)) (.cons (.con (.int 0)) .nil))) (.cons (.tup (.cons (.tup (.cons (.con (.str ⟨#[97, 100, 100]⟩)) (.cons (.con (.int 0)) (.cons (.con (.int 3)) .nil)))) .nil)) (.cons (.con .non) .nil)))) .nil))))
    (.cons (.asg (.name 2) (.bin .add (.var 2) (.lst (.cons (.tup (.cons (.tup (.cons (.con (.int 0)) (.cons (.con (.int 0)) .nil))) (.cons (.tup (.cons (.var 1) (.cons (.tup (.cons (.con (.str ⟨#[116, 97, 107, 101]⟩)) (.cons (.con (.int 1)) (.cons (.con (.int 1)) .nil)))) .nil))) (.cons (.con .non) .nil)))) (.cons (.tup (.cons (.tup (.cons (.con (.int 0)) (.cons (.con (.int 2)) .nil))) (.cons (.tup (.cons (.tup (.cons (.con (.str ⟨#[116, 97, 107, 101]⟩)) (.cons (.con (.int 1)) (.cons (.con (.int 2)) .nil)))) (.cons (.var 1) .nil))) (.cons (.tup (.cons (.tup (.cons (.con (.int 0)) (.cons (.con (.int 0)) .nil))) (.cons (.var 0) .nil))) .nil)))) .nil)))))
    (.cons (.asg (.name 2) (.bin .add (.var 2) (.lst (.cons (.tup (.cons (.tup (.cons (.con (.int 2)) (.cons (.con (.int 0)) .nil))) (.cons (.tup (.cons (.tup (.cons (.con (.str ⟨#[112, 111, 117, 114]⟩)) (.cons (.con (.int 0)) (.cons (.con (.int 1)) .nil)))) (.cons (.var 1) .nil))) (.cons (.tup (.cons (.tup (.cons (.con (.int 0)) (.cons (.con (.int 2)) .nil))) (.cons (.var 0) .nil))) .nil)))) (.cons (.tup (.cons (.tup (.cons (.con (.int 2)) (.cons (.con (.int 1)) .nil))) (.cons (.tup (.cons (.var 1) (.cons (.tup (.cons (.con (.str ⟨#[112, 111, 117, 114]⟩)) (.cons (.con (.int 0)) (.cons (.con (.int 1)) .nil)))) .nil))) (.cons (.con .non) .nil)))) .nil)))))
    (.cons (.asg (.name 2) (.bin .add (.var 2) (.lst (.cons (.tup (.cons (.tup (.cons (.con (.int 1)) (.cons (.con (.int 2)) .nil))) (.cons (.tup (.cons (.tup (.cons (.con (.str ⟨#[112, 111, 117, 114]⟩)) (.cons (.con (.int 1)) (.cons (.con (.int 0)) .nil)))) .nil)) (.cons (.tup (.cons (.tup (.cons (.con (.int 3)) (.cons (.con (.int 0)) .nil))) (.cons (.con (.int 0)) .nil))) .nil)))) (.cons (.tup (.cons (.tup (.cons (.con (.int 2)) (.cons (.con (.int 2)) .nil))) (.cons (.tup (.cons (.tup (.cons (.con (.str ⟨#[112, 111, 117, 114]⟩)) (.cons (.con (.int 1)) (.cons (.con (.int 0)) .nil)))) .nil)) (.cons (.con .non) .nil)))) .nil)))))
    (.cons (.asg (.name 2) (.bin .add (.var 2) (.lst (.cons (.tup (.cons (.tup (.cons (.con (.int 3)) (.cons (.con (.int 0)) .nil))) (.cons (.tup (.cons (.tup (.cons (.con (.str ⟨#[112, 111, 117, 114]⟩)) (.cons (.con (.int 1)) (.cons (.con (.int 0)) .nil)))) .nil)) (.cons (.tup (.cons (.tup (.cons (.con (.int 3)) (.cons (.con (.int 0)) .nil))) (.cons (.con (.int 0)) .nil))) .nil)))) .nil))))
    (.cons (.asg (.name 2) (.bin .add (.var 2) (.lst (.cons (.tup (.cons (.tup (.cons (.con (.int 2)) (.cons (.con (.int 1)) .nil))) (.cons (.tup (.cons (.tup (.cons (.con (.str ⟨#[115, 101, 116]⟩)) (.cons (.con (.int 0)) (.cons (.con (.int 2)) .nil)))) (.cons (.tup (.cons (.con (.str ⟨#[115, 101, 116]⟩)) (.cons (.con (.int 1)) (.cons (.con (.int 0)) .nil)))) (.cons (.tup (.cons (.con (.str ⟨#[116, 111, 108, 108]⟩)) (.cons (.con (.int 1)) (.cons (.tup (.cons (.var 0) (.cons (.con (.int 50)) (.cons (.con (.int 60)) .nil)))) .nil)))) .nil)))) (.cons (.tup (.cons (.tup (.cons (.con (.int 2)) (.cons (.con (.int 0)) .nil))) (.cons (.var 0) .nil))) .nil)))) .nil))))
    (.cons (.asg (.name 2) (.bin .add (.var 2) (.lst (.cons (.tup (.cons (.tup (.cons (.con (.int 1)) (.cons (.con (.int 1)) .nil))) (.cons (.tup (.cons (.tup (.cons (.con (.str ⟨#[111, 110, 108, 121]⟩)) (.cons (.con (.int 0)) (.cons (.con (.int 1)) (.cons (.con (.int 2)) .nil))))) (.cons (.var 1) .nil))) (.cons (.tup (.cons (.tup (.cons (.con (.int 1)) (.cons (.con (.int 1)) .nil))) (.cons (.var 0) .nil))) .nil)))) (.cons (.tup (.cons (.tup (.cons (.con (.int 3)) (.cons (.con (.int 1)) .nil))) (.cons (.tup (.cons (.tup (.cons (.con (.str ⟨#[111, 110, 108, 121]⟩)) (.cons (.con (.int 0)) (.cons (.con (.int 1)) (.cons (.con (.int 2)) .nil))))) (.cons (.var 1) .nil))) (.cons (.con .non) .nil)))) .nil)))))
    (.cons (.asg (.name 2) (.bin .add (.var 2) (.lst (.cons (.tup (.cons (.tup (.cons (.con (.int 0)) (.cons (.con (.int 1)) .nil))) (.cons (.tup (.cons (.var 1) (.cons (.tup (.cons (.con (.str ⟨#[111, 110, 108, 121]⟩)) (.cons (.con (.int 0)) (.cons (.con (.int 1)) (.cons (.con (.int 2)) .nil))))) .nil))) (.cons (.con .non) .nil)))) (.cons (.tup (.cons (.tup (.cons (.con (.int 2)) (.cons (.con (.int 1)) .nil))) (.cons (.tup (.cons (.tup (.cons (.con (.str ⟨#[111, 110, 108, 121]⟩)) (.cons (.con (.int 0)) (.cons (.con (.int 1)) (.cons (.con (.int 2)) .nil))))) .nil)) (.cons (.tup (.cons (.tup (.cons (.con (.int 2)) (.cons (.con (.int 1)) .nil))) (.cons (.con (.int 0)) .nil))) .nil)))) .nil)))))
    (.cons (.asg (.name 2) (.bin .add (.var 2) (.lst (.cons (.tup (.cons (.tup (.cons (.con (.int 0)) (.cons (.con (.int 0)) .nil))) (.cons (.tup (.cons (.tup (.cons (.con (.str ⟨#[97, 100, 100]⟩)) (.cons (.con (.int 0)) (.cons (.con (.int 1)) .nil)))) (.cons (.tup (.cons (.con (.str ⟨#[111, 110, 108, 121]⟩)) (.cons (.con (.int 0)) (.cons (.con (.int 1)) (.cons (.con (.int 1)) .nil))))) (.cons (.var 1) .nil)))) (.cons (.tup (.cons (.tup (.cons (.con (.int 1)) (.cons (.con (.int 0)) .nil))) (.cons (.var 0) .nil))) .nil)))) .nil))))
    (.cons (.asg (.name 2) (.bin .add (.var 2) (.lst (.cons (.tup (.cons (.tup (.cons (.con (.int 1)) (.cons (.con (.int 0)) .nil))) (.cons (.tup (.cons (.tup (.cons (.con (.str ⟨#[97, 100, 100]⟩)) (.cons (.con (.int 0)) (.cons (.con (.int 1)) .nil)))) (.cons (.tup (.cons (.con (.str ⟨#[111, 110, 108, 121]⟩)) (.cons (.con (.int 0)) (.cons (.con (.int 1)) (.cons (.con (.int 1)) .nil))))) .nil))) (.cons (.con .non) .nil)))) .nil))))
    (.cons (.asg (.name 3) (.tup (.cons (.con (.str ⟨#[119, 104, 101, 110]⟩)) (.cons (.con (.int 0)) (.cons (.con (.int 1)) (.cons (.con (.int 2)) (.cons (.tup (.cons (.con (.str ⟨#[97, 100, 100]⟩)) (.cons (.con (.int 0)) (.cons (.con (.int 1)) .nil)))) .nil)))))))
    (.cons (.asg (.name 2) (.bin .add (.var 2) (.lst (.cons (.tup (.cons (.tup (.cons (.con (.int 0)) (.cons (.con (.int 0)) .nil))) (.cons (.tup (.cons (.var 3) (.cons (.var 3) (.cons (.var 1) .nil)))) (.cons (.tup (.cons (.tup (.cons (.con (.int 0)) (.cons (.con (.int 0)) .nil))) (.cons (.var 0) .nil))) .nil)))) (.cons (.tup (.cons (.tup (.cons (.con (.int 1)) (.cons (.con (.int 0)) .nil))) (.cons (.tup (.cons (.var 3) (.cons (.var 3) (.cons (.var 3) (.cons (.var 1) .nil))))) (.cons (.tup (.cons (.tup (.cons (.con (.int 3)) (.cons (.con (.int 0)) .nil))) (.cons (.var 0) .nil))) .nil)))) .nil)))))
    (.cons (.asg (.name 2) (.bin .add (.var 2) (.lst (.cons (.tup (.cons (.tup (.cons (.con (.int 3)) (.cons (.con (.int 0)) .nil))) (.cons (.tup (.cons (.tup (.cons (.con (.str ⟨#[119, 104, 101, 110]⟩)) (.cons (.con (.int 0)) (.cons (.con (.int 3)) (.cons (.con (.int 3)) (.cons (.tup (.cons (.con (.str ⟨#[97, 100, 100]⟩)) (.cons (.con (.int 0)) (.cons (.con (.int 1)) .nil)))) .nil)))))) (.cons (.var 1) .nil))) (.cons (.con .non) .nil)))) .nil))))
    (.cons (.asg (.name 2) (.bin .add (.var 2) (.lst (.cons (.tup (.cons (.tup (.cons (.con (.int 2)) (.cons (.con (.int 0)) .nil))) (.cons (.tup (.cons (.tup (.cons (.con (.str ⟨#[119, 104, 101, 110]⟩)) (.cons (.con (.int 0)) (.cons (.con (.int 3)) (.cons (.con (.int 3)) (.cons (.tup (.cons (.con (.str ⟨#[97, 100, 100]⟩)) (.cons (.con (.int 0)) (.cons (.con (.int 2)) .nil)))) .nil)))))) .nil)) (.cons (.tup (.cons (.tup (.cons (.con (.int 2)) (.cons (.con (.int 0)) .nil))) (.cons (.con (.int 0)) .nil))) .nil)))) .nil))))
    (.cons (.asg (.name 4) (.tup (.cons (.con (.str ⟨#[119, 104, 101, 110]⟩)) (.cons (.con (.int 0)) (.cons (.con (.int 1)) (.cons (.con (.int 2)) (.cons (.tup (.cons (.con (.str ⟨#[119, 104, 101, 110]⟩)) (.cons (.con (.int 1)) (.cons (.con (.int 0)) (.cons (.con (.int 1)) (.cons (.var 1) .nil)))))) .nil)))))))
    (.cons (.asg (.name 2) (.bin .add (.var 2) (.lst (.cons (.tup (.cons (.tup (.cons (.con (.int 1)) (.cons (.con (.int 0)) .nil))) (.cons (.tup (.cons (.var 4) (.cons (.var 4) .nil))) (.cons (.tup (.cons (.tup (.cons (.con (.int 1)) (.cons (.con (.int 0)) .nil))) (.cons (.bin .mul (.con (.int 2)) (.var 0)) .nil))) .nil)))) (.cons (.tup (.cons (.tup (.cons (.con (.int 1)) (.cons (.con (.int 2)) .nil))) (.cons (.tup (.cons (.var 4) .nil)) (.cons (.tup (.cons (.tup (.cons (.con (.int 1)) (.cons (.con (.int 2)) .nil))) (.cons (.con (.int 0)) .nil))) .nil)))) .nil)))))
    (.cons (.asg (.name 2) (.bin .add (.var 2) (.lst (.cons (.tup (.cons (.tup (.cons (.con (.int 0)) (.cons (.con (.int 1)) .nil))) (.cons (.tup (.cons (.var 4) .nil)) (.cons (.tup (.cons (.tup (.cons (.con (.int 0)) (.cons (.con (.int 1)) .nil))) (.cons (.con (.int 0)) .nil))) .nil)))) .nil))))
    (.cons (.asg (.name 2) (.bin .add (.var 2) (.lst (.cons (.tup (.cons (.tup (.cons (.con (.int 1)) (.cons (.con (.int 1)) .nil))) (.cons (.tup (.cons (.tup (.cons (.con (.str ⟨#[119, 104, 101, 110]⟩)) (.cons (.con (.int 1)) (.cons (.con (.int 1)) (.cons (.con (.int 1)) (.cons (.tup (.cons (.con (.str ⟨#[112, 111, 117, 114]⟩)) (.cons (.con (.int 0)) (.cons (.con (.int 1)) .nil)))) .nil)))))) (.cons (.tup (.cons (.con (.str ⟨#[119, 104, 101, 110]⟩)) (.cons (.con (.int 1)) (.cons (.con (.int 2)) (.cons (.con (.int 2)) (.cons (.var 1) .nil)))))) .nil))) (.cons (.tup (.cons (.tup (.cons (.con (.int 0)) (.cons (.con (.int 2)) .nil))) (.cons (.var 0) .nil))) .nil)))) .nil))))
    (.cons (.asg (.name 5) (.tup (.cons (.tup (.cons (.con (.str ⟨#[97, 100, 100]⟩)) (.cons (.con (.int 0)) (.cons (.con (.int 1)) .nil)))) (.cons (.tup (.cons (.con (.str ⟨#[97, 100, 100]⟩)) (.cons (.con (.int 1)) (.cons (.con (.int 1)) .nil)))) (.cons (.var 1) (.cons (.tup (.cons (.con (.str ⟨#[116, 97, 107, 101]⟩)) (.cons (.con (.int 0)) (.cons (.con (.int 1)) .nil)))) (.cons (.tup (.cons (.con (.str ⟨#[112, 111, 117, 114]⟩)) (.cons (.con (.int 1)) (.cons (.con (.int 0)) .nil)))) (.cons (.tup (.cons (.con (.str ⟨#[116, 111, 108, 108]⟩)) (.cons (.con (.int 0)) (.cons (.tup (.cons (.con (.int 0)) (.cons (.var 0) (.cons (.con (.int 0)) (.cons (.con (.int 0)) .nil))))) .nil)))) .nil))))))))
    (.cons (.asg (.name 2) (.bin .add (.var 2) (.lst (.cons (.tup (.cons (.tup (.cons (.con (.int 0)) (.cons (.con (.int 0)) .nil))) (.cons (.var 5) (.cons (.tup (.cons (.tup (.cons (.con (.int 1)) (.cons (.con (.int 0)) .nil))) (.cons (.bin .mul (.con (.int 2)) (.var 0)) .nil))) .nil)))) (.cons (.tup (.cons (.tup (.cons (.con (.int 3)) (.cons (.con (.int 0)) .nil))) (.cons (.var 5) (.cons (.con .non) .nil)))) (.cons (.tup (.cons (.tup (.cons (.con (.int 2)) (.cons (.con (.int 1)) .nil))) (.cons (.var 5) (.cons (.con .non) .nil)))) .nil))))))
    (.cons (.asg (.name 2) (.bin .add (.var 2) (.lst (.cons (.tup (.cons (.tup (.cons (.con (.int 0)) (.cons (.con (.int 1)) .nil))) (.cons (.var 5) (.cons (.tup (.cons (.tup (.cons (.con (.int 2)) (.cons (.con (.int 0)) .nil))) (.cons (.var 0) .nil))) .nil)))) .nil))))
    (.cons (.asg (.name 2) (.bin .add (.var 2) (.lst (.cons (.tup (.cons (.tup (.cons (.con (.int 0)) (.cons (.con (.int 0)) .nil))) (.cons (.bin .add (.bin .mul (.tup (.cons (.var 1) .nil)) (.con (.int 5))) (.tup (.cons (.tup (.cons (.con (.str ⟨#[116, 97, 107, 101]⟩)) (.cons (.con (.int 0)) (.cons (.con (.int 1)) .nil)))) .nil))) (.cons (.con .non) .nil)))) .nil))))
    (.cons (.asg (.name 2) (.bin .add (.var 2) (.lst (.cons (.tup (.cons (.tup (.cons (.con (.int 1)) (.cons (.con (.int 2)) .nil))) (.cons (.bin .add (.bin .mul (.tup (.cons (.var 1) .nil)) (.con (.int 5))) (.tup (.cons (.tup (.cons (.con (.str ⟨#[115, 101, 116]⟩)) (.cons (.con (.int 0)) (.cons (.con (.int 0)) .nil)))) .nil))) (.cons (.tup (.cons (.tup (.cons (.con (.int 0)) (.cons (.con (.int 2)) .nil))) (.cons (.bin .mul (.con (.int 5)) (.var 0)) .nil))) .nil)))) .nil))))
    (.cons (.asg (.name 6) (.tup (.cons (.con (.str ⟨#[119, 104, 101, 110]⟩)) (.cons (.con (.int 0)) (.cons (.con (.int 0)) (.cons (.con (.int 3)) (.cons (.tup (.cons (.con (.str ⟨#[116, 111, 108, 108]⟩)) (.cons (.con (.int 0)) (.cons (.tup (.cons (.con (.int 1)) (.cons (.con (.int 2)) (.cons (.var 0) (.cons (.con (.int 4)) .nil))))) .nil)))) .nil)))))))
    (.cons (.ret (.bin .add (.var 2) (.lst (.cons (.tup (.cons (.tup (.cons (.con (.int 2)) (.cons (.con (.int 0)) .nil))) (.cons (.tup (.cons (.var 6) (.cons (.tup (.cons (.con (.str ⟨#[115, 101, 116]⟩)) (.cons (.con (.int 0)) (.cons (.con (.int 0)) .nil)))) (.cons (.tup (.cons (.con (.str ⟨#[116, 111, 108, 108]⟩)) (.cons (.con (.int 0)) (.cons (.tup (.cons (.con (.int 5)) (.cons (.con (.int 6)) (.cons (.con (.int 7)) (.cons (.con (.int 8)) .nil))))) .nil)))) .nil)))) (.cons (.tup (.cons (.tup (.cons (.con (.int 0)) (.cons (.con (.int 0)) .nil))) (.cons (.bin .add (.var 0) (.con (.int 5))) .nil))) .nil)))) .nil))))
    .nil)))))))))))))))))))))))))))))⟩
def c_law : Def := ⟨1, 12,
  (.cons (.asg (.name 1) (.call 5 (.cons (.var 0) .nil)))
    (.cons (.asg (.name 2) (.bin .add (.con (.int 1)) (.call 7 (.cons (.var 1) (.cons (.con (.int 99)) .nil)))))
    (.cons (.forr (.tup (.cons (.name 3) (.cons (.name 4) (.cons (.name 5) .nil)))) (.iseq (.call 9 (.cons (.var 2) .nil))) (.cons (.ite (.cmp .ne (.bcall .repr (.cons (.call 8 (.cons (.var 3) (.cons (.var 4) .nil))) .nil)) (.bcall .repr (.cons (.var 5) .nil))) (.cons (.ret (.con (.bl false)))
    .nil) .nil)
    .nil))
    (.cons (.asg (.name 6) (.tup (.cons (.tup (.cons (.con (.int 2)) .nil)) (.cons (.tup (.cons (.con (.int 0)) .nil)) (.cons (.tup (.cons (.tup (.cons (.tup (.cons (.tup (.cons (.con (.str ⟨#[111, 110, 108, 121]⟩)) (.cons (.con (.int 0)) (.cons (.con (.int 1)) (.cons (.con (.int 1)) .nil))))) (.cons (.tup (.cons (.con (.str ⟨#[112, 97, 121]⟩)) (.cons (.var 2) .nil))) .nil))) (.cons (.tup (.cons (.tup (.cons (.con (.str ⟨#[115, 101, 116]⟩)) (.cons (.con (.int 0)) (.cons (.con (.int 1)) .nil)))) (.cons (.tup (.cons (.con (.str ⟨#[112, 97, 121]⟩)) (.cons (.var 2) .nil))) .nil))) (.cons (.tup .nil) .nil)))) (.cons (.tup (.cons (.tup (.cons (.tup (.cons (.con (.str ⟨#[116, 97, 107, 101]⟩)) (.cons (.con (.int 0)) (.cons (.con (.int 1)) .nil)))) .nil)) .nil)) .nil))) .nil)))))
    (.cons (.ite (.cmp .ne (.bcall .repr (.cons (.call 2 (.cons (.var 6) (.cons (.tup (.cons (.con (.int 0)) .nil)) .nil))) .nil)) (.bcall .repr (.cons (.tup (.cons (.tup (.cons (.tup (.cons (.con (.int 0)) (.cons (.con (.int 1)) .nil))) (.cons (.tup (.cons (.con (.int 1)) .nil)) (.cons (.var 2) .nil)))) (.cons (.tup (.cons (.tup (.cons (.con (.int 0)) (.cons (.con (.int 2)) .nil))) (.cons (.tup (.cons (.con (.int 0)) .nil)) (.cons (.con (.int 0)) .nil)))) .nil))) .nil))) (.cons (.ret (.con (.bl false)))
    .nil) .nil)
    (.cons (.asg (.name 7) (.tup (.cons (.tup (.cons (.tup (.cons (.con (.str ⟨#[112, 111, 117, 114]⟩)) (.cons (.con (.int 0)) (.cons (.con (.int 2)) .nil)))) .nil)) (.cons (.tup (.cons (.tup (.cons (.con (.str ⟨#[112, 111, 117, 114]⟩)) (.cons (.con (.int 2)) (.cons (.con (.int 0)) .nil)))) (.cons (.tup (.cons (.con (.str ⟨#[112, 97, 121]⟩)) (.cons (.var 2) .nil))) .nil))) (.cons (.tup (.cons (.tup (.cons (.con (.str ⟨#[112, 111, 117, 114]⟩)) (.cons (.con (.int 1)) (.cons (.con (.int 2)) .nil)))) (.cons (.tup (.cons (.con (.str ⟨#[112, 111, 117, 114]⟩)) (.cons (.con (.int 2)) (.cons (.con (.int 0)) .nil)))) .nil))) .nil)))))
    (.cons (.asg (.name 8) (.tup (.cons (.tup (.cons (.con (.int 2)) (.cons (.con (.int 3)) (.cons (.con (.int 4)) .nil)))) (.cons (.tup (.cons (.con (.int 0)) (.cons (.con (.int 0)) (.cons (.con (.int 0)) .nil)))) (.cons (.tup (.cons (.var 7) (.cons (.tup (.cons (.tup (.cons (.tup (.cons (.con (.str ⟨#[112, 111, 117, 114]⟩)) (.cons (.con (.int 0)) (.cons (.con (.int 1)) .nil)))) (.cons (.tup (.cons (.con (.str ⟨#[112, 111, 117, 114]⟩)) (.cons (.con (.int 1)) (.cons (.con (.int 2)) .nil)))) .nil))) .nil)) .nil))) .nil)))))
    (.cons (.asg (.name 9) (.lst (.cons (.tup (.cons (.tup (.cons (.con (.int 1)) (.cons (.con (.int 0)) (.cons (.con (.int 2)) .nil)))) (.cons (.tup (.cons (.tup (.cons (.tup (.cons (.con (.int 0)) (.cons (.con (.int 0)) .nil))) (.cons (.tup (.cons (.con (.int 0)) (.cons (.con (.int 0)) (.cons (.con (.int 3)) .nil)))) (.cons (.con (.int 0)) .nil)))) (.cons (.tup (.cons (.tup (.cons (.con (.int 1)) (.cons (.con (.int 0)) .nil))) (.cons (.tup (.cons (.con (.int 0)) (.cons (.con (.int 0)) (.cons (.con (.int 3)) .nil)))) (.cons (.con (.int 0)) .nil)))) .nil))) .nil))) .nil)))
    (.cons (.expr (.meth .append (.var 9) (.cons (.tup (.cons (.tup (.cons (.con (.int 1)) (.cons (.con (.int 2)) (.cons (.con (.int 0)) .nil)))) (.cons (.tup (.cons (.tup (.cons (.tup (.cons (.con (.int 0)) (.cons (.con (.int 0)) .nil))) (.cons (.tup (.cons (.con (.int 0)) (.cons (.con (.int 2)) (.cons (.con (.int 1)) .nil)))) (.cons (.con (.int 0)) .nil)))) (.cons (.tup (.cons (.tup (.cons (.con (.int 0)) (.cons (.con (.int 1)) .nil))) (.cons (.tup (.cons (.con (.int 1)) (.cons (.con (.int 2)) (.cons (.con (.int 0)) .nil)))) (.cons (.var 2) .nil)))) .nil))) .nil))) .nil)))
    (.cons (.asg (.name 10) (.tup (.cons (.tup (.cons (.tup (.cons (.con (.int 0)) (.cons (.con (.int 0)) .nil))) (.cons (.tup (.cons (.con (.int 0)) (.cons (.con (.int 0)) (.cons (.con (.int 1)) .nil)))) (.cons (.con (.int 0)) .nil)))) (.cons (.tup (.cons (.tup (.cons (.con (.int 0)) (.cons (.con (.int 1)) .nil))) (.cons (.tup (.cons (.con (.int 1)) (.cons (.con (.int 0)) (.cons (.con (.int 0)) .nil)))) (.cons (.var 2) .nil)))) (.cons (.tup (.cons (.tup (.cons (.con (.int 0)) (.cons (.con (.int 2)) .nil))) (.cons (.tup (.cons (.con (.int 1)) (.cons (.con (.int 0)) (.cons (.con (.int 0)) .nil)))) (.cons (.con (.int 0)) .nil)))) (.cons (.tup (.cons (.tup (.cons (.con (.int 1)) (.cons (.con (.int 0)) .nil))) (.cons (.tup (.cons (.con (.int 0)) (.cons (.con (.int 0)) (.cons (.con (.int 1)) .nil)))) (.cons (.con (.int 0)) .nil)))) .nil))))))
    (.cons (.expr (.meth .append (.var 9) (.cons (.tup (.cons (.tup (.cons (.con (.int 0)) (.cons (.con (.int 0)) (.cons (.con (.int 1)) .nil)))) (.cons (.var 10) .nil))) .nil)))
    (.cons (.expr (.meth .append (.var 9) (.cons (.tup (.cons (.tup (.cons (.con (.int 1)) (.cons (.con (.int 1)) (.cons (.con (.int 3)) .nil)))) (.cons (.tup .nil) .nil))) .nil)))
    (.cons (.ite (.cmp .ne (.lc [11, 3, 5] (.tup (.cons (.name 3) (.cons (.name 5) .nil))) (.iseq (.var 9)) .nil (.call 2 (.cons (.var 8) (.cons (.var 3) .nil)))) (.lc [11, 3, 5] (.tup (.cons (.name 3) (.cons (.name 5) .nil))) (.iseq (.var 9)) .nil (.var 5))) (.cons (.ret (.con (.bl false)))
    .nil) .nil)
    (.cons (.asg (.name 5) (.tup (.cons (.tup (.cons (.tup (.cons (.con (.int 0)) (.cons (.con (.int 0)) .nil))) (.cons (.tup (.cons (.con (.int 1)) .nil)) (.cons (.var 2) .nil)))) (.cons (.tup (.cons (.tup (.cons (.con (.int 0)) (.cons (.con (.int 1)) .nil))) (.cons (.tup (.cons (.con (.int 1)) .nil)) (.cons (.var 2) .nil)))) (.cons (.tup (.cons (.tup (.cons (.con (.int 0)) (.cons (.con (.int 2)) .nil))) (.cons (.tup (.cons (.con (.int 1)) .nil)) (.cons (.con (.int 0)) .nil)))) (.cons (.tup (.cons (.tup (.cons (.con (.int 1)) (.cons (.con (.int 0)) .nil))) (.cons (.tup (.cons (.con (.int 0)) .nil)) (.cons (.con (.int 0)) .nil)))) .nil))))))
    (.cons (.ret (.cmp .eq (.bcall .repr (.cons (.call 2 (.cons (.var 6) (.cons (.tup (.cons (.con (.int 1)) .nil)) .nil))) .nil)) (.bcall .repr (.cons (.var 5) .nil))))
    .nil)))))))))))))))⟩
def T : Tab := [c_replaced, c_done, c_moves, c__stepped, c__given, c__law_pen, c__law_fresh, c__law_draw, c__law_made, c__law_rows, c_law]
end K5

set_option Elab.async false
set_option linter.all false
set_option maxRecDepth 100000
namespace K5
open PySem PySem.Spec PyProof.Rows L2 PI
def topS (i : Nat) : Stmt := PySem.Challenge.pw_paidahead_k05_steps_by_hand.main.body.getD i (.Pass ⟨0, 0, 0, 0⟩)
abbrev G : List Str := ["replaced", "done", "moves", "_stepped", "_given", "_law_pen", "_law_fresh", "_law_draw", "_law_made", "_law_rows", "law"]
abbrev C : List (Str × GK) := []
abbrev s0 : Stmt := topS 1
theorem sc0 : FnScope ["row", "at", "value"] ["row", "at", "value"] (defScope s0) := ⟨rfl, rfl, rfl, by decide +kernel, rfl, by decide +kernel, by decide +kernel⟩
theorem cc0 : cSs (cS 100 { N := ["row", "at", "value"], sc := defScope s0, fn := fun _ => true, G := G, C := C }) (defBody s0) = some c_replaced.body := by kernel_rfl
theorem bb0 : ∀ (kV doc pm : Value) (an : Option Addr) (cdv ct : Value) (us : List Value), us.length = (["row", "at", "value"] : List Str).length → bindArgs (PySem.W.fnOf "replaced" "replaced" (defArgs s0) (defBody s0) (defScope s0) .none kV doc pm an cdv ct) ⟨us, []⟩ = pure ((["row", "at", "value"] : List Str).zip us) := fun _ _ _ _ _ _ us hl => match us, hl with | [_, _, _], _ => rfl
abbrev s1 : Stmt := topS 3
theorem sc1 : FnScope ["house", "content", "move", "deed", "way", "place", "paid", "step", "after"] ["house", "content", "move"] (defScope s1) := ⟨rfl, rfl, rfl, by decide +kernel, rfl, by decide +kernel, by decide +kernel⟩
theorem cc1 : cSs (cS 100 { N := ["house", "content", "move", "deed", "way", "place", "paid", "step", "after"], sc := defScope s1, fn := fun _ => true, G := G, C := C }) (defBody s1) = some c_done.body := by kernel_rfl
theorem bb1 : ∀ (kV doc pm : Value) (an : Option Addr) (cdv ct : Value) (us : List Value), us.length = (["house", "content", "move"] : List Str).length → bindArgs (PySem.W.fnOf "done" "done" (defArgs s1) (defBody s1) (defScope s1) .none kV doc pm an cdv ct) ⟨us, []⟩ = pure ((["house", "content", "move"] : List Str).zip us) := fun _ _ _ _ _ _ us hl => match us, hl with | [_, _, _], _ => rfl
abbrev s2 : Stmt := topS 4
theorem sc2 : FnScope ["house", "content", "found", "deed", "ways", "way", "after"] ["house", "content"] (defScope s2) := ⟨rfl, rfl, rfl, by decide +kernel, rfl, by decide +kernel, by decide +kernel⟩
theorem cc2 : cSs (cS 100 { N := ["house", "content", "found", "deed", "ways", "way", "after"], sc := defScope s2, fn := fun _ => true, G := G, C := C }) (defBody s2) = some c_moves.body := by kernel_rfl
theorem bb2 : ∀ (kV doc pm : Value) (an : Option Addr) (cdv ct : Value) (us : List Value), us.length = (["house", "content"] : List Str).length → bindArgs (PySem.W.fnOf "moves" "moves" (defArgs s2) (defBody s2) (defScope s2) .none kV doc pm an cdv ct) ⟨us, []⟩ = pure ((["house", "content"] : List Str).zip us) := fun _ _ _ _ _ _ us hl => match us, hl with | [_, _], _ => rfl
abbrev s3 : Stmt := topS 5
theorem sc3 : FnScope ["sizes", "content", "step", "word", "cell", "told", "value", "inside"] ["sizes", "content", "step"] (defScope s3) := ⟨rfl, rfl, rfl, by decide +kernel, rfl, by decide +kernel, by decide +kernel⟩
theorem cc3 : cSs (cS 100 { N := ["sizes", "content", "step", "word", "cell", "told", "value", "inside"], sc := defScope s3, fn := fun _ => true, G := G, C := C }) (defBody s3) = some c__stepped.body := by kernel_rfl
theorem bb3 : ∀ (kV doc pm : Value) (an : Option Addr) (cdv ct : Value) (us : List Value), us.length = (["sizes", "content", "step"] : List Str).length → bindArgs (PySem.W.fnOf "_stepped" "_stepped" (defArgs s3) (defBody s3) (defScope s3) .none kV doc pm an cdv ct) ⟨us, []⟩ = pure ((["sizes", "content", "step"] : List Str).zip us) := fun _ _ _ _ _ _ us hl => match us, hl with | [_, _, _], _ => rfl
abbrev s4 : Stmt := topS 6
theorem sc4 : FnScope ["sizes", "content", "cell", "value"] ["sizes", "content", "cell", "value"] (defScope s4) := ⟨rfl, rfl, rfl, by decide +kernel, rfl, by decide +kernel, by decide +kernel⟩
theorem cc4 : cSs (cS 100 { N := ["sizes", "content", "cell", "value"], sc := defScope s4, fn := fun _ => true, G := G, C := C }) (defBody s4) = some c__given.body := by kernel_rfl
theorem bb4 : ∀ (kV doc pm : Value) (an : Option Addr) (cdv ct : Value) (us : List Value), us.length = (["sizes", "content", "cell", "value"] : List Str).length → bindArgs (PySem.W.fnOf "_given" "_given" (defArgs s4) (defBody s4) (defScope s4) .none kV doc pm an cdv ct) ⟨us, []⟩ = pure ((["sizes", "content", "cell", "value"] : List Str).zip us) := fun _ _ _ _ _ _ us hl => match us, hl with | [_, _, _, _], _ => rfl
abbrev s5 : Stmt := topS 8
theorem sc5 : FnScope ["script"] ["script"] (defScope s5) := ⟨rfl, rfl, rfl, by decide +kernel, rfl, by decide +kernel, by decide +kernel⟩
theorem cc5 : cSs (cS 100 { N := ["script"], sc := defScope s5, fn := fun _ => true, G := G, C := C }) (defBody s5) = some c__law_pen.body := by kernel_rfl
theorem bb5 : ∀ (kV doc pm : Value) (an : Option Addr) (cdv ct : Value) (us : List Value), us.length = (["script"] : List Str).length → bindArgs (PySem.W.fnOf "_law_pen" "_law_pen" (defArgs s5) (defBody s5) (defScope s5) .none kV doc pm an cdv ct) ⟨us, []⟩ = pure ((["script"] : List Str).zip us) := fun _ _ _ _ _ _ us hl => match us, hl with | [_], _ => rfl
abbrev s6 : Stmt := topS 9
theorem sc6 : FnScope ["pen", "at", "cell", "p", "state", "found", "turn"] ["pen"] (defScope s6) := ⟨rfl, rfl, rfl, by decide +kernel, rfl, by decide +kernel, by decide +kernel⟩
theorem cc6 : cSs (cS 100 { N := ["pen", "at", "cell", "p", "state", "found", "turn"], sc := defScope s6, fn := fun _ => true, G := G, C := C }) (defBody s6) = some c__law_fresh.body := by kernel_rfl
theorem bb6 : ∀ (kV doc pm : Value) (an : Option Addr) (cdv ct : Value) (us : List Value), us.length = (["pen"] : List Str).length → bindArgs (PySem.W.fnOf "_law_fresh" "_law_fresh" (defArgs s6) (defBody s6) (defScope s6) .none kV doc pm an cdv ct) ⟨us, []⟩ = pure ((["pen"] : List Str).zip us) := fun _ _ _ _ _ _ us hl => match us, hl with | [_], _ => rfl
abbrev s7 : Stmt := topS 10
theorem sc7 : FnScope ["pen", "many", "digit"] ["pen", "many"] (defScope s7) := ⟨rfl, rfl, rfl, by decide +kernel, rfl, by decide +kernel, by decide +kernel⟩
theorem cc7 : cSs (cS 100 { N := ["pen", "many", "digit"], sc := defScope s7, fn := fun _ => true, G := G, C := C }) (defBody s7) = some c__law_draw.body := by kernel_rfl
theorem bb7 : ∀ (kV doc pm : Value) (an : Option Addr) (cdv ct : Value) (us : List Value), us.length = (["pen", "many"] : List Str).length → bindArgs (PySem.W.fnOf "_law_draw" "_law_draw" (defArgs s7) (defBody s7) (defScope s7) .none kV doc pm an cdv ct) ⟨us, []⟩ = pure ((["pen", "many"] : List Str).zip us) := fun _ _ _ _ _ _ us hl => match us, hl with | [_, _], _ => rfl
abbrev s8 : Stmt := topS 11
theorem sc8 : FnScope ["content", "steps", "house", "found", "rows"] ["content", "steps"] (defScope s8) := ⟨rfl, rfl, rfl, by decide +kernel, rfl, by decide +kernel, by decide +kernel⟩
theorem cc8 : cSs (cS 100 { N := ["content", "steps", "house", "found", "rows"], sc := defScope s8, fn := fun _ => true, G := G, C := C }) (defBody s8) = some c__law_made.body := by kernel_rfl
theorem bb8 : ∀ (kV doc pm : Value) (an : Option Addr) (cdv ct : Value) (us : List Value), us.length = (["content", "steps"] : List Str).length → bindArgs (PySem.W.fnOf "_law_made" "_law_made" (defArgs s8) (defBody s8) (defScope s8) .none kV doc pm an cdv ct) ⟨us, []⟩ = pure ((["content", "steps"] : List Str).zip us) := fun _ _ _ _ _ _ us hl => match us, hl with | [_, _], _ => rfl
abbrev s9 : Stmt := topS 12
theorem sc9 : FnScope ["n", "pay", "rows", "when", "both", "six", "toll"] ["n"] (defScope s9) := ⟨rfl, rfl, rfl, by decide +kernel, rfl, by decide +kernel, by decide +kernel⟩
theorem cc9 : cSs (cS 100 { N := ["n", "pay", "rows", "when", "both", "six", "toll"], sc := defScope s9, fn := fun _ => true, G := G, C := C }) (defBody s9) = some c__law_rows.body := by kernel_rfl
theorem bb9 : ∀ (kV doc pm : Value) (an : Option Addr) (cdv ct : Value) (us : List Value), us.length = (["n"] : List Str).length → bindArgs (PySem.W.fnOf "_law_rows" "_law_rows" (defArgs s9) (defBody s9) (defScope s9) .none kV doc pm an cdv ct) ⟨us, []⟩ = pure ((["n"] : List Str).zip us) := fun _ _ _ _ _ _ us hl => match us, hl with | [_], _ => rfl
abbrev s10 : Stmt := topS 13
theorem sc10 : FnScope ["script", "pen", "n", "content", "steps", "due", "house", "pours", "three", "rows", "last", ".0"] ["script"] (defScope s10) := ⟨rfl, rfl, rfl, by decide +kernel, rfl, by decide +kernel, by decide +kernel⟩
theorem cc10 : cSs (cS 100 { N := ["script", "pen", "n", "content", "steps", "due", "house", "pours", "three", "rows", "last", ".0"], sc := defScope s10, fn := fun _ => true, G := G, C := C }) (defBody s10) = some c_law.body := by kernel_rfl
theorem bb10 : ∀ (kV doc pm : Value) (an : Option Addr) (cdv ct : Value) (us : List Value), us.length = (["script"] : List Str).length → bindArgs (PySem.W.fnOf "law" "law" (defArgs s10) (defBody s10) (defScope s10) .none kV doc pm an cdv ct) ⟨us, []⟩ = pure ((["script"] : List Str).zip us) := fun _ _ _ _ _ _ us hl => match us, hl with | [_], _ => rfl
theorem all_mk {K : PySem.W.Frag} {h : Heap} {mg : Str → Option Value} {f0 f1 f2 f3 f4 f5 f6 f7 f8 f9 f10 : Addr} (X : K.In h) (Gn : h.Ns mainGlobals mg)
    {oc0 kV0 dc0 pm0 cd0 ct0 : Value} {od0 an0 : Option Addr} {sl0 : Array (Option Value)}
    (a0 : PySem.W.nsIn K mainGlobals "replaced" = some (some (.ref f0))) (l0 : K.lookup f0 = some ⟨oc0, od0, .func (PySem.W.fnOf "replaced" "replaced" (defArgs s0) (defBody s0) (defScope s0) .none kV0 dc0 pm0 an0 cd0 ct0), sl0⟩) (c0 : PySem.W.codeIn K cd0 "replaced" = true) (k0 : PySem.W.keepIn K (.ref f0) = true)
    {oc1 kV1 dc1 pm1 cd1 ct1 : Value} {od1 an1 : Option Addr} {sl1 : Array (Option Value)}
    (a1 : PySem.W.nsIn K mainGlobals "done" = some (some (.ref f1))) (l1 : K.lookup f1 = some ⟨oc1, od1, .func (PySem.W.fnOf "done" "done" (defArgs s1) (defBody s1) (defScope s1) .none kV1 dc1 pm1 an1 cd1 ct1), sl1⟩) (c1 : PySem.W.codeIn K cd1 "done" = true) (k1 : PySem.W.keepIn K (.ref f1) = true)
    {oc2 kV2 dc2 pm2 cd2 ct2 : Value} {od2 an2 : Option Addr} {sl2 : Array (Option Value)}
    (a2 : PySem.W.nsIn K mainGlobals "moves" = some (some (.ref f2))) (l2 : K.lookup f2 = some ⟨oc2, od2, .func (PySem.W.fnOf "moves" "moves" (defArgs s2) (defBody s2) (defScope s2) .none kV2 dc2 pm2 an2 cd2 ct2), sl2⟩) (c2 : PySem.W.codeIn K cd2 "moves" = true) (k2 : PySem.W.keepIn K (.ref f2) = true)
    {oc3 kV3 dc3 pm3 cd3 ct3 : Value} {od3 an3 : Option Addr} {sl3 : Array (Option Value)}
    (a3 : PySem.W.nsIn K mainGlobals "_stepped" = some (some (.ref f3))) (l3 : K.lookup f3 = some ⟨oc3, od3, .func (PySem.W.fnOf "_stepped" "_stepped" (defArgs s3) (defBody s3) (defScope s3) .none kV3 dc3 pm3 an3 cd3 ct3), sl3⟩) (c3 : PySem.W.codeIn K cd3 "_stepped" = true) (k3 : PySem.W.keepIn K (.ref f3) = true)
    {oc4 kV4 dc4 pm4 cd4 ct4 : Value} {od4 an4 : Option Addr} {sl4 : Array (Option Value)}
    (a4 : PySem.W.nsIn K mainGlobals "_given" = some (some (.ref f4))) (l4 : K.lookup f4 = some ⟨oc4, od4, .func (PySem.W.fnOf "_given" "_given" (defArgs s4) (defBody s4) (defScope s4) .none kV4 dc4 pm4 an4 cd4 ct4), sl4⟩) (c4 : PySem.W.codeIn K cd4 "_given" = true) (k4 : PySem.W.keepIn K (.ref f4) = true)
    {oc5 kV5 dc5 pm5 cd5 ct5 : Value} {od5 an5 : Option Addr} {sl5 : Array (Option Value)}
    (a5 : PySem.W.nsIn K mainGlobals "_law_pen" = some (some (.ref f5))) (l5 : K.lookup f5 = some ⟨oc5, od5, .func (PySem.W.fnOf "_law_pen" "_law_pen" (defArgs s5) (defBody s5) (defScope s5) .none kV5 dc5 pm5 an5 cd5 ct5), sl5⟩) (c5 : PySem.W.codeIn K cd5 "_law_pen" = true) (k5 : PySem.W.keepIn K (.ref f5) = true)
    {oc6 kV6 dc6 pm6 cd6 ct6 : Value} {od6 an6 : Option Addr} {sl6 : Array (Option Value)}
    (a6 : PySem.W.nsIn K mainGlobals "_law_fresh" = some (some (.ref f6))) (l6 : K.lookup f6 = some ⟨oc6, od6, .func (PySem.W.fnOf "_law_fresh" "_law_fresh" (defArgs s6) (defBody s6) (defScope s6) .none kV6 dc6 pm6 an6 cd6 ct6), sl6⟩) (c6 : PySem.W.codeIn K cd6 "_law_fresh" = true) (k6 : PySem.W.keepIn K (.ref f6) = true)
    {oc7 kV7 dc7 pm7 cd7 ct7 : Value} {od7 an7 : Option Addr} {sl7 : Array (Option Value)}
    (a7 : PySem.W.nsIn K mainGlobals "_law_draw" = some (some (.ref f7))) (l7 : K.lookup f7 = some ⟨oc7, od7, .func (PySem.W.fnOf "_law_draw" "_law_draw" (defArgs s7) (defBody s7) (defScope s7) .none kV7 dc7 pm7 an7 cd7 ct7), sl7⟩) (c7 : PySem.W.codeIn K cd7 "_law_draw" = true) (k7 : PySem.W.keepIn K (.ref f7) = true)
    {oc8 kV8 dc8 pm8 cd8 ct8 : Value} {od8 an8 : Option Addr} {sl8 : Array (Option Value)}
    (a8 : PySem.W.nsIn K mainGlobals "_law_made" = some (some (.ref f8))) (l8 : K.lookup f8 = some ⟨oc8, od8, .func (PySem.W.fnOf "_law_made" "_law_made" (defArgs s8) (defBody s8) (defScope s8) .none kV8 dc8 pm8 an8 cd8 ct8), sl8⟩) (c8 : PySem.W.codeIn K cd8 "_law_made" = true) (k8 : PySem.W.keepIn K (.ref f8) = true)
    {oc9 kV9 dc9 pm9 cd9 ct9 : Value} {od9 an9 : Option Addr} {sl9 : Array (Option Value)}
    (a9 : PySem.W.nsIn K mainGlobals "_law_rows" = some (some (.ref f9))) (l9 : K.lookup f9 = some ⟨oc9, od9, .func (PySem.W.fnOf "_law_rows" "_law_rows" (defArgs s9) (defBody s9) (defScope s9) .none kV9 dc9 pm9 an9 cd9 ct9), sl9⟩) (c9 : PySem.W.codeIn K cd9 "_law_rows" = true) (k9 : PySem.W.keepIn K (.ref f9) = true)
    {oc10 kV10 dc10 pm10 cd10 ct10 : Value} {od10 an10 : Option Addr} {sl10 : Array (Option Value)}
    (a10 : PySem.W.nsIn K mainGlobals "law" = some (some (.ref f10))) (l10 : K.lookup f10 = some ⟨oc10, od10, .func (PySem.W.fnOf "law" "law" (defArgs s10) (defBody s10) (defScope s10) .none kV10 dc10 pm10 an10 cd10 ct10), sl10⟩) (c10 : PySem.W.codeIn K cd10 "law" = true) (k10 : PySem.W.keepIn K (.ref f10) = true)
    (z0 : PySem.W.nsIn K mainGlobals "len" = some none) (z1 : PySem.W.nsIn K mainGlobals "int" = some none) (z2 : PySem.W.nsIn K mainGlobals "tuple" = some none) (z3 : PySem.W.nsIn K mainGlobals "list" = some none) (z4 : PySem.W.nsIn K mainGlobals "repr" = some none) (z5 : PySem.W.nsIn K mainGlobals "range" = some none) (z6 : PySem.W.nsIn K mainGlobals "enumerate" = some none) (z7 : PySem.W.nsIn K mainGlobals "max" = some none) (z8 : PySem.W.nsIn K mainGlobals "min" = some none) (z9 : PySem.W.nsIn K mainGlobals "all" = some none) (z10 : PySem.W.nsIn K mainGlobals "sum" = some none) (z11 : PySem.W.nsIn K mainGlobals "abs" = some none) (z12 : PySem.W.nsIn K mainGlobals "isinstance" = some none) (z13 : PySem.W.nsIn K mainGlobals "bool" = some none) (z14 : PySem.W.nsIn K mainGlobals "zip" = some none) :
    (∀ (k : Nat) (x : Str), G[k]? = some x → ∃ d, T[k]? = some d ∧ DefOk K mg G C x d) ∧ (∀ x ∈ bltNames, G.contains x = false → mg x = none) ∧ ∀ (x : Str) (k : GK), C.lookup x = some k → GkOk mg x k := by
  refine ⟨defs_ix (xs := G) (ds := T) ⟨def_mk X Gn ["row", "at", "value"] ["row", "at", "value"] 100 a0 l0 c0 k0 bb0 sc0 cc0 rfl rfl, def_mk X Gn ["house", "content", "move", "deed", "way", "place", "paid", "step", "after"] ["house", "content", "move"] 100 a1 l1 c1 k1 bb1 sc1 cc1 rfl rfl, def_mk X Gn ["house", "content", "found", "deed", "ways", "way", "after"] ["house", "content"] 100 a2 l2 c2 k2 bb2 sc2 cc2 rfl rfl, def_mk X Gn ["sizes", "content", "step", "word", "cell", "told", "value", "inside"] ["sizes", "content", "step"] 100 a3 l3 c3 k3 bb3 sc3 cc3 rfl rfl, def_mk X Gn ["sizes", "content", "cell", "value"] ["sizes", "content", "cell", "value"] 100 a4 l4 c4 k4 bb4 sc4 cc4 rfl rfl, def_mk X Gn ["script"] ["script"] 100 a5 l5 c5 k5 bb5 sc5 cc5 rfl rfl, def_mk X Gn ["pen", "at", "cell", "p", "state", "found", "turn"] ["pen"] 100 a6 l6 c6 k6 bb6 sc6 cc6 rfl rfl, def_mk X Gn ["pen", "many", "digit"] ["pen", "many"] 100 a7 l7 c7 k7 bb7 sc7 cc7 rfl rfl, def_mk X Gn ["content", "steps", "house", "found", "rows"] ["content", "steps"] 100 a8 l8 c8 k8 bb8 sc8 cc8 rfl rfl, def_mk X Gn ["n", "pay", "rows", "when", "both", "six", "toll"] ["n"] 100 a9 l9 c9 k9 bb9 sc9 cc9 rfl rfl, def_mk X Gn ["script", "pen", "n", "content", "steps", "due", "house", "pours", "three", "rows", "last", ".0"] ["script"] 100 a10 l10 c10 k10 bb10 sc10 cc10 rfl rfl, trivial⟩, fun x hx _ => ?_, ?_⟩
  · simp only [bltNames, List.mem_cons, List.not_mem_nil, or_false] at hx
    rcases hx with rfl | rfl | rfl | rfl | rfl | rfl | rfl | rfl | rfl | rfl | rfl | rfl | rfl | rfl | rfl
    · exact PySem.W.mg_none_of X Gn z0
    · exact PySem.W.mg_none_of X Gn z1
    · exact PySem.W.mg_none_of X Gn z2
    · exact PySem.W.mg_none_of X Gn z3
    · exact PySem.W.mg_none_of X Gn z4
    · exact PySem.W.mg_none_of X Gn z5
    · exact PySem.W.mg_none_of X Gn z6
    · exact PySem.W.mg_none_of X Gn z7
    · exact PySem.W.mg_none_of X Gn z8
    · exact PySem.W.mg_none_of X Gn z9
    · exact PySem.W.mg_none_of X Gn z10
    · exact PySem.W.mg_none_of X Gn z11
    · exact PySem.W.mg_none_of X Gn z12
    · exact PySem.W.mg_none_of X Gn z13
    · exact PySem.W.mg_none_of X Gn z14
  · intro x k hk; cases hk
end K5

set_option Elab.async false
set_option linter.all false
/-! PIq: the same runs, quicker to reckon. -/
namespace PI
open PySem
/-! ### equality -/
def natsEq : List Nat → List Nat → Bool
  | [], [] => true
  | a :: l, b :: r => match Nat.beq a b with
    | true => natsEq l r
    | false => false
  | _, _ => false
theorem natsEq_iff : ∀ l r : List Nat, natsEq l r = true ↔ l = r
  | [], [] => by simp [natsEq]
  | [], _ :: _ => by simp [natsEq]
  | _ :: _, [] => by simp [natsEq]
  | a :: l, b :: r => by
    have ih := natsEq_iff l r
    unfold natsEq
    cases h : Nat.beq a b with
    | true =>
      have : a = b := Nat.eq_of_beq_eq_true h
      subst this
      simp [ih]
    | false =>
      have : a ≠ b := Nat.ne_of_beq_eq_false h
      simp [this]
def strQ (x y : Str) : Bool := natsEq x.cps.toList y.cps.toList
theorem strQ_eq (x y : Str) : strQ x y = (x == y) := by
  rw [Bool.eq_iff_iff]
  unfold strQ
  rw [natsEq_iff]
  obtain ⟨⟨a⟩⟩ := x
  obtain ⟨⟨b⟩⟩ := y
  simp
mutual
def eqvQ : PyData → PyData → Bool
  | .none, .none => true
  | .bool a, .bool b => a == b
  | .bool a, .int j => (if a then 1 else 0) == j
  | .int i, .bool b => i == (if b then 1 else 0)
  | .int i, .int j => i == j
  | .str x, .str y => strQ x y
  | .list xs, .list ys => eqvsQ xs ys
  | .tuple xs, .tuple ys => eqvsQ xs ys
  | _, _ => false
def eqvsQ : List PyData → List PyData → Bool
  | [], [] => true
  | x :: xs, y :: ys => match eqvQ x y with
    | true => eqvsQ xs ys
    | false => false
  | _, _ => false
end
mutual
theorem eqvQ_eq : ∀ d e : PyData, eqvQ d e = PyData.eqv d e
  | .none, e => by cases e <;> simp [eqvQ, PyData.eqv]
  | .bool _, e => by cases e <;> simp [eqvQ, PyData.eqv]
  | .int _, e => by cases e <;> simp [eqvQ, PyData.eqv]
  | .str _, e => by cases e <;> simp [eqvQ, PyData.eqv, strQ_eq]
  | .list xs, e => by cases e <;> simp [eqvQ, PyData.eqv, eqvsQ_eq xs]
  | .tuple xs, e => by cases e <;> simp [eqvQ, PyData.eqv, eqvsQ_eq xs]
  | .dict _, e => by cases e <;> simp [eqvQ, PyData.eqv]
theorem eqvsQ_eq : ∀ d e : List PyData, eqvsQ d e = PyData.eqvAll d e
  | [], [] => by simp [eqvsQ, PyData.eqvAll]
  | [], _ :: _ => by simp [eqvsQ, PyData.eqvAll]
  | _ :: _, [] => by simp [eqvsQ, PyData.eqvAll]
  | x :: xs, y :: ys => by
    rw [eqvsQ, PyData.eqvAll, eqvQ_eq x y, eqvsQ_eq xs ys]
    cases PyData.eqv x y <;> rfl
end
/-- two values that are plainly small -/
def eqI2 (h : IH) (v w : IV) : Option Bool := match v, w with
  | .rep d, .rep e => if sameD d e then some true else none
  | v, w => match dataI h v, dataI h w with
    | some d, some e => if d.depth ≤ 64 ∧ e.depth ≤ 64 then some (eqvQ d e) else none
    | _, _ => none
def eqIQ (h : IH) (v w : IV) : Option Bool := match v, w with
  | .str x, .str y => some (strQ x y)
  | .int x, .int y => some (x == y)
  | v, w => eqI2 h v w
theorem eqI2_eq (h : IH) (v w : IV) : eqI2 h v w = eqI h v w := by
  unfold eqI2 eqI
  simp only [eqvQ_eq]
  try rfl
theorem eqIQ_eq (h : IH) (v w : IV) : eqIQ h v w = eqI h v w := by
  unfold eqIQ
  split
  · simp [eqI, dataI, dataOf, PyData.depth, PyData.eqv, strQ_eq]
  · simp [eqI, dataI, dataOf, PyData.depth, PyData.eqv]
  · exact eqI2_eq h v w

def eqFQ : IV → IV → Bool
  | .non, .non => true
  | .bl a, .bl b => a == b
  | .bl a, .int b => (if a then 1 else 0) == b
  | .int a, .bl b => a == (if b then 1 else 0)
  | .int a, .int b => a == b
  | .str a, .str b => strQ a b
  | _, _ => false
theorem eqFQ_eq (v w : IV) : eqFQ v w = eqF v w := by
  cases v <;> cases w <;> simp [eqFQ, eqF, strQ_eq]
def inIQ (h : IH) (v w : IV) : Option Bool := match seqI h w with
  | some l => if flatB v && l.all flatB then some (l.any fun y => eqFQ y v) else match w with
    | .ref _ => match dataOf v, datasOf l with
      | some d, some ds => if d.depth ≤ 64 ∧ PyData.depthAll ds ≤ 63 then some (ds.any fun z => eqvQ z d) else none
      | _, _ => none
    | _ => none
  | none => none
theorem inIQ_eq (h : IH) (v w : IV) : inIQ h v w = inI h v w := by
  unfold inIQ inI
  simp only [eqFQ_eq, eqvQ_eq]
  try rfl
def cmpIQ (op : COp) (v w : IV) (h : IH) : Option Bool := match op with
  | .eq => eqIQ h v w
  | .ne => (eqIQ h v w).map not
  | .inn => inIQ h v w
  | .notIn => (inIQ h v w).map not
  | op => cmpI op v w h
theorem cmpIQ_eq (op : COp) (v w : IV) (h : IH) : cmpIQ op v w h = cmpI op v w h := by
  cases op <;> simp [cmpIQ, cmpI, eqIQ_eq, inIQ_eq]

structure Dn where
  e : Fn → Lo → IH → Res IV
  es : Fn → Lo → IH → Res (List IV)
  p : Fn → Lo → IH → Res (Option Int)
  b : Fn → Lo → IH → Res Bool
  it : Fn → Lo → IH → Res ItS
  n : Bool
def Dn.ofE (f : Fn → Lo → IH → Res IV) : Dn := ⟨f, fun _ _ _ => .bad, fun _ _ _ => .bad, fun _ _ _ => .bad, fun _ _ _ => .bad, false⟩
def Dn.ofIt (f : Fn → Lo → IH → Res ItS) : Dn := ⟨fun _ _ _ => .bad, fun _ _ _ => .bad, fun _ _ _ => .bad, fun _ _ _ => .bad, f, false⟩
def lcTurn (tg : TG) (σ0 : Lo) (ifs : Lo → IH → Res Bool) (k : Lo → IH → Res Unit) (v : IV) (h : IH) : Res Unit := match putT tg v σ0 with
  | some σ2 => (ifs σ2 h).bind fun b h2 => match b with
    | true => k σ2 h2
    | false => .ok () h2
  | none => .bad
def den : E → Dn
  | .var i => .ofE fun _ σ h => match σ[i]? with
    | some (some v) => .ok v h
    | _ => .bad
  | .con v => .ofE fun _ _ h => .ok v.v h
  | .bin op a b => .ofE fun F σ h => ((den a).e F σ h).bind fun v h1 => ((den b).e F σ h1).bind fun w h2 => binI op v w h2
  | .cmp op a b => .ofE fun F σ h => ((den a).e F σ h).bind fun v h1 => ((den b).e F σ h1).bind fun w h2 => opt ((cmpIQ op v w h2).map .bl) h2
  | .chain o1 o2 a b c => .ofE fun F σ h => ((den a).e F σ h).bind fun v h1 => ((den b).e F σ h1).bind fun w h2 => match cmpIQ o1 v w h2 with
    | some true => ((den c).e F σ h2).bind fun u h3 => opt ((cmpIQ o2 w u h3).map .bl) h3
    | some false => .ok (.bl false) h2
    | none => .bad
  | .un .not a => .ofE fun F σ h => ((den a).e F σ h).bind fun v h1 => match v with
    | .bl b => .ok (.bl (!b)) h1
    | _ => .bad
  | .un .neg a => .ofE fun F σ h => ((den a).e F σ h).bind fun v h1 => match v with
    | .int i => .ok (.int (-i)) h1
    | _ => .bad
  | .and a b => .ofE fun F σ h => ((den a).e F σ h).bind fun v h1 => match v with
    | .bl true => (den b).e F σ h1
    | .bl false => .ok (.bl false) h1
    | _ => .bad
  | .or a b => .ofE fun F σ h => ((den a).e F σ h).bind fun v h1 => match v with
    | .bl true => .ok (.bl true) h1
    | .bl false => (den b).e F σ h1
    | _ => .bad
  | .ite c a b => .ofE fun F σ h => ((den c).e F σ h).bind fun v h1 => match v with
    | .bl true => (den a).e F σ h1
    | .bl false => (den b).e F σ h1
    | _ => .bad
  | .tup es => .ofE fun F σ h => ((den es).es F σ h).bind fun l h1 => if l.length ≤ sizeLine then .ok (.tup l) h1 else .bad
  | .lst es => .ofE fun F σ h => ((den es).es F σ h).bind fun l h1 => if l.length ≤ sizeLine then newL l h1 else .bad
  | .sub a b => .ofE fun F σ h => ((den a).e F σ h).bind fun v h1 => ((den b).e F σ h1).bind fun w h2 => opt (subI v w h2) h2
  | .slice a lo hi => .ofE fun F σ h => ((den a).e F σ h).bind fun v h1 => ((den lo).p F σ h1).bind fun l h2 => ((den hi).p F σ h2).bind fun u h3 => sliceI v l u h3
  | .call f es => .ofE fun F σ h => ((den es).es F σ h).bind fun vs h1 => F f vs h1
  | .bcall b es => .ofE fun F σ h => ((den es).es F σ h).bind fun vs h1 => match vs with
    | [v] => bI b v h1
    | _ => .bad
  | .bcall2 b x y => .ofE fun F σ h => ((den x).e F σ h).bind fun v h1 => ((den y).e F σ h1).bind fun w h2 => b2I b v w h2
  | .meth m o es => .ofE fun F σ h => ((den o).e F σ h).bind fun v h1 => if isL v h1 then ((den es).es F σ h1).bind fun vs h2 => match vs with
      | [w] => mI m v w h2
      | _ => .bad
    else .bad
  | .lc vs tg it ifs elt => .ofE fun F σ h => ((den it).it F σ h).bind fun st h1 =>
    (loopU (lcTurn tg (wipeI σ vs) ((den ifs).b F) fun σ2 h2 => ((den elt).e F σ2 h2).bind fun y h3 => pushD h1.length y h3) (st.fuel h1) st (h1 ++ [.lst []])).bind fun _ h2 => .ok (.ref h1.length) h2
  | .lc2 vs tg it ifs vs1 tg1 it1 ifs1 elt => .ofE fun F σ h => ((den it).it F σ h).bind fun st h1 =>
    (loopU (lcTurn tg (wipeI σ vs) ((den ifs).b F) fun σ2 h2 => ((den it1).it F σ2 h2).bind fun st1 h3 =>
      loopU (lcTurn tg1 (wipeI σ2 vs1) ((den ifs1).b F) fun σ3 h4 => ((den elt).e F σ3 h4).bind fun y h5 => pushD h1.length y h5) (st1.fuel h3) st1 h3) (st.fuel h1) st (h1 ++ [.lst []])).bind fun _ h2 => .ok (.ref h1.length) h2
  | .isi e t => .ofE fun F σ h => ((den e).e F σ h).bind fun v h1 => .ok (.bl (isT t v)) h1
  | .izip st a b => .ofIt fun F σ h => ((den a).e F σ h).bind fun v h1 => ((den b).e F σ h1).bind fun w h2 => opt (zipIt st v w h2) h2
  | .nopart => ⟨fun _ _ _ => .bad, fun _ _ _ => .bad, fun _ _ h => .ok none h, fun _ _ _ => .bad, fun _ _ _ => .bad, false⟩
  | .iseq e => .ofIt fun F σ h => ((den e).e F σ h).bind fun v h1 => opt (seqIt v h1) h1
  | .ienum e => .ofIt fun F σ h => ((den e).e F σ h).bind fun v h1 => opt (enumIt v h1) h1
  | .irange es => .ofIt fun F σ h => ((den es).es F σ h).bind fun vs h1 => opt (rangeIt vs) h1
  | .nil => ⟨fun _ _ _ => .bad, fun _ _ h => .ok [] h, fun _ _ _ => .bad, fun _ _ h => .ok true h, fun _ _ _ => .bad, true⟩
  | .cons e r => ⟨fun _ _ _ => .bad, fun F σ h => ((den e).e F σ h).bind fun v h1 => ((den r).es F σ h1).bind fun vs h2 => .ok (v :: vs) h2,
      fun F σ h => ((den e).e F σ h).bind fun v h1 => match v with
        | .int i => .ok (some i) h1
        | _ => .bad,
      fun F σ h => match (den r).n with
        | true => ((den e).e F σ h).bind fun v h1 => match v with
          | .bl b => .ok b h1
          | _ => .bad
        | false => .bad, fun _ _ _ => .bad, false⟩
theorem den_n (e : E) : (den e).n = true ↔ e = .nil := by
  cases e <;> first | (simp [den, Dn.ofE, Dn.ofIt]; done) | (rename_i op a; cases op <;> simp [den, Dn.ofE])
structure DenOk (x : E) : Prop where
  e : ∀ F σ h, (den x).e F σ h = evalE F x σ h
  es : ∀ F σ h, (den x).es F σ h = evalEs F x σ h
  p : ∀ F σ h, (den x).p F σ h = evalP F x σ h
  b : ∀ F σ h, (den x).b F σ h = evalB F x σ h
  it : ∀ F σ h, (den x).it F σ h = evalIt F x σ h
theorem den_ok (e : E) : DenOk e := by
  induction e with
  | nil => exact ⟨fun _ _ _ => by simp [den, evalE], fun _ _ _ => by simp [den, evalEs], fun _ _ _ => by simp [den, evalP], fun _ _ _ => by simp [den, evalB], fun _ _ _ => by simp [den, evalIt]⟩
  | nopart => exact ⟨fun _ _ _ => by simp [den, evalE], fun _ _ _ => by simp [den, evalEs], fun _ _ _ => by simp [den, evalP], fun _ _ _ => by simp [den, evalB], fun _ _ _ => by simp [den, evalIt]⟩
  | cons e r ih1 ih2 =>
    refine ⟨fun _ _ _ => by simp [den, evalE], fun _ _ _ => by (simp only [den, evalEs, ih1.e, ih2.es]; try rfl), fun _ _ _ => by (simp only [den, evalP, ih1.e]; try rfl), fun F σ h => ?_, fun _ _ _ => by simp [den, evalIt]⟩
    by_cases hr : r = .nil
    · subst hr
      (simp only [den, evalB, ih1.e]; try rfl)
    · have hn : (den r).n = false := by
        cases hh : (den r).n with
        | false => rfl
        | true => exact absurd ((den_n r).1 hh) hr
      simp only [den, hn]
      cases r <;> first | (exact absurd rfl hr) | simp [evalB]
  | un op a ih =>
    cases op <;> exact ⟨fun _ _ _ => by (simp only [den, Dn.ofE, evalE, ih.e]; try rfl), fun _ _ _ => by simp [den, Dn.ofE, evalEs], fun _ _ _ => by simp [den, Dn.ofE, evalP], fun _ _ _ => by simp [den, Dn.ofE, evalB], fun _ _ _ => by simp [den, Dn.ofE, evalIt]⟩
  | isi e t i1 => exact ⟨fun _ _ _ => by (simp only [den, Dn.ofE, evalE, i1.e]; try rfl), fun _ _ _ => by simp [den, Dn.ofE, evalEs], fun _ _ _ => by simp [den, Dn.ofE, evalP], fun _ _ _ => by simp [den, Dn.ofE, evalB], fun _ _ _ => by simp [den, Dn.ofE, evalIt]⟩
  | izip st a b i1 i2 => exact ⟨fun _ _ _ => by simp [den, Dn.ofIt, evalE], fun _ _ _ => by simp [den, Dn.ofIt, evalEs], fun _ _ _ => by simp [den, Dn.ofIt, evalP], fun _ _ _ => by simp [den, Dn.ofIt, evalB], fun _ _ _ => by (simp only [den, Dn.ofIt, evalIt, i1.e, i2.e]; try rfl)⟩
  | iseq e ih => exact ⟨fun _ _ _ => by simp [den, Dn.ofIt, evalE], fun _ _ _ => by simp [den, Dn.ofIt, evalEs], fun _ _ _ => by simp [den, Dn.ofIt, evalP], fun _ _ _ => by simp [den, Dn.ofIt, evalB], fun _ _ _ => by (simp only [den, Dn.ofIt, evalIt, ih.e]; try rfl)⟩
  | ienum e ih => exact ⟨fun _ _ _ => by simp [den, Dn.ofIt, evalE], fun _ _ _ => by simp [den, Dn.ofIt, evalEs], fun _ _ _ => by simp [den, Dn.ofIt, evalP], fun _ _ _ => by simp [den, Dn.ofIt, evalB], fun _ _ _ => by (simp only [den, Dn.ofIt, evalIt, ih.e]; try rfl)⟩
  | irange e ih => exact ⟨fun _ _ _ => by simp [den, Dn.ofIt, evalE], fun _ _ _ => by simp [den, Dn.ofIt, evalEs], fun _ _ _ => by simp [den, Dn.ofIt, evalP], fun _ _ _ => by simp [den, Dn.ofIt, evalB], fun _ _ _ => by (simp only [den, Dn.ofIt, evalIt, ih.es]; try rfl)⟩
  | var i => exact ⟨fun _ _ _ => by (simp only [den, Dn.ofE, evalE]; try rfl), fun _ _ _ => by simp [den, Dn.ofE, evalEs], fun _ _ _ => by simp [den, Dn.ofE, evalP], fun _ _ _ => by simp [den, Dn.ofE, evalB], fun _ _ _ => by simp [den, Dn.ofE, evalIt]⟩
  | con i => exact ⟨fun _ _ _ => by (simp only [den, Dn.ofE, evalE]; try rfl), fun _ _ _ => by simp [den, Dn.ofE, evalEs], fun _ _ _ => by simp [den, Dn.ofE, evalP], fun _ _ _ => by simp [den, Dn.ofE, evalB], fun _ _ _ => by simp [den, Dn.ofE, evalIt]⟩
  | bin op a b i1 i2 => exact ⟨fun _ _ _ => by (simp only [den, Dn.ofE, evalE, i1.e, i2.e]; try rfl), fun _ _ _ => by simp [den, Dn.ofE, evalEs], fun _ _ _ => by simp [den, Dn.ofE, evalP], fun _ _ _ => by simp [den, Dn.ofE, evalB], fun _ _ _ => by simp [den, Dn.ofE, evalIt]⟩
  | cmp op a b i1 i2 => exact ⟨fun _ _ _ => by (simp only [den, Dn.ofE, evalE, i1.e, i2.e, cmpIQ_eq]; try rfl), fun _ _ _ => by simp [den, Dn.ofE, evalEs], fun _ _ _ => by simp [den, Dn.ofE, evalP], fun _ _ _ => by simp [den, Dn.ofE, evalB], fun _ _ _ => by simp [den, Dn.ofE, evalIt]⟩
  | chain o1 o2 a b c i1 i2 i3 => exact ⟨fun _ _ _ => by (simp only [den, Dn.ofE, evalE, i1.e, i2.e, i3.e, cmpIQ_eq]; try rfl), fun _ _ _ => by simp [den, Dn.ofE, evalEs], fun _ _ _ => by simp [den, Dn.ofE, evalP], fun _ _ _ => by simp [den, Dn.ofE, evalB], fun _ _ _ => by simp [den, Dn.ofE, evalIt]⟩
  | and a b i1 i2 => exact ⟨fun _ _ _ => by (simp only [den, Dn.ofE, evalE, i1.e, i2.e]; try rfl), fun _ _ _ => by simp [den, Dn.ofE, evalEs], fun _ _ _ => by simp [den, Dn.ofE, evalP], fun _ _ _ => by simp [den, Dn.ofE, evalB], fun _ _ _ => by simp [den, Dn.ofE, evalIt]⟩
  | or a b i1 i2 => exact ⟨fun _ _ _ => by (simp only [den, Dn.ofE, evalE, i1.e, i2.e]; try rfl), fun _ _ _ => by simp [den, Dn.ofE, evalEs], fun _ _ _ => by simp [den, Dn.ofE, evalP], fun _ _ _ => by simp [den, Dn.ofE, evalB], fun _ _ _ => by simp [den, Dn.ofE, evalIt]⟩
  | ite a b c i1 i2 i3 => exact ⟨fun _ _ _ => by (simp only [den, Dn.ofE, evalE, i1.e, i2.e, i3.e]; try rfl), fun _ _ _ => by simp [den, Dn.ofE, evalEs], fun _ _ _ => by simp [den, Dn.ofE, evalP], fun _ _ _ => by simp [den, Dn.ofE, evalB], fun _ _ _ => by simp [den, Dn.ofE, evalIt]⟩
  | tup a i1 => exact ⟨fun _ _ _ => by (simp only [den, Dn.ofE, evalE, i1.es]; try rfl), fun _ _ _ => by simp [den, Dn.ofE, evalEs], fun _ _ _ => by simp [den, Dn.ofE, evalP], fun _ _ _ => by simp [den, Dn.ofE, evalB], fun _ _ _ => by simp [den, Dn.ofE, evalIt]⟩
  | lst a i1 => exact ⟨fun _ _ _ => by (simp only [den, Dn.ofE, evalE, i1.es]; try rfl), fun _ _ _ => by simp [den, Dn.ofE, evalEs], fun _ _ _ => by simp [den, Dn.ofE, evalP], fun _ _ _ => by simp [den, Dn.ofE, evalB], fun _ _ _ => by simp [den, Dn.ofE, evalIt]⟩
  | sub a b i1 i2 => exact ⟨fun _ _ _ => by (simp only [den, Dn.ofE, evalE, i1.e, i2.e]; try rfl), fun _ _ _ => by simp [den, Dn.ofE, evalEs], fun _ _ _ => by simp [den, Dn.ofE, evalP], fun _ _ _ => by simp [den, Dn.ofE, evalB], fun _ _ _ => by simp [den, Dn.ofE, evalIt]⟩
  | slice a b c i1 i2 i3 => exact ⟨fun _ _ _ => by (simp only [den, Dn.ofE, evalE, i1.e, i2.p, i3.p]; try rfl), fun _ _ _ => by simp [den, Dn.ofE, evalEs], fun _ _ _ => by simp [den, Dn.ofE, evalP], fun _ _ _ => by simp [den, Dn.ofE, evalB], fun _ _ _ => by simp [den, Dn.ofE, evalIt]⟩
  | call f a i1 => exact ⟨fun _ _ _ => by (simp only [den, Dn.ofE, evalE, i1.es]; try rfl), fun _ _ _ => by simp [den, Dn.ofE, evalEs], fun _ _ _ => by simp [den, Dn.ofE, evalP], fun _ _ _ => by simp [den, Dn.ofE, evalB], fun _ _ _ => by simp [den, Dn.ofE, evalIt]⟩
  | bcall f a i1 => exact ⟨fun _ _ _ => by (simp only [den, Dn.ofE, evalE, i1.es]; try rfl), fun _ _ _ => by simp [den, Dn.ofE, evalEs], fun _ _ _ => by simp [den, Dn.ofE, evalP], fun _ _ _ => by simp [den, Dn.ofE, evalB], fun _ _ _ => by simp [den, Dn.ofE, evalIt]⟩
  | bcall2 b a c i1 i2 => exact ⟨fun _ _ _ => by (simp only [den, Dn.ofE, evalE, i1.e, i2.e]; try rfl), fun _ _ _ => by simp [den, Dn.ofE, evalEs], fun _ _ _ => by simp [den, Dn.ofE, evalP], fun _ _ _ => by simp [den, Dn.ofE, evalB], fun _ _ _ => by simp [den, Dn.ofE, evalIt]⟩
  | meth m o a i1 i2 => exact ⟨fun _ _ _ => by (simp only [den, Dn.ofE, evalE, i1.e, i2.es]; try rfl), fun _ _ _ => by simp [den, Dn.ofE, evalEs], fun _ _ _ => by simp [den, Dn.ofE, evalP], fun _ _ _ => by simp [den, Dn.ofE, evalB], fun _ _ _ => by simp [den, Dn.ofE, evalIt]⟩
  | lc vs tg it ifs elt i1 i2 i3 =>
    refine ⟨fun F σ h => ?_, fun _ _ _ => by simp [den, Dn.ofE, evalEs], fun _ _ _ => by simp [den, Dn.ofE, evalP], fun _ _ _ => by simp [den, Dn.ofE, evalB], fun _ _ _ => by simp [den, Dn.ofE, evalIt]⟩
    have e2 : (den ifs).b = fun F => evalB F ifs := by funext F σ h; exact i2.b F σ h
    simp only [den, Dn.ofE, evalE, i1.it, i3.e, e2]
    rfl
  | lc2 vs tg it ifs vs1 tg1 it1 ifs1 elt i1 i2 i3 i4 i5 =>
    refine ⟨fun F σ h => ?_, fun _ _ _ => by simp [den, Dn.ofE, evalEs], fun _ _ _ => by simp [den, Dn.ofE, evalP], fun _ _ _ => by simp [den, Dn.ofE, evalB], fun _ _ _ => by simp [den, Dn.ofE, evalIt]⟩
    have e2 : (den ifs).b = fun F => evalB F ifs := by funext F σ h; exact i2.b F σ h
    have e4 : (den ifs1).b = fun F => evalB F ifs1 := by funext F σ h; exact i4.b F σ h
    simp only [den, Dn.ofE, evalE, i1.it, i3.it, i5.e, e2, e4]
    rfl

def denS (W : Nat) : S → Fn → Lo → IH → Res (Fl × Lo)
  | .expr e => fun F σ h => ((den e).e F σ h).bind fun _ h1 => .ok (.nx, σ) h1
  | .asg tg e => fun F σ h => ((den e).e F σ h).bind fun v h1 => opt ((putT tg v σ).map fun σ' => (.nx, σ')) h1
  | .asg2 i j a b => fun F σ h => ((den a).e F σ h).bind fun v h1 => ((den b).e F σ h1).bind fun w h2 => .ok (.nx, (σ.set i (some v)).set j (some w)) h2
  | .asg3 i j l a b c => fun F σ h => ((den a).e F σ h).bind fun v h1 => ((den b).e F σ h1).bind fun w h2 => ((den c).e F σ h2).bind fun u h3 => .ok (.nx, ((σ.set i (some v)).set j (some w)).set l (some u)) h3
  | .augsub op o i e => fun F σ h => ((den o).e F σ h).bind fun v h1 => ((den i).e F σ h1).bind fun w h2 => if isL v h2 then (opt (subI v w h2) h2).bind fun x h3 => ((den e).e F σ h3).bind fun y h4 => (opt (augV op x y) h4).bind fun c h5 => (setI v w (.int c) h5).bind fun _ h6 => .ok (.nx, σ) h6
    else .bad
  | .setsub e o i => fun F σ h => ((den e).e F σ h).bind fun x h1 => ((den o).e F σ h1).bind fun v h2 => ((den i).e F σ h2).bind fun w h3 => (setI v w x h3).bind fun _ h4 => .ok (.nx, σ) h4
  | .aug i op e => fun F σ h => match σ[i]? with
    | some (some v) => ((den e).e F σ h).bind fun w h1 => match op, v, w with
      | .add, .int x, .int y => .ok (.nx, σ.set i (some (.int (x + y)))) h1
      | .sub, .int x, .int y => .ok (.nx, σ.set i (some (.int (x - y)))) h1
      | _, _, _ => .bad
    | _ => .bad
  | .ret e => fun F σ h => ((den e).e F σ h).bind fun v h1 => .ok (.rt v, σ) h1
  | .retN => fun _ σ h => .ok (.rt .non, σ) h
  | .ite c a b => fun F σ h => ((den c).e F σ h).bind fun v h1 => match v with
    | .bl true => denS W a F σ h1
    | .bl false => denS W b F σ h1
    | _ => .bad
  | .whil c b => fun F σ h => loopW ((den c).e F) (denS W b F) W σ h
  | .forr tg it b => fun F σ h => ((den it).it F σ h).bind fun st h1 => loopF (fun v σ h => match putT tg v σ with
      | some σ2 => denS W b F σ2 h
      | none => .bad) (st.fuel h1) st σ h1
  | .brk => fun _ σ h => .ok (.bk, σ) h
  | .cont => fun _ σ h => .ok (.ct, σ) h
  | .pass => fun _ σ h => .ok (.nx, σ) h
  | .nil => fun _ σ h => .ok (.nx, σ) h
  | .cons s r => fun F σ h => (denS W s F σ h).bind fun p h1 => match p.1 with
    | .nx => denS W r F p.2 h1
    | f => .ok (f, p.2) h1
theorem denS_eq (W : Nat) (s : S) : ∀ F, denS W s F = execS F W s := by
  intro F
  induction s with
  | whil c b ih =>
    funext σ h
    have e : (den c).e F = fun σ h => evalE F c σ h := by funext σ h; exact (den_ok c).e F σ h
    (simp only [denS, execS, e, ih]; try rfl)
  | forr tg it b ih => funext σ h; (simp only [denS, execS, (den_ok it).it, ih]; try rfl)
  | cons s r i1 i2 => funext σ h; (simp only [denS, execS, i1, i2]; try rfl)
  | ite c a b i1 i2 => funext σ h; (simp only [denS, execS, i1, i2, (den_ok c).e]; try rfl)
  | aug i op e => funext σ h; (simp only [denS, execS, (den_ok _).e]; try rfl)
  | _ => funext σ h; (simp only [denS, execS, (den_ok _).e]; try rfl)
def runDQ (F : Fn) (b : Fn → Lo → IH → Res (Fl × Lo)) (ps slots : Nat) (vs : List IV) (h : IH) : Res IV :=
  if vs.length = ps then (b F (vs.map some ++ List.replicate (slots - vs.length) none) h).bind fun p h' => opt p.1.val h' else .bad
def runQ (T : Tab) (W : Nat) : Nat → Fn
  | 0, _, _, _ => .bad
  | n + 1, f, vs, h => match T[f]? with
    | some d => runDQ (runQ T W n) (denS W d.body) d.ps d.slots vs h
    | none => .bad
theorem runQ_eq (T : Tab) (W : Nat) : ∀ n, runQ T W n = run T W n := by
  intro n
  induction n with
  | zero => rfl
  | succ n ih =>
    funext f vs h
    rw [runQ, run]
    cases T[f]? with
    | none => rfl
    | some d => simp only [runDQ, runD, ih, denS_eq]
end PI

set_option Elab.async false
set_option linter.all false
set_option maxRecDepth 10000
/-! PIp: the drawn numbers that all laws draw. -/
namespace PI
open PySem
def body6 : S := (.cons (.asg (.name 4) (.bin .mod (.bcall .int (.cons (.bin .add (.bin .add (.bin .mul (.var 4) (.var 4)) (.bin .mul (.bin .mul (.con (.int 69621)) (.bin .add (.var 6) (.con (.int 1)))) (.bin .add (.var 1) (.con (.int 1))))) (.var 2)) .nil)) (.var 3)))
    (.cons (.asg (.name 5) (.bin .add (.bin .mul (.var 5) (.var 3)) (.var 4)))
    .nil))
def tail5 : S := (.cons (.asg (.name 3) (.con (.int 2305843009213693951)))
    (.cons (.asg (.name 4) (.bin .mod (.bcall .int (.cons (.bin .add (.bin .add (.bin .mul (.var 2) (.con (.int 48271))) (.bin .mul (.con (.int 40692)) (.var 1))) (.con (.int 31))) .nil)) (.var 3)))
    (.cons (.asg (.name 5) (.var 4))
    (.cons (.forr (.name 6) (.irange (.cons (.con (.int 6)) .nil)) body6)
    (.cons (.ret (.var 5))
    .nil)))))
def d_fresh : Def := ⟨1, 7,
  (.cons (.asg (.name 1) (.sub (.var 0) (.con (.int 1))))
    (.cons (.setsub (.bin .add (.var 1) (.con (.int 1))) (.var 0) (.con (.int 1)))
    (.cons (.asg (.name 2) (.con (.int 0)))
    (.cons (.ite (.cmp .ne (.sub (.var 0) (.con (.int 0))) (.lst .nil)) (.cons (.asg (.name 2) (.sub (.sub (.var 0) (.con (.int 0))) (.bin .mod (.bcall .int (.cons (.var 1) .nil)) (.bcall .len (.cons (.sub (.var 0) (.con (.int 0))) .nil)))))
    .nil) .nil)
    (.cons (.ite (.and (.cmp .lt (.var 1) (.bcall .len (.cons (.sub (.var 0) (.con (.int 0))) .nil))) (.cmp .ge (.var 2) (.bin .pow (.con (.int 10)) (.con (.int 18))))) (.cons (.ret (.bin .sub (.var 2) (.bin .pow (.con (.int 10)) (.con (.int 18)))))
    .nil) .nil)
    tail5)))))⟩
def d_draw (k : Nat) : Def := ⟨2, 3,
  (.cons (.ite (.cmp .lt (.sub (.var 0) (.con (.int 2))) (.var 1)) (.cons (.setsub (.call k (.cons (.var 0) .nil)) (.var 0) (.con (.int 2)))
    .nil) .nil)
    (.cons (.asg (.name 2) (.bin .mod (.bcall .int (.cons (.sub (.var 0) (.con (.int 2))) .nil)) (.var 1)))
    (.cons (.setsub (.bin .fdiv (.bcall .int (.cons (.sub (.var 0) (.con (.int 2))) .nil)) (.var 1)) (.var 0) (.con (.int 2)))
    (.cons (.ret (.var 2))
    .nil))))⟩

theorem getM_L {h : IH} {n : Nat} {l : List IV} (e : getM h n = some l) : getL h n = some l := by
  unfold getM at e
  unfold getL
  split at e
  · rename_i l' e'; rw [e']; exact e
  · cases e
theorem getM_lt {h : IH} {n : Nat} {l : List IV} (e : getM h n = some l) : h[n]? = some (.lst l) ∧ n < h.length := by
  unfold getM at e
  split at e
  · rename_i l' e'; cases e; exact ⟨e', (List.getElem?_eq_some_iff.mp e').1⟩
  · cases e
theorem getM_set {h : IH} {n : Nat} {l l0 : List IV} (e : getM h n = some l0) : getM (setL h n l) n = some l := by
  unfold getM setL
  rw [List.getElem?_set_self (getM_lt e).2]
theorem getL_set_ne {h : IH} {n c : Nat} {l : List IV} (hc : c ≠ n) : getL (setL h n l) c = getL h c := by
  unfold getL setL
  rw [List.getElem?_set_ne (Ne.symm hc)]
theorem getM_set_ne {h : IH} {n c : Nat} {l : List IV} (hc : c ≠ n) : getM (setL h n l) c = getM h c := by
  unfold getM setL
  rw [List.getElem?_set_ne (Ne.symm hc)]
theorem get_app {h r : IH} {n : Nat} {o : IO} (e : h[n]? = some o) : (h ++ r)[n]? = some o := by
  rw [List.getElem?_append_left (List.getElem?_eq_some_iff.mp e).1]; exact e
theorem getL_app {h r : IH} {n : Nat} {l : List IV} (e : getL h n = some l) : getL (h ++ r) n = some l := by
  unfold getL at e ⊢
  cases en : h[n]? with
  | none => rw [en] at e; cases e
  | some o => rw [en] at e; rw [get_app en]; exact e
theorem getM_app {h r : IH} {n : Nat} {l : List IV} (e : getM h n = some l) : getM (h ++ r) n = some l := by
  unfold getM at e ⊢
  cases en : h[n]? with
  | none => rw [en] at e; cases e
  | some o => rw [en] at e; rw [get_app en]; exact e
theorem datas_ints : ∀ l : List Int, datasOf (l.map IV.int) = some (l.map PyData.int)
  | [] => by simp [datasOf]
  | i :: l => by simp [datasOf, dataOf, datas_ints l]
theorem depth_ints : ∀ l : List Int, PyData.depthAll (l.map PyData.int) ≤ 1
  | [] => by simp [PyData.depthAll]
  | i :: l => by simp [PyData.depthAll, PyData.depth, depth_ints l]
theorem eq_nil_list {h : IH} {c : Nat} {cells : List Int} (hc : getL h c = some (cells.map .int)) : eqI (h ++ [.lst []]) (.ref c) (.ref h.length) = some (decide (cells = [])) := by
  have e1 := getL_app (r := [.lst []]) hc
  have e2 : getL (h ++ [IO.lst []]) h.length = some [] := by unfold getL; rw [List.getElem?_append_right (Nat.le_refl _)]; simp
  have hd := depth_ints cells
  simp only [eqI, dataI, e1, e2, datas_ints, datasOf, Option.map_some]
  have h1 : PyData.depth (.list (cells.map PyData.int)) ≤ 64 := by simp only [PyData.depth]; omega
  have h2 : PyData.depth (.list []) ≤ 64 := by simp [PyData.depth, PyData.depthAll]
  rw [if_pos ⟨h1, h2⟩]
  cases cells <;> simp [PyData.eqv, PyData.eqvAll]
theorem atI_int {l : List IV} {i : Nat} {v : IV} (h : l[i]? = some v) : L2.atI l (i : Int) = some v := L2.atI_nat h
theorem at0 (a : IV) (r : List IV) : L2.atI (a :: r) 0 = some a := L2.atI_nat (j := 0) rfl
theorem at1 (a b : IV) (r : List IV) : L2.atI (a :: b :: r) 1 = some b := L2.atI_nat (j := 1) rfl
theorem at2 (a b c : IV) (r : List IV) : L2.atI (a :: b :: c :: r) 2 = some c := L2.atI_nat (j := 2) rfl
theorem ix1 : L2.ixN 3 1 = some 1 := by decide
theorem ix2 : L2.ixN 3 2 = some 2 := by decide
theorem mul_r {i j : Int} (h1 : -(2 ^ 64) < j) (h2 : j < 2 ^ 64) : cmulB i j = true := by
  unfold cmulB; simp only [h1, h2, decide_true, Bool.and_true, Bool.or_true]
theorem mul_l {i j : Int} (h1 : -(2 ^ 64) < i) (h2 : i < 2 ^ 64) : cmulB i j = true := by
  unfold cmulB; simp only [h1, h2, decide_true, Bool.and_true, Bool.true_or]
def MP : Int := 2305843009213693951
theorem mod_MP (x : Int) : 0 ≤ x % 2305843009213693951 ∧ x % 2305843009213693951 < 2305843009213693951 := ⟨Int.emod_nonneg _ (by decide), Int.emod_lt_of_pos _ (by decide)⟩
theorem bind_ok {α β : Type} (a : α) (h : IH) (f : α → IH → Res β) : Res.bind (.ok a h) f = f a h := rfl
theorem bind_bad {α β : Type} (f : α → IH → Res β) : Res.bind (.bad : Res α) f = .bad := rfl
theorem opt_some {α : Type} (a : α) (h : IH) : opt (some a) h = .ok a h := rfl
theorem bin_add (i j : Int) (h : IH) : binI .add (.int i) (.int j) h = .ok (.int (i + j)) h := rfl
theorem bin_sub (i j : Int) (h : IH) : binI .sub (.int i) (.int j) h = .ok (.int (i - j)) h := rfl
theorem bin_mul (i j : Int) (h : IH) : binI .mul (.int i) (.int j) h = if cmulB i j then .ok (.int (i * j)) h else .bad := rfl
theorem bin_mod (i j : Int) (h : IH) : binI .mod (.int i) (.int j) h = if 0 < j then .ok (.int (i % j)) h else .bad := rfl
theorem bin_fdiv (i j : Int) (h : IH) : binI .fdiv (.int i) (.int j) h = if 0 < j ∧ j < 1073741824 then .ok (.int (i / j)) h else .bad := rfl
theorem bin_pow18 (h : IH) : binI .pow (.int 10) (.int 18) h = .ok (.int 1000000000000000000) h := by
  show (if (0 : Int) ≤ 18 ∧ (18 : Int) ≤ 1000000 ∧ (10 : Int).natAbs < 2 ^ 64 then Res.ok (IV.int ((10 : Int) ^ (18 : Int).toNat)) h else Res.bad) = _
  rw [if_pos (by decide)]
  rfl
theorem cmp_lt (i j : Int) (h : IH) : cmpI .lt (.int i) (.int j) h = some (decide (i < j)) := rfl
theorem cmp_le (i j : Int) (h : IH) : cmpI .le (.int i) (.int j) h = some (decide (i ≤ j)) := rfl
theorem cmp_gt (i j : Int) (h : IH) : cmpI .gt (.int i) (.int j) h = some (decide (j < i)) := rfl
theorem cmp_ge (i j : Int) (h : IH) : cmpI .ge (.int i) (.int j) h = some (decide (j ≤ i)) := rfl
theorem cmp_eq (v w : IV) (h : IH) : cmpI .eq v w h = eqI h v w := rfl
theorem cmp_ne (v w : IV) (h : IH) : cmpI .ne v w h = (eqI h v w).map not := rfl
theorem sub_ref (c : Nat) (i : Int) (h : IH) : subI (.ref c) (.int i) h = (getL h c).bind fun l => L2.atI l i := by
  simp only [subI, seqI]; cases getL h c <;> rfl
theorem sub_tup (l : List IV) (i : Int) (h : IH) : subI (.tup l) (.int i) h = L2.atI l i := rfl
theorem b_len_ref (c : Nat) (h : IH) : bI .len (.ref c) h = ((getL h c).map fun l => (IV.int l.length)).elim .bad fun v => .ok v h := by
  simp only [bI, seqI]; cases getL h c <;> rfl
theorem b_len_tup (l : List IV) (h : IH) : bI .len (.tup l) h = .ok (.int l.length) h := rfl
theorem b_int (i : Int) (h : IH) : bI .int (.int i) h = .ok (.int i) h := rfl
theorem set_ref (a : Nat) (i : Int) (x : IV) (h : IH) : setI (.ref a) (.int i) x h = ((getM h a).bind fun l => (L2.ixN l.length i).map fun j => setL h a (l.set j x)).elim .bad fun h' => .ok () h' := by
  simp only [setI]; cases getM h a with
  | none => rfl
  | some l => cases hh : L2.ixN l.length i <;> simp [hh]
/-- the tail of fresh: the turning of the numbers -/
theorem turn6 {F : Fn} {W : Nat} {h : IH} {p : IV} {at_ cell : Int} : ∀ (n : Nat) (k state found : Int) (o : Option IV), 0 ≤ k → k + n ≤ 6 → 0 ≤ state → state < 2305843009213693951 → 0 ≤ found →
    ∃ s' f' o', 0 ≤ f' ∧ loopF (fun v σ h => match putT (.name 6) v σ with
      | some σ2 => execS F W body6 σ2 h
      | none => .bad) (n + 1) (.range k n) [some p, some (.int at_), some (.int cell), some (.int 2305843009213693951), some (.int state), some (.int found), o] h
      = .ok (.nx, [some p, some (.int at_), some (.int cell), some (.int 2305843009213693951), some (.int s'), some (.int f'), o']) h := by
  intro n
  induction n with
  | zero =>
    intro k state found o _ _ _ _ hf
    exact ⟨state, found, o, hf, rfl⟩
  | succ n ih =>
    intro k state found o hk hk2 h1 h2 hf
    have m1 : cmulB state state = true := mul_l (by omega) (by omega)
    have m2 : cmulB 69621 (k + 1) = true := mul_l (by decide) (by decide)
    have m3 : cmulB (69621 * (k + 1)) (at_ + 1) = true := mul_l (by omega) (by omega)
    have m4 : ∀ f : Int, cmulB f 2305843009213693951 = true := fun f => mul_r (by decide) (by decide)
    obtain ⟨b1, b2⟩ := mod_MP (state * state + 69621 * (k + 1) * (at_ + 1) + cell)
    obtain ⟨s', f', o', hf', e⟩ := ih (k + 1) ((state * state + 69621 * (k + 1) * (at_ + 1) + cell) % 2305843009213693951) (found * 2305843009213693951 + (state * state + 69621 * (k + 1) * (at_ + 1) + cell) % 2305843009213693951) (some (.int k)) (by omega) (by omega) b1 b2 (by omega)
    refine ⟨s', f', o', hf', ?_⟩
    rw [loopF]
    simp only [ItS.next, putT, List.set, body6, execS, evalE, evalEs, List.getElem?_cons_zero, List.getElem?_cons_succ, Res.bind, binI, m1, m2, m3, m4, if_true, bI, CV.v, opt, Option.map_some]
    simp only [show (0 : Int) < 2305843009213693951 by decide, if_true]
    simp only [putT, List.set, List.getElem?_cons_zero, List.getElem?_cons_succ, Res.bind, opt, Option.map_some, m4, if_true]
    simp only [putT, List.set, body6, execS, evalE, evalEs, List.getElem?_cons_zero, List.getElem?_cons_succ, Res.bind, binI, if_true, bI, CV.v, opt, Option.map_some] at e
    exact e
theorem fresh_ok {F : Fn} {W : Nat} {h : IH} {p c : Nat} {cells : List Int} {at_ rest : Int} (hp : getM h p = some [.ref c, .int at_, .int rest]) (hc : getL h c = some (cells.map .int)) (hcp : c ≠ p) (hat : 0 ≤ at_) :
    ∃ v, 0 ≤ v ∧ runD F W d_fresh [.ref p] h = .ok (.int v) ((setL h p [.ref c, .int (at_ + 1), .int rest]) ++ [.lst []]) := by
  have hp0 := getM_L hp
  have hpM := getM_set (l := [.ref c, .int (at_ + 1), .int rest]) hp
  have hpL := getM_L hpM
  have hcL : getL (setL h p [.ref c, .int (at_ + 1), .int rest]) c = some (cells.map .int) := by rw [getL_set_ne hcp]; exact hc
  have ene := eq_nil_list hcL
  have hpL2 := getL_app (r := [.lst []]) hpL
  have hcL2 := getL_app (r := [.lst []]) hcL
  generalize hh : setL h p [.ref c, .int (at_ + 1), .int rest] = h1 at *
  simp only [runD, d_fresh, List.length_cons, List.length_nil, if_true, List.map_cons, List.map_nil, List.replicate, List.cons_append, List.nil_append, Nat.zero_add, Nat.sub_zero, Nat.reduceSub, Nat.reduceAdd]
  simp only [execS, evalE, evalEs, bind_ok, sub_ref, hp0, at1, at0, CV.v, opt_some, Option.map_some, Option.bind_some, Option.elim_some, putT, List.set, List.getElem?_cons_zero, List.getElem?_cons_succ, bin_add, set_ref, hp, List.length_cons, List.length_nil, Nat.zero_add, Nat.reduceAdd, ix1, hh, hpL,
    newL, if_pos (show 0 ≤ sizeLine from Nat.zero_le _), cmp_ne, ene]
  have tail : ∀ (cell : Int) (hx : IH), ∃ v, 0 ≤ v ∧ (((execS F W tail5 [some (.ref p), some (.int at_), some (.int cell), none, none, none, none] hx).bind fun p h' => opt p.1.val h') = .ok (.int v) hx) := by
    intro cell hx
    have m1 : cmulB cell 48271 = true := mul_r (by decide) (by decide)
    have m2 : cmulB 40692 at_ = true := mul_l (by decide) (by decide)
    obtain ⟨b1, b2⟩ := mod_MP (cell * 48271 + 40692 * at_ + 31)
    obtain ⟨s', f', o', hf', e⟩ := turn6 (F := F) (W := W) (h := hx) (p := .ref p) (at_ := at_) (cell := cell) 6 0 _ _ none (by omega) (by omega) b1 b2 b1
    refine ⟨f', hf', ?_⟩
    simp only [tail5, execS, evalE, evalEs, evalIt, bind_ok, CV.v, opt_some, Option.map_some, putT, List.set, List.getElem?_cons_zero, List.getElem?_cons_succ, bin_add, bin_mul, m1, m2, if_true, bin_mod, b_int, show (0 : Int) < 2305843009213693951 by decide]
    have er : rangeIt [IV.int 6] = some (.range 0 6) := rfl
    simp only [er, opt_some, bind_ok, ItS.fuel]
    simp only [putT] at e
    rw [e]
    rfl
  by_cases hcells : cells = []
  · subst hcells
    obtain ⟨v, hv, e⟩ := tail 0 (h1 ++ [.lst []])
    refine ⟨v, hv, ?_⟩
    have h0 : decide (at_ < ((List.map IV.int ([] : List Int)).length : Int)) = false := decide_eq_false (by simp; omega)
    simp only [decide_true, Bool.not_true, bind_ok, List.getElem?_cons_zero, List.getElem?_cons_succ, hpL2, hcL2, Option.bind_some, at0, opt_some, b_len_ref, Option.map_some, Option.elim_some, cmp_lt, h0, sub_ref]
    exact e
  · obtain ⟨i, hi, ei⟩ : ∃ i : Nat, i < cells.length ∧ at_ % (cells.length : Int) = (i : Int) := by
      have hl : 0 < cells.length := List.length_pos_iff.mpr hcells
      have h1 := Int.emod_nonneg at_ (show (cells.length : Int) ≠ 0 by omega)
      have h2 := Int.emod_lt_of_pos at_ (show (0 : Int) < cells.length by omega)
      exact ⟨(at_ % (cells.length : Int)).toNat, by omega, by omega⟩
    have hl : 0 < cells.length := List.length_pos_iff.mpr hcells
    have hlI : (0 : Int) < (cells.length : Int) := by omega
    have eat : L2.atI (cells.map IV.int) (i : Int) = some (.int cells[i]) := L2.atI_nat (by rw [List.getElem?_map, List.getElem?_eq_getElem hi]; rfl)
    generalize cells[i] = cell at eat
    have step : ∀ k : Fl × Lo → IH → Res (Fl × Lo), True := fun _ => trivial
    simp only [hcells, decide_false, Bool.not_false, bind_ok, List.getElem?_cons_zero, List.getElem?_cons_succ, hpL2, hcL2, Option.bind_some, at0, opt_some, b_len_ref, Option.map_some, Option.elim_some, cmp_lt, List.length_map, b_int, bin_mod, hlI, if_true, ei, sub_ref, eat, cmp_ge, bin_pow18, bin_sub]
    obtain ⟨v, hv, e⟩ := tail cell (h1 ++ [.lst []])
    by_cases ha : at_ < (cells.length : Int)
    · by_cases hb : (1000000000000000000 : Int) ≤ cell
      · refine ⟨cell - 1000000000000000000, by omega, ?_⟩
        simp only [ha, hb, decide_true, bind_ok]
        rfl
      · refine ⟨v, hv, ?_⟩
        simp only [ha, hb, decide_true, decide_false, bind_ok]
        exact e
    · refine ⟨v, hv, ?_⟩
      simp only [ha, decide_false, bind_ok]
      exact e
/-- a pen lies at p -/
structure PenAt (h : IH) (p : Nat) : Prop where
  ex : ∃ (c : Nat) (cells : List Int) (at_ rest : Int), getM h p = some [.ref c, .int at_, .int rest] ∧ getL h c = some (cells.map .int) ∧ c ≠ p ∧ 0 ≤ at_ ∧ 0 ≤ rest
/-- what a draw leaves of the heap: the pen turned, and new things behind -/
def Drew (h : IH) (p : Nat) (h' : IH) : Prop := ∃ l r, h' = setL h p l ++ r
theorem draw_ok {F F' : Fn} {W k : Nat} {h : IH} {p c : Nat} {cells : List Int} {at_ rest many : Int} (hF : ∀ h, F k [.ref p] h = runD F' W d_fresh [.ref p] h)
    (hp : getM h p = some [.ref c, .int at_, .int rest]) (hc : getL h c = some (cells.map .int)) (hcp : c ≠ p) (hat : 0 ≤ at_) (hrest : 0 ≤ rest) (h0 : 0 < many) (h1 : many < 1073741824) :
    ∃ d at2 rest2, 0 ≤ d ∧ d < many ∧ 0 ≤ at2 ∧ 0 ≤ rest2 ∧ runD F W (d_draw k) [.ref p, .int many] h = .ok (.int d) (setL h p [.ref c, .int at2, .int rest2] ++ if rest < many then [.lst []] else []) := by
  have hp0 := getM_L hp
  have fin : ∀ (a r0 : Int) (hx : IH), getM hx p = some [.ref c, .int a, .int r0] → 0 ≤ r0 → ∃ d r2, 0 ≤ d ∧ d < many ∧ 0 ≤ r2 ∧ ((execS F W (.cons (.asg (.name 2) (.bin .mod (.bcall .int (.cons (.sub (.var 0) (.con (.int 2))) .nil)) (.var 1)))
    (.cons (.setsub (.bin .fdiv (.bcall .int (.cons (.sub (.var 0) (.con (.int 2))) .nil)) (.var 1)) (.var 0) (.con (.int 2)))
    (.cons (.ret (.var 2)) .nil))) [some (.ref p), some (.int many), none] hx).bind fun q h' => opt q.1.val h') = .ok (.int d) (setL hx p [.ref c, .int a, .int r2]) := by
    intro a r0 hx hm hr
    have hl := getM_L hm
    refine ⟨r0 % many, r0 / many, Int.emod_nonneg _ (by omega), Int.emod_lt_of_pos _ h0, Int.ediv_nonneg hr (by omega), ?_⟩
    simp only [execS, evalE, evalEs, bind_ok, sub_ref, hl, at2, CV.v, opt_some, Option.map_some, Option.bind_some, Option.elim_some, putT, List.set, List.getElem?_cons_zero, List.getElem?_cons_succ, b_int, bin_mod, bin_fdiv, h0, h1, and_self, if_true, set_ref, hm, List.length_cons, List.length_nil, Nat.zero_add, Nat.reduceAdd, ix2]
    rfl
  by_cases hlt : rest < many
  · obtain ⟨v, hv, ef⟩ := fresh_ok (F := F') (W := W) hp hc hcp hat
    have hpM := getM_set (l := [.ref c, .int (at_ + 1), .int rest]) hp
    have hpA := getM_app (r := [.lst []]) hpM
    have hpN : getM (setL (setL h p [.ref c, .int (at_ + 1), .int rest] ++ [.lst []]) p [.ref c, .int (at_ + 1), .int v]) p = some [.ref c, .int (at_ + 1), .int v] := getM_set hpA
    obtain ⟨d, r2, d1, d2, d3, e⟩ := fin (at_ + 1) v _ hpN hv
    have hplt := (getM_lt hp).2
    refine ⟨d, at_ + 1, r2, d1, d2, by omega, d3, ?_⟩
    rw [if_pos hlt]
    have hs : setL (setL (setL h p [.ref c, .int (at_ + 1), .int rest] ++ [.lst []]) p [.ref c, .int (at_ + 1), .int v]) p [.ref c, .int (at_ + 1), .int r2] = setL h p [.ref c, .int (at_ + 1), .int r2] ++ [.lst []] := by
      unfold setL
      rw [List.set_set, List.set_append_left _ _ (by simpa using hplt), List.set_set]
    rw [hs] at e
    simp only [runD, d_draw, List.length_cons, List.length_nil, if_true, List.map_cons, List.map_nil, List.replicate, List.cons_append, List.nil_append, Nat.zero_add, Nat.sub_zero, Nat.reduceSub, Nat.reduceAdd]
    rw [execS]
    rw [execS]
    simp only [evalE, evalEs, bind_ok, sub_ref, hp0, at2, CV.v, opt_some, Option.map_some, Option.bind_some, Option.elim_some, List.getElem?_cons_zero, List.getElem?_cons_succ, cmp_lt, decide_eq_true hlt]
    rw [execS, execS]
    simp only [evalE, evalEs, bind_ok, hF, ef, set_ref, hpA, CV.v, Option.bind_some, List.getElem?_cons_zero, List.getElem?_cons_succ, List.length_cons, List.length_nil, Nat.zero_add, Nat.reduceAdd, ix2, Option.map_some, Option.elim_some, List.set]
    rw [execS]
    simp only [bind_ok]
    exact e
  · obtain ⟨d, r2, d1, d2, d3, e⟩ := fin at_ rest h hp hrest
    refine ⟨d, at_, r2, d1, d2, hat, d3, ?_⟩
    rw [if_neg hlt, List.append_nil]
    simp only [runD, d_draw, List.length_cons, List.length_nil, if_true, List.map_cons, List.map_nil, List.replicate, List.cons_append, List.nil_append, Nat.zero_add, Nat.sub_zero, Nat.reduceSub, Nat.reduceAdd]
    rw [execS]
    rw [execS]
    simp only [evalE, evalEs, bind_ok, sub_ref, hp0, at2, CV.v, opt_some, Option.map_some, Option.bind_some, Option.elim_some, List.getElem?_cons_zero, List.getElem?_cons_succ, cmp_lt, decide_eq_false hlt]
    rw [execS]
    simp only [bind_ok]
    exact e
end PI

set_option Elab.async false
set_option linter.all false
set_option maxRecDepth 100000
namespace K5
open PI PySem
def WW : Nat := 100
def rest2 : S := match c_law.body with
  | .cons _ (.cons _ r) => r
  | s => s
def good : Res (Fl × Lo) → Bool
  | .ok (.rt (.bl true), _) _ => true
  | _ => false
def chk (n : Nat) (L L2 : List IV) (a r : Int) : Bool := good (denS 100 rest2 (runQ T 100 11) [some (.ref 0), some (.ref 3), some (.int (Int.ofNat n)), none, none, none, none, none, none, none, none, none] [.frz L, .lst L2, .lst L2, .lst [.ref 2, .int a, .int r], .lst []])
theorem v1 (L L2 : List IV) (a r : Int) : chk 1 L L2 a r = true := by kernel_rfl
theorem v2 (L L2 : List IV) (a r : Int) : chk 2 L L2 a r = true := by kernel_rfl
theorem v3 (L L2 : List IV) (a r : Int) : chk 3 L L2 a r = true := by kernel_rfl
theorem v4 (L L2 : List IV) (a r : Int) : chk 4 L L2 a r = true := by kernel_rfl
theorem v5 (L L2 : List IV) (a r : Int) : chk 5 L L2 a r = true := by kernel_rfl
theorem v6 (L L2 : List IV) (a r : Int) : chk 6 L L2 a r = true := by kernel_rfl
theorem v7 (L L2 : List IV) (a r : Int) : chk 7 L L2 a r = true := by kernel_rfl
theorem v8 (L L2 : List IV) (a r : Int) : chk 8 L L2 a r = true := by kernel_rfl
theorem v9 (L L2 : List IV) (a r : Int) : chk 9 L L2 a r = true := by kernel_rfl
theorem v10 (L L2 : List IV) (a r : Int) : chk 10 L L2 a r = true := by kernel_rfl
theorem v11 (L L2 : List IV) (a r : Int) : chk 11 L L2 a r = true := by kernel_rfl
theorem v12 (L L2 : List IV) (a r : Int) : chk 12 L L2 a r = true := by kernel_rfl
theorem v13 (L L2 : List IV) (a r : Int) : chk 13 L L2 a r = true := by kernel_rfl
theorem v14 (L L2 : List IV) (a r : Int) : chk 14 L L2 a r = true := by kernel_rfl
theorem v15 (L L2 : List IV) (a r : Int) : chk 15 L L2 a r = true := by kernel_rfl
theorem v16 (L L2 : List IV) (a r : Int) : chk 16 L L2 a r = true := by kernel_rfl
theorem v17 (L L2 : List IV) (a r : Int) : chk 17 L L2 a r = true := by kernel_rfl
theorem v18 (L L2 : List IV) (a r : Int) : chk 18 L L2 a r = true := by kernel_rfl
theorem v19 (L L2 : List IV) (a r : Int) : chk 19 L L2 a r = true := by kernel_rfl
theorem v20 (L L2 : List IV) (a r : Int) : chk 20 L L2 a r = true := by kernel_rfl
theorem v21 (L L2 : List IV) (a r : Int) : chk 21 L L2 a r = true := by kernel_rfl
theorem v22 (L L2 : List IV) (a r : Int) : chk 22 L L2 a r = true := by kernel_rfl
theorem v23 (L L2 : List IV) (a r : Int) : chk 23 L L2 a r = true := by kernel_rfl
theorem v24 (L L2 : List IV) (a r : Int) : chk 24 L L2 a r = true := by kernel_rfl
theorem v25 (L L2 : List IV) (a r : Int) : chk 25 L L2 a r = true := by kernel_rfl
theorem v26 (L L2 : List IV) (a r : Int) : chk 26 L L2 a r = true := by kernel_rfl
theorem v27 (L L2 : List IV) (a r : Int) : chk 27 L L2 a r = true := by kernel_rfl
theorem v28 (L L2 : List IV) (a r : Int) : chk 28 L L2 a r = true := by kernel_rfl
theorem v29 (L L2 : List IV) (a r : Int) : chk 29 L L2 a r = true := by kernel_rfl
theorem v30 (L L2 : List IV) (a r : Int) : chk 30 L L2 a r = true := by kernel_rfl
theorem v31 (L L2 : List IV) (a r : Int) : chk 31 L L2 a r = true := by kernel_rfl
theorem v32 (L L2 : List IV) (a r : Int) : chk 32 L L2 a r = true := by kernel_rfl
theorem v33 (L L2 : List IV) (a r : Int) : chk 33 L L2 a r = true := by kernel_rfl
theorem v34 (L L2 : List IV) (a r : Int) : chk 34 L L2 a r = true := by kernel_rfl
theorem v35 (L L2 : List IV) (a r : Int) : chk 35 L L2 a r = true := by kernel_rfl
theorem v36 (L L2 : List IV) (a r : Int) : chk 36 L L2 a r = true := by kernel_rfl
theorem v37 (L L2 : List IV) (a r : Int) : chk 37 L L2 a r = true := by kernel_rfl
theorem v38 (L L2 : List IV) (a r : Int) : chk 38 L L2 a r = true := by kernel_rfl
theorem v39 (L L2 : List IV) (a r : Int) : chk 39 L L2 a r = true := by kernel_rfl
theorem v40 (L L2 : List IV) (a r : Int) : chk 40 L L2 a r = true := by kernel_rfl
theorem v41 (L L2 : List IV) (a r : Int) : chk 41 L L2 a r = true := by kernel_rfl
theorem v42 (L L2 : List IV) (a r : Int) : chk 42 L L2 a r = true := by kernel_rfl
theorem v43 (L L2 : List IV) (a r : Int) : chk 43 L L2 a r = true := by kernel_rfl
theorem v44 (L L2 : List IV) (a r : Int) : chk 44 L L2 a r = true := by kernel_rfl
theorem v45 (L L2 : List IV) (a r : Int) : chk 45 L L2 a r = true := by kernel_rfl
theorem v46 (L L2 : List IV) (a r : Int) : chk 46 L L2 a r = true := by kernel_rfl
theorem v47 (L L2 : List IV) (a r : Int) : chk 47 L L2 a r = true := by kernel_rfl
theorem v48 (L L2 : List IV) (a r : Int) : chk 48 L L2 a r = true := by kernel_rfl
theorem v49 (L L2 : List IV) (a r : Int) : chk 49 L L2 a r = true := by kernel_rfl
theorem v50 (L L2 : List IV) (a r : Int) : chk 50 L L2 a r = true := by kernel_rfl
theorem v51 (L L2 : List IV) (a r : Int) : chk 51 L L2 a r = true := by kernel_rfl
theorem v52 (L L2 : List IV) (a r : Int) : chk 52 L L2 a r = true := by kernel_rfl
theorem v53 (L L2 : List IV) (a r : Int) : chk 53 L L2 a r = true := by kernel_rfl
theorem v54 (L L2 : List IV) (a r : Int) : chk 54 L L2 a r = true := by kernel_rfl
theorem v55 (L L2 : List IV) (a r : Int) : chk 55 L L2 a r = true := by kernel_rfl
theorem v56 (L L2 : List IV) (a r : Int) : chk 56 L L2 a r = true := by kernel_rfl
theorem v57 (L L2 : List IV) (a r : Int) : chk 57 L L2 a r = true := by kernel_rfl
theorem v58 (L L2 : List IV) (a r : Int) : chk 58 L L2 a r = true := by kernel_rfl
theorem v59 (L L2 : List IV) (a r : Int) : chk 59 L L2 a r = true := by kernel_rfl
theorem v60 (L L2 : List IV) (a r : Int) : chk 60 L L2 a r = true := by kernel_rfl
theorem v61 (L L2 : List IV) (a r : Int) : chk 61 L L2 a r = true := by kernel_rfl
theorem v62 (L L2 : List IV) (a r : Int) : chk 62 L L2 a r = true := by kernel_rfl
theorem v63 (L L2 : List IV) (a r : Int) : chk 63 L L2 a r = true := by kernel_rfl
theorem v64 (L L2 : List IV) (a r : Int) : chk 64 L L2 a r = true := by kernel_rfl
theorem v65 (L L2 : List IV) (a r : Int) : chk 65 L L2 a r = true := by kernel_rfl
theorem v66 (L L2 : List IV) (a r : Int) : chk 66 L L2 a r = true := by kernel_rfl
theorem v67 (L L2 : List IV) (a r : Int) : chk 67 L L2 a r = true := by kernel_rfl
theorem v68 (L L2 : List IV) (a r : Int) : chk 68 L L2 a r = true := by kernel_rfl
theorem v69 (L L2 : List IV) (a r : Int) : chk 69 L L2 a r = true := by kernel_rfl
theorem v70 (L L2 : List IV) (a r : Int) : chk 70 L L2 a r = true := by kernel_rfl
theorem v71 (L L2 : List IV) (a r : Int) : chk 71 L L2 a r = true := by kernel_rfl
theorem v72 (L L2 : List IV) (a r : Int) : chk 72 L L2 a r = true := by kernel_rfl
theorem v73 (L L2 : List IV) (a r : Int) : chk 73 L L2 a r = true := by kernel_rfl
theorem v74 (L L2 : List IV) (a r : Int) : chk 74 L L2 a r = true := by kernel_rfl
theorem v75 (L L2 : List IV) (a r : Int) : chk 75 L L2 a r = true := by kernel_rfl
theorem v76 (L L2 : List IV) (a r : Int) : chk 76 L L2 a r = true := by kernel_rfl
theorem v77 (L L2 : List IV) (a r : Int) : chk 77 L L2 a r = true := by kernel_rfl
theorem v78 (L L2 : List IV) (a r : Int) : chk 78 L L2 a r = true := by kernel_rfl
theorem v79 (L L2 : List IV) (a r : Int) : chk 79 L L2 a r = true := by kernel_rfl
theorem v80 (L L2 : List IV) (a r : Int) : chk 80 L L2 a r = true := by kernel_rfl
theorem v81 (L L2 : List IV) (a r : Int) : chk 81 L L2 a r = true := by kernel_rfl
theorem v82 (L L2 : List IV) (a r : Int) : chk 82 L L2 a r = true := by kernel_rfl
theorem v83 (L L2 : List IV) (a r : Int) : chk 83 L L2 a r = true := by kernel_rfl
theorem v84 (L L2 : List IV) (a r : Int) : chk 84 L L2 a r = true := by kernel_rfl
theorem v85 (L L2 : List IV) (a r : Int) : chk 85 L L2 a r = true := by kernel_rfl
theorem v86 (L L2 : List IV) (a r : Int) : chk 86 L L2 a r = true := by kernel_rfl
theorem v87 (L L2 : List IV) (a r : Int) : chk 87 L L2 a r = true := by kernel_rfl
theorem v88 (L L2 : List IV) (a r : Int) : chk 88 L L2 a r = true := by kernel_rfl
theorem v89 (L L2 : List IV) (a r : Int) : chk 89 L L2 a r = true := by kernel_rfl
theorem v90 (L L2 : List IV) (a r : Int) : chk 90 L L2 a r = true := by kernel_rfl
theorem v91 (L L2 : List IV) (a r : Int) : chk 91 L L2 a r = true := by kernel_rfl
theorem v92 (L L2 : List IV) (a r : Int) : chk 92 L L2 a r = true := by kernel_rfl
theorem v93 (L L2 : List IV) (a r : Int) : chk 93 L L2 a r = true := by kernel_rfl
theorem v94 (L L2 : List IV) (a r : Int) : chk 94 L L2 a r = true := by kernel_rfl
theorem v95 (L L2 : List IV) (a r : Int) : chk 95 L L2 a r = true := by kernel_rfl
theorem v96 (L L2 : List IV) (a r : Int) : chk 96 L L2 a r = true := by kernel_rfl
theorem v97 (L L2 : List IV) (a r : Int) : chk 97 L L2 a r = true := by kernel_rfl
theorem v98 (L L2 : List IV) (a r : Int) : chk 98 L L2 a r = true := by kernel_rfl
theorem v99 (L L2 : List IV) (a r : Int) : chk 99 L L2 a r = true := by kernel_rfl
theorem all (L L2 : List IV) (a r : Int) : ∀ k : Nat, 1 ≤ k → k ≤ 99 → chk k L L2 a r = true
  | 0, h, _ => absurd h (by decide)
  | 1, _, _ => v1 L L2 a r
  | 2, _, _ => v2 L L2 a r
  | 3, _, _ => v3 L L2 a r
  | 4, _, _ => v4 L L2 a r
  | 5, _, _ => v5 L L2 a r
  | 6, _, _ => v6 L L2 a r
  | 7, _, _ => v7 L L2 a r
  | 8, _, _ => v8 L L2 a r
  | 9, _, _ => v9 L L2 a r
  | 10, _, _ => v10 L L2 a r
  | 11, _, _ => v11 L L2 a r
  | 12, _, _ => v12 L L2 a r
  | 13, _, _ => v13 L L2 a r
  | 14, _, _ => v14 L L2 a r
  | 15, _, _ => v15 L L2 a r
  | 16, _, _ => v16 L L2 a r
  | 17, _, _ => v17 L L2 a r
  | 18, _, _ => v18 L L2 a r
  | 19, _, _ => v19 L L2 a r
  | 20, _, _ => v20 L L2 a r
  | 21, _, _ => v21 L L2 a r
  | 22, _, _ => v22 L L2 a r
  | 23, _, _ => v23 L L2 a r
  | 24, _, _ => v24 L L2 a r
  | 25, _, _ => v25 L L2 a r
  | 26, _, _ => v26 L L2 a r
  | 27, _, _ => v27 L L2 a r
  | 28, _, _ => v28 L L2 a r
  | 29, _, _ => v29 L L2 a r
  | 30, _, _ => v30 L L2 a r
  | 31, _, _ => v31 L L2 a r
  | 32, _, _ => v32 L L2 a r
  | 33, _, _ => v33 L L2 a r
  | 34, _, _ => v34 L L2 a r
  | 35, _, _ => v35 L L2 a r
  | 36, _, _ => v36 L L2 a r
  | 37, _, _ => v37 L L2 a r
  | 38, _, _ => v38 L L2 a r
  | 39, _, _ => v39 L L2 a r
  | 40, _, _ => v40 L L2 a r
  | 41, _, _ => v41 L L2 a r
  | 42, _, _ => v42 L L2 a r
  | 43, _, _ => v43 L L2 a r
  | 44, _, _ => v44 L L2 a r
  | 45, _, _ => v45 L L2 a r
  | 46, _, _ => v46 L L2 a r
  | 47, _, _ => v47 L L2 a r
  | 48, _, _ => v48 L L2 a r
  | 49, _, _ => v49 L L2 a r
  | 50, _, _ => v50 L L2 a r
  | 51, _, _ => v51 L L2 a r
  | 52, _, _ => v52 L L2 a r
  | 53, _, _ => v53 L L2 a r
  | 54, _, _ => v54 L L2 a r
  | 55, _, _ => v55 L L2 a r
  | 56, _, _ => v56 L L2 a r
  | 57, _, _ => v57 L L2 a r
  | 58, _, _ => v58 L L2 a r
  | 59, _, _ => v59 L L2 a r
  | 60, _, _ => v60 L L2 a r
  | 61, _, _ => v61 L L2 a r
  | 62, _, _ => v62 L L2 a r
  | 63, _, _ => v63 L L2 a r
  | 64, _, _ => v64 L L2 a r
  | 65, _, _ => v65 L L2 a r
  | 66, _, _ => v66 L L2 a r
  | 67, _, _ => v67 L L2 a r
  | 68, _, _ => v68 L L2 a r
  | 69, _, _ => v69 L L2 a r
  | 70, _, _ => v70 L L2 a r
  | 71, _, _ => v71 L L2 a r
  | 72, _, _ => v72 L L2 a r
  | 73, _, _ => v73 L L2 a r
  | 74, _, _ => v74 L L2 a r
  | 75, _, _ => v75 L L2 a r
  | 76, _, _ => v76 L L2 a r
  | 77, _, _ => v77 L L2 a r
  | 78, _, _ => v78 L L2 a r
  | 79, _, _ => v79 L L2 a r
  | 80, _, _ => v80 L L2 a r
  | 81, _, _ => v81 L L2 a r
  | 82, _, _ => v82 L L2 a r
  | 83, _, _ => v83 L L2 a r
  | 84, _, _ => v84 L L2 a r
  | 85, _, _ => v85 L L2 a r
  | 86, _, _ => v86 L L2 a r
  | 87, _, _ => v87 L L2 a r
  | 88, _, _ => v88 L L2 a r
  | 89, _, _ => v89 L L2 a r
  | 90, _, _ => v90 L L2 a r
  | 91, _, _ => v91 L L2 a r
  | 92, _, _ => v92 L L2 a r
  | 93, _, _ => v93 L L2 a r
  | 94, _, _ => v94 L L2 a r
  | 95, _, _ => v95 L L2 a r
  | 96, _, _ => v96 L L2 a r
  | 97, _, _ => v97 L L2 a r
  | 98, _, _ => v98 L L2 a r
  | 99, _, _ => v99 L L2 a r
  | k + 100, _, h => absurd h (by omega)
end K5

set_option Elab.async false
set_option linter.all false
set_option maxRecDepth 100000
namespace K5
open PI PySem
theorem cut_map (ns : List Int) (lo hi : Option Int) : ∃ l : List Int, cutI (ns.map IV.int) lo hi = l.map IV.int := by
  refine ⟨(ns.drop (HT.sIx ns.length 0 lo)).take (HT.sIx ns.length ns.length hi - HT.sIx ns.length 0 lo), ?_⟩
  unfold cutI
  rw [List.length_map, List.map_take, List.map_drop]
theorem pen_ok (L : List IV) : run T 100 11 5 [.ref 0] [.frz L] = .ok (.ref 3) [.frz L, .lst (cutI L none (some 63)), .lst (cutI L none (some 63)), .lst [.ref 2, .int 0, .int 0]] := by
  rw [← runQ_eq]
  kernel_rfl
theorem body_eq : c_law.body = .cons (.asg (.name 1) (.call 5 (.cons (.var 0) .nil))) (.cons (.asg (.name 2) (.bin .add (.con (.int 1)) (.call 7 (.cons (.var 1) (.cons (.con (.int 99)) .nil))))) rest2) := rfl
theorem hrun : ∀ ns : List Int, ns.length ≤ 63 → ∃ h', run T WW 12 10 [.ref 0] [.frz (ns.map IV.int)] = .ok (.bl true) h' := by
  intro ns _
  obtain ⟨cells, ec⟩ := cut_map ns none (some 63)
  have e1 := pen_ok (ns.map IV.int)
  rw [ec] at e1
  obtain ⟨d, a2, r2, d0, d1, _, _, e2⟩ := draw_ok (F := run T 100 10) (F' := run T 100 9) (W := 100) (k := 6) (h := [.frz (ns.map IV.int), .lst (cells.map .int), .lst (cells.map .int), .lst [.ref 2, .int 0, .int 0]]) (p := 3) (c := 2) (cells := cells) (at_ := 0) (rest := 0) (many := 99)
    (fun h => rfl) rfl rfl (by decide) (by decide) (by decide) (by decide) (by decide)
  have e2' : run T 100 11 7 [.ref 3, .int 99] [.frz (ns.map IV.int), .lst (cells.map .int), .lst (cells.map .int), .lst [.ref 2, .int 0, .int 0]] = .ok (.int d) [.frz (ns.map IV.int), .lst (cells.map .int), .lst (cells.map .int), .lst [.ref 2, .int a2, .int r2], .lst []] := e2
  have hc := all (ns.map IV.int) (cells.map .int) a2 r2 (1 + d).toNat (by omega) (by omega)
  have hn : Int.ofNat (1 + d).toNat = 1 + d := Int.toNat_of_nonneg (by omega)
  unfold chk at hc
  rw [hn, denS_eq, runQ_eq] at hc
  have hl : run T WW 12 10 [.ref 0] [.frz (ns.map IV.int)] = (execS (run T 100 11) 100 c_law.body [some (.ref 0), none, none, none, none, none, none, none, none, none, none, none] [.frz (ns.map IV.int)]).bind fun p h' => opt p.1.val h' := rfl
  rw [hl, body_eq, execS, execS]
  simp only [evalE, evalEs, List.getElem?_cons_zero, List.getElem?_cons_succ, bind_ok, e1, opt_some, putT, List.set, Option.map_some]
  rw [execS, execS]
  simp only [evalE, evalEs, List.getElem?_cons_zero, List.getElem?_cons_succ, bind_ok, e2', opt_some, putT, List.set, Option.map_some, CV.v, bin_add]
  generalize execS (run T 100 11) 100 rest2 _ _ = R at hc ⊢
  cases R with
  | bad => cases hc
  | ok p h =>
    obtain ⟨f, σ⟩ := p
    cases f <;> try cases hc
    rename_i v
    cases v <;> try cases hc
    rename_i b
    cases b
    · cases hc
    · exact ⟨h, rfl⟩
end K5

open PySem PySem.W PyProof.Rows
set_option maxHeartbeats 0 in
theorem PySem.Challenge.cw_paidahead_k05_steps_by_hand_holds : PySem.Challenge.rw_paidahead_k05_steps_by_hand.Holds := by
  w_on; o_law; k_head; (case hw => w_witness2)
  k_fill
  refine PI.walk_I (l := PySem.Challenge.rw_paidahead_k05_steps_by_hand) (n := 63) (k := 12) (G := K5.G) (C := K5.C) (T := K5.T) (W := K5.WW) (lv := 10) rfl (by decide) rfl ⟨rfl, by decide, by decide⟩ (fun w h Y => PySem.W.kIn_of Y) rfl ?G K5.hrun
  case G =>
    intro w mg h KX Gn
    refine' K5.all_mk KX Gn ?a0 ?l0 ?c0 ?k0 ?a1 ?l1 ?c1 ?k1 ?a2 ?l2 ?c2 ?k2 ?a3 ?l3 ?c3 ?k3 ?a4 ?l4 ?c4 ?k4 ?a5 ?l5 ?c5 ?k5 ?a6 ?l6 ?c6 ?k6 ?a7 ?l7 ?c7 ?k7 ?a8 ?l8 ?c8 ?k8 ?a9 ?l9 ?c9 ?k9 ?a10 ?l10 ?c10 ?k10 ?z0 ?z1 ?z2 ?z3 ?z4 ?z5 ?z6 ?z7 ?z8 ?z9 ?z10 ?z11 ?z12 ?z13 ?z14
    (case a0 => k_is); (case l0 => k_is); (case c0 => k_is); (case k0 => k_is); (case a1 => k_is); (case l1 => k_is); (case c1 => k_is); (case k1 => k_is); (case a2 => k_is); (case l2 => k_is); (case c2 => k_is); (case k2 => k_is); (case a3 => k_is); (case l3 => k_is); (case c3 => k_is); (case k3 => k_is); (case a4 => k_is); (case l4 => k_is); (case c4 => k_is); (case k4 => k_is); (case a5 => k_is); (case l5 => k_is); (case c5 => k_is); (case k5 => k_is); (case a6 => k_is); (case l6 => k_is); (case c6 => k_is); (case k6 => k_is); (case a7 => k_is); (case l7 => k_is); (case c7 => k_is); (case k7 => k_is); (case a8 => k_is); (case l8 => k_is); (case c8 => k_is); (case k8 => k_is); (case a9 => k_is); (case l9 => k_is); (case c9 => k_is); (case k9 => k_is); (case a10 => k_is); (case l10 => k_is); (case c10 => k_is); (case k10 => k_is); (case z0 => k_is); (case z1 => k_is); (case z2 => k_is); (case z3 => k_is); (case z4 => k_is); (case z5 => k_is); (case z6 => k_is); (case z7 => k_is); (case z8 => k_is); (case z9 => k_is); (case z10 => k_is); (case z11 => k_is); (case z12 => k_is); (case z13 => k_is); (case z14 => k_is)

